/- The statement SessionsApart: the law strongroomlaw15.SessionsApart answers true for every input, and leaves its arguments as they were. No further condition. -/
import Derived.Test.YthokiohdeclmhaaRows
import Derived.Test.YthokiohdeclmhaaLib
import Derived.Test.YthokiohdeclmhaaSsT
namespace Go.Proofs.Ythokiohdeclmhaa.sessionsApart
open Go.ChangeShapes Go.WideShapes Go.ChangeAt Go.RowKit
open Go.Proofs.Ythokiohdeclmhaa.Oct
set_option linter.unusedVariables false

theorem own : ownKnob Try.prog.godebug = none := by kernel_rfl
theorem laidOut : laidOutB Try.prog = true := by kernel_rfl

theorem ak_of {l : List Se} {id q : Int} {s : Se} (h : ssG l id = some s) : akE l id q = (if q < s.q ∨ q < 1 then 151 else 0) ∧ akB l id q = decide (¬ (q < s.q ∨ q < 1) ∧ q = s.q) ∧ akS l id q = if ¬ (q < s.q ∨ q < 1) ∧ q = s.q then s else .new 0 := by
  unfold akE akB akS
  rw [h]
  exact ⟨rfl, rfl, rfl⟩
/-- a session without a request answers no number -/
theorem ak_new {l : List Se} {id : Int} {i : Int} (h : ssG l id = some (.new i)) (q : Int) : (akE l id q == 0) = decide (0 < q) ∧ akB l id q = false ∧ akS l id q = .new 0 ∧ (¬ 0 < q → akE l id q = 151) := by
  obtain ⟨h1, h2, h3⟩ := ak_of (q := q) h
  have e : (Se.new i).q = 0 := rfl
  rw [e] at h1 h2 h3
  rw [h1, h2, h3]
  by_cases hq : 0 < q
  · refine ⟨?_, decide_eq_false (by omega), if_neg (by omega), fun h => absurd hq h⟩
    rw [if_neg (by omega), decide_eq_true hq]
    rfl
  · refine ⟨?_, decide_eq_false (by omega), if_neg (by omega), fun _ => if_pos (by omega)⟩
    rw [if_pos (by omega), decide_eq_false hq]
    rfl
theorem ak_last {l : List Se} {id : Int} {s : Se} (h : ssG l id = some s) (hq : 0 < s.q) : akE l id s.q = 0 ∧ akB l id s.q = true ∧ akS l id s.q = s := by
  obtain ⟨h1, h2, h3⟩ := ak_of (q := s.q) h
  rw [h1, h2, h3]
  exact ⟨if_neg (by omega), decide_eq_true (by omega), if_pos (by omega)⟩
set_option maxRecDepth 20000 in
set_option maxHeartbeats 8000000 in
theorem walk (a0 : Int) (a1 : Int) (x2 n2 m2 : Int) (f2 : Nat → BitVec 8) (T2 c2 : Nat) (A2 : Option Addr) (w : World) (w0 : (Lit.int .i64 a0).wf = true) (w1 : (Lit.int .i64 a1).wf = true) (hf2 : Sl w w.heap.size A2 T2 c2 f2) (hx2 : i64B x2) (hn2 : i64B n2) (hm2 : i64B m2) :
    Calls Try.prog 7 #[.int .i64 a0, .int .i64 a1, repV x2 n2 m2 (.slice A2 T2 c2)] w fun e w' => e = .returned (.bool true) ∧ Below w.heap.size w w' := by
  have A0 := wf_bd2 w0
  have A1 := wf_bd2 w1
  have s0 := Stb.triv
  have HF := Lib.hid hf2
  obtain ⟨x1, hx1⟩ : ∃ x1, x1 = w.alloc (.cells #[.int .i64 x2, .int .i64 n2, .int .i64 m2, .slice A2 T2 c2] 31) := ⟨_, rfl⟩
  have B1 := Lib.hid (show Below w.heap.size w x1 by rw [hx1]; exact (Below.refl _ _).alloc (Nat.le_refl _) _)
  have R1 := Lib.hid (show row x1 w.heap.size = some #[.int .i64 x2, .int .i64 n2, .int .i64 m2, .slice A2 T2 c2] by rw [hx1]; exact row_alloc_at _ _ _ _ rfl)
  clear w0 w1 hf2 hx2 hn2 hm2
  go_enter Try.func7, Try.ntmps7
  go_upto_region 1 with fail
  rw [← hx1]
  clear hx1
  go_wp2_with fail
  refine (shown15_any x1).mono ?_
  rintro e w1 ⟨rfl, hb⟩
  have B2 := Lib.hid (onto B1.out B1.out.size hb)
  have R2 := Lib.hid (carry hb R1.out)
  have H2 := Lib.hid (ps_new w1)
  clear hb B1 R1
  go_wp2_with fail
  refine H2.out.mono ?_
  rintro e w2 ⟨B, rfl, h⟩
  have P2 := Lib.hid h
  clear h H2
  go_wp2_with fail
  refine (ps_open P2.out s0).mono ?_
  rintro e w3 ⟨rfl, h⟩
  have P3 := Lib.hid (show PS (fun _ _ => True) w1 w3 B [.new 1] 1 from h)
  clear h P2
  go_wp2_with fail
  refine (ps_open P3.out s0).mono ?_
  rintro e w4 ⟨rfl, h⟩
  have P4 := Lib.hid (show PS (fun _ _ => True) w1 w4 B [.new 1, .new 2] 2 from h)
  have B4 := Lib.hid (onto B2.out B2.out.size h.bel)
  have R4 := Lib.hid (carry h.bel R2.out)
  have H5 := Lib.hid (ps_own P4.out s0 x2 n2 m2 T2 c2 A2 f2 ((HF.out.below B4.out).more B4.out.size))
  clear h P3
  have r4 := R4.out
  go_wp2_with fail
  refine H5.out.mono ?_
  rintro e w5 ⟨A5, c5, rfl, h, -, -, hb5⟩
  have R5 := Lib.hid (carry hb5 R4.out)
  obtain ⟨K, hK⟩ : ∃ K, K = min T2 100 := ⟨_, rfl⟩
  have hK100 : K ≤ 100 := by omega
  have HK := Lib.hid hK
  rw [← hK] at h ⊢
  have H6 := Lib.hid (ps_done ⟨1, a0, x2, n2, m2, K, f2⟩ h s0 (by unfold i64B; simp only; omega) (by simp only; omega))
  clear hK h r4 H5 hb5 P4 R4
  by_cases ha : 0 < a0
  · obtain ⟨X, hX⟩ : ∃ X : Se, X = ⟨1, a0, x2, n2, m2, K, f2⟩ := ⟨_, rfl⟩
    have H6x := H6.out
    rw [show dnE [Se.new 1, Se.new 2] (⟨1, a0, x2, n2, m2, K, f2⟩ : Se).id (⟨1, a0, x2, n2, m2, K, f2⟩ : Se).q = 0 from if_neg (by show ¬ a0 ≤ 0; omega)] at H6x
    have hL : dnL [Se.new 1, Se.new 2] (⟨1, a0, x2, n2, m2, K, f2⟩ : Se) = [X, Se.new 2] := by
      rw [hX]
      exact if_pos (if_neg (by show ¬ a0 ≤ 0; omega))
    rw [hL] at H6x
    have H6' := Lib.hid H6x
    obtain ⟨L6, hL6⟩ : ∃ L6, L6 = [X, Se.new 2] := ⟨_, rfl⟩
    have HL2 := Lib.hid (show ssG L6 2 = some (.new 2) by rw [hL6, hX]; rfl)
    have HX2 := Lib.hid (show exE L6 2 = 0 by rw [hL6, hX]; rfl)
    have HX3 := Lib.hid (show ssX L6 2 = [X] by rw [hL6, hX]; rfl)
    have HX1 := Lib.hid (show X.q = a0 by rw [hX])
    have HX4 := Lib.hid hX
    have hG3 : ssG [X] 1 = some X := by rw [hX]; rfl
    have hlast := ak_last hG3 (by rw [hX]; exact ha)
    rw [HX1.out] at hlast
    have HLa := Lib.hid hlast
    rw [← hL6] at H6'
    clear H6x hL hL6 hX hG3 H6 hlast
    go_wp2_with fail
    refine H6'.out.mono ?_
    rintro e w6 ⟨rfl, h⟩
    have s1 := Stb.and s0 (Stb.rd 51 A5 K c5 f2 (.inr (by omega)))
    have P6 := Lib.hid h
    clear h H6'
    have hG2 : ssG L6 2 = some (.new 2) := HL2.out
    obtain ⟨q1, q2, q3, -⟩ := ak_new hG2 a1
    have H7 := ps_ask P6.out s1 2 a1 (by unfold i64B; omega)
    rw [q2, q3] at H7
    obtain ⟨EB, hEB⟩ : ∃ EB, EB = akE L6 2 a1 := ⟨_, rfl⟩
    rw [← hEB] at H7 q1
    have H7' := Lib.hid H7
    have Q1 := Lib.hid q1
    clear H7 hEB q1 q2 q3 hG2
    go_wp2_with fail
    refine H7'.out.mono ?_
    rintro e w7 ⟨A7, c7, rfl, -, -, h, -⟩
    rw [show repV (Se.new 0).c (Se.new 0).n (Se.new 0).m (.slice A7 (Se.new 0).T c7) = repV 0 0 0 (.slice A7 0 c7) from rfl]
    have P7 := Lib.hid (h.calm s1 ((Below.refl _ _).alloc (Nat.le_refl _) (.cells #[.int .i64 0, .int .i64 0, .int .i64 0, .slice A7 0 c7] 31)))
    clear h H7' P6
    have H8 := ps_exp P7.out s1 2 (by unfold i64B; omega)
    rw [HX2.out, HX3.out] at H8
    have H8' := Lib.hid H8
    clear H8
    go_wp2_with fail
    refine H8'.out.mono ?_
    rintro e w8 ⟨rfl, h⟩
    have P8 := Lib.hid h
    clear h H8' P7
    have H9 := ps_ask P8.out s1 1 a0 (by unfold i64B; omega)
    obtain ⟨q1, q2, q3⟩ := HLa.out
    rw [q1, q2, q3, HX4.out] at H9
    have H9' := Lib.hid H9
    have R8 := Lib.hid (show row w8 w.heap.size = _ from carry P8.out.bel R2.out)
    have B8 := Lib.hid (onto B2.out B2.out.size P8.out.bel)
    clear H9 q1 q2 q3 R5
    go_wp2_with fail
    refine H9'.out.mono ?_
    rintro e w9 ⟨A9, c9, rfl, -, hs9, h, hb⟩
    have hs9 : Sl w9 w9.heap.size A9 K c9 f2 := hs9
    rw [show repV (⟨1, a0, x2, n2, m2, K, f2⟩ : Se).c (⟨1, a0, x2, n2, m2, K, f2⟩ : Se).n (⟨1, a0, x2, n2, m2, K, f2⟩ : Se).m (.slice A9 (⟨1, a0, x2, n2, m2, K, f2⟩ : Se).T c9) = repV x2 n2 m2 (.slice A9 K c9) from rfl]
    have bx : Below w9.heap.size w9 (w9.alloc (.cells #[.int .i64 x2, .int .i64 n2, .int .i64 m2, .slice A9 K c9] 31)) := (Below.refl _ _).alloc (Nat.le_refl _) _
    obtain ⟨w10, hw10⟩ : ∃ w10, w10 = w9.alloc (.cells #[.int .i64 x2, .int .i64 n2, .int .i64 m2, .slice A9 K c9] 31) := ⟨_, rfl⟩
    rw [← hw10] at bx
    have B10 := Lib.hid (onto (onto B8.out B8.out.size hb) (Nat.le_trans B8.out.size hb.size) bx)
    have R10 := Lib.hid (carry bx (carry hb R8.out))
    have Q10 := Lib.hid (show row w10 w9.heap.size = some #[.int .i64 x2, .int .i64 n2, .int .i64 m2, .slice A9 K c9] by rw [hw10]; exact row_alloc_at _ _ _ _ rfl)
    have S10 := Lib.hid ((hs9.below bx).more bx.size)
    clear bx hb h H9' P8 R8 B8 hs9
    have d0 : decide (0 < a0) = true := decide_eq_true ha
    have d1 : decide (a0 ≤ 0) = false := decide_eq_false (by omega)
    have q1 := Q1.out
    go_upto_region 15 with fail
    rw [← hw10]
    clear hw10
    refine flow_seen [([0, 1], 2, false), ([], 3, true)] [4] (by kernel_rfl) (by kernel_rfl) (fun _ _ _ _ _ h => h) fun Z => ?_
    have R11 := Lib.hid (carry Z.below R10.out)
    have Q11 := Lib.hid (carry Z.below Q10.out)
    have B11 := Lib.hid (onto B10.out B10.out.size Z.below)
    have S11 := Lib.hid ((S10.out.below Z.below).more Z.below.size)
    obtain ⟨w11, hw11⟩ : ∃ w11, w11 = Z.val := ⟨_, rfl⟩
    rw [← hw11] at R11 Q11 B11 S11 ⊢
    clear hw11 Z R10 Q10 B10 S10
    have H12 := sown_any x2 n2 m2 T2 c2 A2 f2 w11 ((HF.out.below B11.out).more B11.out.size)
    rw [← HK.out] at H12
    have H12' := Lib.hid H12
    have cR := fun y : After w11 => After.row R11.out y
    have cQ := fun y : After w11 => After.row Q11.out y
    clear H12
    simp only [wpFs, pk, List.getElem?_cons_zero, List.getElem?_cons_succ]
    repeat (go_big_quiet_step (fail))
    refine wpQuiet_nil ?_
    clear cR cQ
    go_wp2_with fail
    refine H12'.out.mono ?_
    rintro e w12 ⟨A12, c12, rfl, ho, hb⟩
    have B12 := Lib.hid (onto B11.out B11.out.size hb)
    have S12 := (S11.out.below hb).more hb.size
    obtain ⟨A', c', e', hs12, -, -⟩ := ho.sl
    cases e'
    have H13 := samerep_any x2 n2 m2 x2 n2 m2 K K c9 c12 A9 A12 f2 f2 w12 S12 hs12
    rw [repS_refl] at H13
    have H13' := Lib.hid H13
    go_wp2_with fail
    refine ⟨.inr hb, ?_⟩
    clear hb ho hs12 S12 H13 H12' R11 Q11 B11 S11
    show wpQuiet _ _ _ _ _ _
    refine wpQuiet_nil ?_
    go_wp2_with fail
    refine H13'.out.mono ?_
    rintro e w13 ⟨rfl, hb⟩
    have B13 := Lib.hid (onto B12.out B12.out.size hb)
    go_wp2_with fail
    refine ⟨.inl trivial, ?_⟩
    clear hb H13' B12
    show wpQuiet _ _ _ _ _ _
    repeat (go_big_quiet_step (fail))
    refine wpQuiet_nil ?_
    go_wp2_with fail
    go_ret
    exact ⟨rfl, B13.out⟩
  · have H6x := H6.out
    rw [show dnE [Se.new 1, Se.new 2] (⟨1, a0, x2, n2, m2, K, f2⟩ : Se).id (⟨1, a0, x2, n2, m2, K, f2⟩ : Se).q = 151 from if_pos (by show a0 ≤ 0; omega)] at H6x
    have hL : dnL [Se.new 1, Se.new 2] (⟨1, a0, x2, n2, m2, K, f2⟩ : Se) = [Se.new 1, Se.new 2] := by
      refine if_neg ?_
      rw [show dnE [Se.new 1, Se.new 2] (⟨1, a0, x2, n2, m2, K, f2⟩ : Se).id (⟨1, a0, x2, n2, m2, K, f2⟩ : Se).q = 151 from if_pos (by show a0 ≤ 0; omega)]
      omega
    rw [hL] at H6x
    have H6' := Lib.hid H6x
    obtain ⟨L6, hL6⟩ : ∃ L6, L6 = [Se.new 1, Se.new 2] := ⟨_, rfl⟩
    have HL2 := Lib.hid (show ssG L6 2 = some (.new 2) by rw [hL6]; rfl)
    have HX2 := Lib.hid (show exE L6 2 = 0 by rw [hL6]; rfl)
    have HX3 := Lib.hid (show ssX L6 2 = [Se.new 1] by rw [hL6]; rfl)
    rw [← hL6] at H6'
    clear H6x hL hL6 H6
    go_wp2_with fail
    refine H6'.out.mono ?_
    rintro e w6 ⟨rfl, h⟩
    have s1 := Stb.and s0 (Stb.rd 51 A5 K c5 f2 (.inr (by omega)))
    have P6 := Lib.hid h
    clear h H6'
    have hG2 : ssG L6 2 = some (.new 2) := HL2.out
    obtain ⟨q1, q2, q3, -⟩ := ak_new hG2 a1
    have H7 := ps_ask P6.out s1 2 a1 (by unfold i64B; omega)
    rw [q2, q3] at H7
    obtain ⟨EB, hEB⟩ : ∃ EB, EB = akE L6 2 a1 := ⟨_, rfl⟩
    rw [← hEB] at H7 q1
    have H7' := Lib.hid H7
    have Q1 := Lib.hid q1
    clear H7 hEB q1 q2 q3 hG2
    go_wp2_with fail
    refine H7'.out.mono ?_
    rintro e w7 ⟨A7, c7, rfl, -, -, h, -⟩
    rw [show repV (Se.new 0).c (Se.new 0).n (Se.new 0).m (.slice A7 (Se.new 0).T c7) = repV 0 0 0 (.slice A7 0 c7) from rfl]
    have P7 := Lib.hid (h.calm s1 ((Below.refl _ _).alloc (Nat.le_refl _) (.cells #[.int .i64 0, .int .i64 0, .int .i64 0, .slice A7 0 c7] 31)))
    clear h H7' P6
    have H8 := ps_exp P7.out s1 2 (by unfold i64B; omega)
    rw [HX2.out, HX3.out] at H8
    have H8' := Lib.hid H8
    clear H8
    go_wp2_with fail
    refine H8'.out.mono ?_
    rintro e w8 ⟨rfl, h⟩
    have P8 := Lib.hid h
    clear h H8' P7
    have H9 := ps_ask P8.out s1 1 a0 (by unfold i64B; omega)
    obtain ⟨-, q2, q3, q4⟩ := ak_new (l := [Se.new 1]) (id := 1) (i := 1) rfl a0
    rw [q2, q3, q4 (by omega)] at H9
    have H9' := Lib.hid H9
    have B8 := Lib.hid (onto B2.out B2.out.size P8.out.bel)
    clear H9 q2 q3 q4 R5
    go_wp2_with fail
    refine H9'.out.mono ?_
    rintro e w9 ⟨A9, c9, rfl, -, -, h, hb⟩
    rw [show repV (Se.new 0).c (Se.new 0).n (Se.new 0).m (.slice A9 (Se.new 0).T c9) = repV 0 0 0 (.slice A9 0 c9) from rfl]
    have B10 := Lib.hid (onto (onto B8.out B8.out.size hb) (Nat.le_trans B8.out.size hb.size) ((Below.refl w9.heap.size w9).alloc (Nat.le_refl _) (.cells #[.int .i64 0, .int .i64 0, .int .i64 0, .slice A9 0 c9] 31)))
    have d0 : decide (0 < a0) = false := decide_eq_false (by omega)
    have d1 : decide (a0 ≤ 0) = true := decide_eq_true (by omega)
    have q1 := Q1.out
    clear h hb H9' P8 B8
    go_wp2_with fail
    go_ret
    exact ⟨rfl, B10.out⟩

set_option maxRecDepth 100000 in
theorem lifted (os : Os) (started : os.Started) (H : Type) (enc : TypeId × Value → H) :
    ReturnsInHanded {} Try.checked os 7 .any (Rows.sessionsApartSpec.pre6 enc Try.prog Try.f7 Rows.sessionsApartRow.domain false) (Rows.sessionsApartSpec.post enc Try.prog Try.f7 false true false false) := by
  refine returnsInHanded_of_change (C := Try.checked) own started (by kernel_rfl) Try.func7
    (ChangeSpec.witness6 (enc := enc) (C := Try.checked) false ⟨#[], #[.int .i64 0, .int .i64 0, .agg #[.int .i64 0, .int .i64 0, .int .i64 0, .slice none 0 0]], []⟩ 8 (by kernel_rfl) (by kernel_rfl) (by kernel_rfl) (by kernel_rfl)) ?_
  intro W base args ds gs before hval0 hW hcnd _
  have hval : ∀ (j : Nat) t v, Try.f7.params[j]? = some t → args[j]? = some v → Value.okWide Try.prog W .any base t v := hval0
  have hW' := hW
  obtain ⟨p, q, hA0, hV, rfl, hfz, hnd⟩ := hW
  have hA : DataW.TrodAll enc Try.prog W 0 (fun _ => true) true Try.f7.params.toList args.toList ds p := hA0
  rw [Try.params7] at hA hval
  obtain ⟨v0, vs0, d0, ds0, p0, q0, hargs, rfl, rfl, h0, r0⟩ := trodAll_cons hA
  obtain ⟨v1, vs1, d1, ds1, p1, q1, rfl, rfl, rfl, h1, r1⟩ := trodAll_cons r0
  obtain ⟨v2, vs2, d2, ds2, p2, q2, rfl, rfl, rfl, h2, r2⟩ := trodAll_cons r1
  obtain ⟨rfl, rfl, rfl⟩ := trodAll_nil r2
  obtain rfl : args = #[v0, v1, v2] := by cases args; simp_all
  obtain ⟨rfl, rfl⟩ := trodVars_none hV
  obtain ⟨a0, rfl, rfl, rfl, w0⟩ := open_int Try.underlying3 (hval 0 3 v0 rfl rfl) h0
  obtain ⟨a1, rfl, rfl, rfl, w1⟩ := open_int Try.underlying3 (hval 1 3 v1 rfl rfl) h1
  have k2 := h2
  have lt2 : ∀ x ∈ p2, x.block < W.heap.size := by obtain ⟨m, hm⟩ := k2; exact DataW.trod_lt m _ _ _ hm
  obtain ⟨xa2, na2, ma2, Aa2, Ta2, ca2, fa2, rfl, hfa2, -, hxa2, hna2, hma2⟩ := open_rep (hval 2 31 v2 rfl rfl) h2
  clear hA0 hval0
  refine (walk a0 a1 xa2 na2 ma2 fa2 Ta2 ca2 Aa2 W w0 w1 hfa2 hxa2 hna2 hma2).mono fun e W' ⟨he, bel⟩ => ?_
  subst he
  exact ⟨_, rfl, _, _, _, [], _, [], hW', trodAll_mk1 (shut_bool Try.underlying4 _), (trodAll_cons_mk (shut_int Try.underlying3 w0) (trodAll_cons_mk (shut_int Try.underlying3 w1) (trodAll_cons_mk (Below.trod laidOut (by kernel_rfl) (of_decide_eq_true (by kernel_rfl)) k2 bel lt2) trodAll_mk0))), rfl, bel.frame _, fun h => by cases h⟩

theorem over : Rows.sessionsApartRow.holds Try.pinned (OpenSpec.ofChange Rows.sessionsApartSpec) :=
  OpenClaim.holds_of_wide 7 Try.f7 rfl rfl rfl rfl rfl rfl rfl ⟨rfl, rfl, rfl, rfl, rfl⟩ rfl rfl rfl rfl rfl (by kernel_rfl) Try.func7 (by kernel_rfl)
    (of_decide_eq_true (by kernel_rfl)) (by unfold Func.isWrapper; first | (rw [if_pos (by decide +kernel)]; kernel_rfl) | (rw [if_neg (by decide +kernel)]; exact ⟨rfl, rfl⟩))
    (fun os started H enc _ => lifted os started H enc)

theorem proved : Rows.SessionsApartSaid := over
#print axioms proved
end Go.Proofs.Ythokiohdeclmhaa.sessionsApart
