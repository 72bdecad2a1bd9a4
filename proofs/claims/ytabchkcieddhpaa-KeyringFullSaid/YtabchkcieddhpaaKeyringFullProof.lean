/- The statement KeyringFull: the law strongroomlaw13.KeyringFull answers true for every input, and leaves its arguments as they were. No further condition. -/
import Derived.Test.YtabchkcieddhpaaRows
import Derived.Test.YtabchkcieddhpaaLib
import Derived.Test.YtabchkcieddhpaaKrM
import Derived.Test.YtabchkcieddhpaaKrN
namespace Go.Proofs.Ytabchkcieddhpaa.keyringFull
open Go.ChangeShapes Go.WideShapes Go.ChangeAt Go.RowKit
open Go.Proofs.Ytabchkcieddhpaa.Oct
set_option linter.unusedVariables false

theorem own : ownKnob Try.prog.godebug = none := by kernel_rfl
theorem laidOut : laidOutB Try.prog = true := by kernel_rfl

/-- a keyring on a law's way -/
structure Sg (w wr : World) (T : Mk) (t B M : Nat) (K : Ks) : Prop where
  p : KpAt T wr t B K
  am : 1 ≤ t ∧ t + 10 ≤ M
  bd : ∀ k, T k < M
  old : ∀ k, k < w.heap.size → T k = 0
  bel : Below w.heap.size w wr
section
variable {w wr w2 : World} {T T' : Mk} {t B M : Nat} {K K' : Ks} {v : Value}
theorem Sg.step (h : Sg w wr T t B M K) (hp : KpAt T' w2 t B K') (f : Fk T T' t wr w2) : Sg w w2 T' t B M K' := by
  obtain ⟨a1, a2⟩ := h.am
  refine ⟨hp, h.am, fun k => ?_, fun k hk => ?_, h.bel.trans (f.fr.below h.bel.size fun k hk e => ?_)⟩
  · rcases f.mks k with e | e
    · rw [e]; exact h.bd k
    · have := e.2; omega
  · rw [f.fr.tag k (Nat.lt_of_lt_of_le hk h.bel.size)]; exact h.old k hk
  · rw [h.old k hk] at e; have := e.1; omega
theorem Sg.more (h : Sg w wr T t B M K) (hb : Below wr.heap.size wr w2) : Sg w w2 T t B M K :=
  h.step (h.p.fr (Fr.same (H := fun _ => False) hb) (fun _ _ e => e)) (.same (Fr.same hb))
theorem Sg.tell (h : Sg w wr T t B M K) (f : Nk T T' M wr w2) : Sg w w2 T' t B (M + 10) K := by
  obtain ⟨a1, a2⟩ := h.am
  refine ⟨h.p.fr (Fr.calm (H := fun _ => False) f.below f.tag) (fun _ _ e => e), ⟨a1, by omega⟩, fun k => ?_, fun k hk => ?_, onto h.bel h.bel.size f.below⟩
  · rcases f.mks k with e | e
    · rw [e]; have := h.bd k; omega
    · have := e.2; omega
  · rw [f.tag k (Nat.lt_of_lt_of_le hk h.bel.size)]; exact h.old k hk
theorem Sg.fresh (h : Sg w wr T t B M K) : ∀ k, k < wr.heap.size → ¬ Hk M (T k) := fun k _ e => by have := e.1; have := h.bd k; omega
theorem Sg.init (hb : Below w.heap.size w wr) (hp : KpAt T w2 10 B K) (f : Nk (fun _ => 0) T 10 wr w2) : Sg w w2 T 10 B 20 K := by
  refine ⟨hp, by omega, fun k => ?_, fun k hk => f.tag k (Nat.lt_of_lt_of_le hk hb.size), onto hb hb.size f.below⟩
  rcases f.mks k with e | e
  · rw [e]; omega
  · have := e.2; omega
end
/-- while keys are made -/
def P1 (K : Ks) (i : Nat) : Prop := K.length = min i 8 ∧ (0 < i → (K[0]?).map (·.l.length) = some 1)
theorem P1.nil : P1 [] 0 := ⟨rfl, fun h => absurd h (by omega)⟩
theorem P1.step {K : Ks} {i : Nat} {m : Bf} (h : P1 K i) : P1 (crK K m) (i + 1) := by
  obtain ⟨h1, h2⟩ := h
  unfold crK
  by_cases hi : 8 ≤ K.length
  · rw [if_pos hi]
    exact ⟨by omega, fun _ => h2 (by omega)⟩
  · rw [if_neg hi]
    refine ⟨by rw [List.length_append, List.length_singleton]; omega, fun _ => ?_⟩
    by_cases h0 : K.length = 0
    · obtain rfl := List.length_eq_zero_iff.1 h0
      rfl
    · rw [List.getElem?_append_left (by omega)]
      exact h2 (by omega)
theorem P1.val {K : Ks} {i : Nat} (h : P1 K i) : (i < 8 → crE K = 0 ∧ crN K = (i : Int) + 1) ∧ (8 ≤ i → crE K = 134 ∧ crN K = 0) := by
  obtain ⟨h1, -⟩ := h
  unfold crE crN
  refine ⟨fun hi => ?_, fun hi => ?_⟩
  · rw [if_neg (by omega), if_neg (by omega)]
    exact ⟨rfl, by omega⟩
  · rw [if_pos (by omega), if_pos (by omega)]
    exact ⟨rfl, rfl⟩
/-- while the first is rotated -/
def P2 (K : Ks) (a j : Nat) : Prop := K.length = min a 8 ∧ (0 < a → (K[0]?).map (·.l.length) = some (min (j + 1) 4))
theorem P2.init {K : Ks} {a : Nat} (h : P1 K a) : P2 K a 0 := h
theorem P2.len {K : Ks} {a j : Nat} (h : P2 K a j) (ha : 0 < a) : hasK K 1 = true ∧ (rgAt K 1).l.length = min (j + 1) 4 ∧ 0 < K.length := by
  obtain ⟨h1, h2⟩ := h
  have h3 := h2 ha
  have h0 : 0 < K.length := by omega
  refine ⟨hasK_iff.2 (by omega), ?_, h0⟩
  rw [List.getElem?_eq_getElem h0] at h3
  have h4 : (K[0]).l.length = min (j + 1) 4 := Option.some.inj h3
  rw [show rgAt K 1 = K[0] from rgAt_get 0 h0 rfl, h4]
theorem P2.no {K : Ks} {j : Nat} (h : P2 K 0 j) : rtE K 1 = 130 := by
  have h1 := h.1
  unfold rtE
  rw [if_neg fun e => by have := hasK_iff.1 e; omega]
theorem P2.val {K : Ks} {a j : Nat} (h : P2 K a j) (ha : 0 < a) : (j + 1 < 4 → rtE K 1 = 0 ∧ rtN K 1 = (j : Int) + 2) ∧ (4 ≤ j + 1 → rtE K 1 = 134) := by
  obtain ⟨h1, h2, h3⟩ := h.len ha
  refine ⟨fun hj => ?_, fun hj => ?_⟩
  · have hE : rtE K 1 = 0 := by unfold rtE; rw [if_pos h1, if_neg (by omega)]
    exact ⟨hE, by unfold rtN; rw [if_pos hE, h2]; omega⟩
  · unfold rtE; rw [if_pos h1, if_pos (by omega)]
theorem P2.step {K : Ks} {a j : Nat} {m : Bf} (h : P2 K a j) : P2 (rtK K 1 m) a (j + 1) := by
  by_cases ha : 0 < a
  · obtain ⟨h1, h2, h3⟩ := h.len ha
    unfold rtK
    by_cases hj : j + 1 < 4
    · rw [if_pos ((h.val ha).1 hj).1]
      refine ⟨by unfold putR; rw [List.length_set]; exact h.1, fun _ => ?_⟩
      unfold putR
      rw [show ((1 : Int) - 1).toNat = 0 from rfl, List.getElem?_set_self h3, Option.map_some, List.length_append, h2]
      simp only [List.length_singleton]
      congr 1
      omega
    · rw [if_neg (by rw [(h.val ha).2 (by omega)]; decide)]
      refine ⟨h.1, fun _ => ?_⟩
      rw [h.2 ha]
      congr 1
      omega
  · obtain rfl : a = 0 := by omega
    unfold rtK
    rw [if_neg (by rw [h.no]; decide)]
    exact ⟨h.1, fun h => absurd h (by omega)⟩
set_option maxRecDepth 20000 in
set_option maxHeartbeats 8000000 in
theorem walk (a0 : Nat → BitVec 8) (a1 : Int) (a2 : Int) (w : World) (w1 : (Lit.int .i64 a1).wf = true) (w2 : (Lit.int .i64 a2).wf = true) :
    Calls Try.prog 6 #[.agg (ba 32 a0), .int .i64 a1, .int .i64 a2] w fun e w' => e = .returned (.bool true) ∧ Below w.heap.size w w' := by
  have hq1 := wfK w1
  have hq2 := wfK w2
  obtain ⟨w0, hw0⟩ : ∃ w0, w0 = w.alloc (.cells (ba 32 a0) 32) := ⟨_, rfl⟩
  have b0 : Below w.heap.size w w0 := by rw [hw0]; exact (Below.refl w.heap.size w).alloc (by simp) _
  have r0 : row w0 w.heap.size = some (ba 32 a0) := by rw [hw0]; exact row_alloc_at _ _ _ _ rfl
  obtain ⟨Z, hZ⟩ : ∃ Z, Z = w.heap.size := ⟨_, rfl⟩
  rw [← hZ] at r0
  have hZ0 : Z < w0.heap.size := row_lt r0
  have B0 := Lib.hid b0
  have R0 := Lib.hid r0
  obtain ⟨x, hx⟩ : ∃ x : Nat, (x : Int) = kdF a1 21 := ⟨(kdF a1 21).toNat, by have := kdF_nn a1 21 (by omega); omega⟩
  obtain ⟨y, hy⟩ : ∃ x : Nat, (x : Int) = kdF a2 21 := ⟨(kdF a2 21).toNat, by have := kdF_nn a2 21 (by omega); omega⟩
  have hx21 : x < 21 := by have := kdF_nn a1 21 (by omega); omega
  have hy21 : y < 21 := by have := kdF_nn a2 21 (by omega); omega
  have HX := Lib.hid hx
  have HY := Lib.hid hy
  clear b0 r0 hx hy w1 w2
  go_enter Try.func6, Try.ntmps6
  go_wp2_with fail
  rw [← hw0, ← hZ]
  clear hw0 hZ
  refine (shown_any w0).mono ?_
  rintro e w1 ⟨rfl, hb1⟩
  go_wp2_with fail
  refine (pnew_any (fun _ => 0) 10 w1).mono ?_
  rintro e w2 ⟨B, T2, rfl, hp2, hn2⟩
  have S2 := Lib.hid (Sg.init hb1 hp2 hn2)
  clear hb1 hp2 hn2
  go_wp2_with fail
  refine (kind_any a1 21 hq1 (by omega) w2).mono ?_
  rintro e w3 ⟨rfl, rfl⟩
  rw [← HX.out]
  go_wp2_with fail
  refine (kind_any a2 21 hq2 (by omega) w2).mono ?_
  rintro e w3 ⟨rfl, rfl⟩
  rw [← HY.out]
  go_wp2_with fail
  go_loopw [11] (fun iv wr => ∃ (i : Nat) (T : Mk) (K : Ks), i ≤ x ∧ iv = .int .i64 i ∧ Sg w0 wr T 10 B 20 K ∧ P1 K i) (fun iv _ => x - (intOf iv).toNat)
  case atStart => exact ⟨0, _, _, by omega, rfl, S2.out, P1.nil⟩
  case round =>
    clear S2
    obtain ⟨i, T, K, hi, rfl, hS, hP⟩ := hrel
    obtain ⟨w3, rfl⟩ : ∃ w3 : World, w3 = wr := ⟨_, rfl⟩
    have HS := Lib.hid hS
    have HP := Lib.hid hP
    have r3 := (row_heap (hS.bel.block Z hZ0)).trans R0.out
    clear hS hP
    by_cases hlt : i < x
    · have hd1 : decide ((i : Int) < (x : Int)) = true := by simp; omega
      go_wp2_with fail
      refine (pcr_any T 10 B K a0 w3 HS.out.p).mono ?_
      rintro e w4 ⟨rfl, T4, hp4, f4⟩
      have S4 := Lib.hid (HS.out.step hp4 f4)
      have P4 := Lib.hid (HP.out.step (m := a0))
      obtain ⟨K4, hK4⟩ : ∃ K4, K4 = crK K a0 := ⟨_, rfl⟩
      rw [← hK4] at S4 P4
      clear hp4 f4 hK4 r3
      by_cases h8 : i < 8
      · have hd2 : decide ((i : Int) < 8) = true := by simp; omega
        obtain ⟨e1, e2⟩ := HP.out.val.1 h8
        rw [e1, e2]
        clear e1 e2 HP HS
        go_wp2_with fail
        go_roundw
        case rel => exact ⟨i + 1, _, _, by omega, by go_num, S4.out, P4.out⟩
        case measure => simp [intOf]; omega
      · have hd2 : decide ((i : Int) < 8) = false := by simp; omega
        obtain ⟨e1, e2⟩ := HP.out.val.2 (by omega)
        rw [e1, e2]
        clear e1 e2 HP HS
        go_wp2_with fail
        go_roundw
        case rel => exact ⟨i + 1, _, _, by omega, by go_num, S4.out, P4.out⟩
        case measure => simp [intOf]; omega
    · obtain rfl : i = x := by omega
      have hd1 : decide ((i : Int) < (i : Int)) = false := by simp
      have P3 := Lib.hid (P2.init HP.out)
      clear HP
      go_wp2_with fail
      clear r3
      go_loopw [14] (fun jv wr => ∃ (j : Nat) (T : Mk) (K : Ks), j ≤ y ∧ jv = .int .i64 j ∧ Sg w0 wr T 10 B 20 K ∧ P2 K i j) (fun jv _ => y - (intOf jv).toNat)
      case atStart => exact ⟨0, _, _, by omega, rfl, HS.out, P3.out⟩
      case round =>
        clear HS P3
        obtain ⟨j, T, K, hj, rfl, hS, hP⟩ := hrel
        obtain ⟨w5, rfl⟩ : ∃ w5 : World, w5 = wr := ⟨_, rfl⟩
        have HS := Lib.hid hS
        have HP := Lib.hid hP
        have r5 := (row_heap (hS.bel.block Z hZ0)).trans R0.out
        clear hS hP
        by_cases hlj : j < y
        · have hd2 : decide ((j : Int) < (y : Int)) = true := by simp; omega
          go_wp2_with fail
          refine (prt_any T 10 B K 1 a0 w5 HS.out.p).mono ?_
          rintro e w6 ⟨rfl, T6, hp6, f6⟩
          have S6 := Lib.hid (HS.out.step hp6 f6)
          have P6 := Lib.hid (HP.out.step (m := a0))
          obtain ⟨K6, hK6⟩ : ∃ K6, K6 = rtK K 1 a0 := ⟨_, rfl⟩
          rw [← hK6] at S6 P6
          clear hp6 f6 hK6 r5
          by_cases h0 : i = 0
          · have hd3 : decide ((i : Int) = 0) = true := by simp; omega
            have hd3' : ((i : Int) == 0) = true := by simp; omega
            have e1 : rtE K 1 = 130 := (show P2 K 0 j by rw [← h0]; exact HP.out).no
            rw [e1]
            clear e1 HP HS h0
            go_wp2_with fail
            go_roundw
            case rel => exact ⟨j + 1, _, _, by omega, by go_num, S6.out, P6.out⟩
            case measure => simp [intOf]; omega
          · have hd3 : decide ((i : Int) = 0) = false := by simp; omega
            have hd3' : ((i : Int) == 0) = false := by simp; omega
            by_cases h4 : j + 1 < 4
            · have hd4 : decide ((j : Int) + 1 < 4) = true := by simp; omega
              obtain ⟨e1, e2⟩ := (HP.out.val (by omega)).1 h4
              rw [e1, e2]
              clear e1 e2 HP HS
              go_wp2_with fail
              go_roundw
              case rel => exact ⟨j + 1, _, _, by omega, by go_num, S6.out, P6.out⟩
              case measure => simp [intOf]; omega
            · have hd4 : decide ((j : Int) + 1 < 4) = false := by simp; omega
              have e1 := (HP.out.val (by omega)).2 (by omega)
              rw [e1]
              clear e1 HP HS
              go_wp2_with fail
              go_roundw
              case rel => exact ⟨j + 1, _, _, by omega, by go_num, S6.out, P6.out⟩
              case measure => simp [intOf]; omega
        · have hd2 : decide ((j : Int) < (y : Int)) = false := by simp; omega
          obtain rfl : j = y := by omega
          clear r5
          go_wp2_with fail
          refine (prs_any T 10 20 B K w5 HS.out.p HS.out.fresh).mono ?_
          rintro e w6 ⟨v, T6, rfl, r6, f6⟩
          obtain ⟨A, c, rfl, hle, hmx, hf⟩ := r6.form
          have B6 := Lib.hid (onto B0.out B0.out.size (HS.out.tell f6).bel)
          have hl := HP.out.1
          by_cases h0 : i = 0
          · have hN : K.length = 0 := by omega
            rw [hN] at hle ⊢
            subst h0
            clear hf r6 f6 HP HS hl
            go_wp2_with fail
            all_goals
              go_ret
              exact ⟨rfl, B6.out⟩
          · obtain ⟨g, cur, rfl, hg, hr, -, -, hc⟩ := hf (by omega)
            obtain ⟨-, vi, hv1, hv2⟩ := hc 0 (by omega)
            obtain ⟨A2, c2, rfl, hle2, hmx2, -⟩ := hv2.form
            have hL := HP.out.len (by omega)
            have e1 : (K[0]'hL.2.2).l.length = min (j + 1) 4 := (congrArg (fun r : Rg => r.l.length) (rgAt_get (id := 1) 0 hL.2.2 rfl)).symm.trans hL.2.1
            rw [e1] at hv1 hle2
            have q1 : w6.cell? ⟨g, 1, none⟩ = some (.slice A2 (min (j + 1) 4) c2) := by rw [cell_row hr]; exact hv1
            have hd3 : decide ((i : Int) = 0) = false := by simp; omega
            have hd3' : ((i : Int) == 0) = false := by simp; omega
            rw [hl] at hle ⊢
            have h08 : 0 < min i 8 := by omega
            clear hf r6 f6 HP HS hl hc hv2 hv1 hL e1 hr hg
            go_wp2_with fail
            all_goals
              first
                | rw [show (((min (j + 1) 4 : Nat) : Int) == (j : Int) + 1) = true from by rw [beq_iff_eq]; omega]
                | rw [show (((min (j + 1) 4 : Nat) : Int) == 4) = true from by rw [beq_iff_eq]; omega]
              go_ret
              exact ⟨rfl, B6.out⟩

set_option maxRecDepth 100000 in
theorem lifted (os : Os) (started : os.Started) (H : Type) (enc : TypeId × Value → H) :
    ReturnsInHanded {} Try.checked os 6 .any (Rows.keyringFullSpec.pre6 enc Try.prog Try.f6 Rows.keyringFullRow.domain false) (Rows.keyringFullSpec.post enc Try.prog Try.f6 false true false false) := by
  refine returnsInHanded_of_change (C := Try.checked) own started (by kernel_rfl) Try.func6
    (ChangeSpec.witness6 (enc := enc) (C := Try.checked) false ⟨#[], #[.agg (Array.replicate 32 (.int .u8 0)), .int .i64 0, .int .i64 0], []⟩ 8 (by kernel_rfl) (by kernel_rfl) (by kernel_rfl) (by kernel_rfl)) ?_
  intro W base args ds gs before hval0 hW hcnd _
  have hval : ∀ (j : Nat) t v, Try.f6.params[j]? = some t → args[j]? = some v → Value.okWide Try.prog W .any base t v := hval0
  have hW' := hW
  obtain ⟨p, q, hA0, hV, rfl, hfz, hnd⟩ := hW
  have hA : DataW.TrodAll enc Try.prog W 0 (fun _ => true) true Try.f6.params.toList args.toList ds p := hA0
  rw [Try.params6] at hA hval
  obtain ⟨v0, vs0, d0, ds0, p0, q0, hargs, rfl, rfl, h0, r0⟩ := trodAll_cons hA
  obtain ⟨v1, vs1, d1, ds1, p1, q1, rfl, rfl, rfl, h1, r1⟩ := trodAll_cons r0
  obtain ⟨v2, vs2, d2, ds2, p2, q2, rfl, rfl, rfl, h2, r2⟩ := trodAll_cons r1
  obtain ⟨rfl, rfl, rfl⟩ := trodAll_nil r2
  obtain rfl : args = #[v0, v1, v2] := by cases args; simp_all
  obtain ⟨rfl, rfl⟩ := trodVars_none hV
  have k0 := h0
  have lt0 : ∀ x ∈ p0, x.block < W.heap.size := by obtain ⟨m, hm⟩ := k0; exact DataW.trod_lt m _ _ _ hm
  obtain ⟨a0, rfl⟩ := open_bytes Try.underlying32 Try.underlying5 (by kernel_rfl) (by kernel_rfl) (hval 0 32 v0 rfl rfl) h0
  obtain ⟨a1, rfl, rfl, rfl, w1⟩ := open_int Try.underlying3 (hval 1 3 v1 rfl rfl) h1
  obtain ⟨a2, rfl, rfl, rfl, w2⟩ := open_int Try.underlying3 (hval 2 3 v2 rfl rfl) h2
  clear hA0 hval0
  refine (walk a0 a1 a2 W w1 w2).mono fun e W' ⟨he, bel⟩ => ?_
  subst he
  exact ⟨_, rfl, _, _, _, [], _, [], hW', trodAll_mk1 (shut_bool Try.underlying4 _), (trodAll_cons_mk (Below.trod laidOut (by kernel_rfl) (of_decide_eq_true (by kernel_rfl)) k0 bel lt0) (trodAll_cons_mk (shut_int Try.underlying3 w1) (trodAll_cons_mk (shut_int Try.underlying3 w2) trodAll_mk0))), rfl, bel.frame _, fun h => by cases h⟩

theorem over : Rows.keyringFullRow.holds Try.pinned (OpenSpec.ofChange Rows.keyringFullSpec) :=
  OpenClaim.holds_of_wide 6 Try.f6 rfl rfl rfl rfl rfl rfl rfl ⟨rfl, rfl, rfl, rfl, rfl⟩ rfl rfl rfl rfl rfl (by kernel_rfl) Try.func6 (by kernel_rfl)
    (of_decide_eq_true (by kernel_rfl)) (by unfold Func.isWrapper; first | (rw [if_pos (by decide +kernel)]; kernel_rfl) | (rw [if_neg (by decide +kernel)]; exact ⟨rfl, rfl⟩))
    (fun os started H enc _ => lifted os started H enc)

theorem proved : Rows.KeyringFullSaid := over
#print axioms proved
end Go.Proofs.Ytabchkcieddhpaa.keyringFull
