/- The statement SessionsFull: the law strongroomlaw15.SessionsFull answers true for every input, and leaves its arguments as they were. No further condition. -/
import Derived.Test.YthokiohdeclmhaaRows
import Derived.Test.YthokiohdeclmhaaLib
import Derived.Test.YthokiohdeclmhaaSsT
namespace Go.Proofs.Ythokiohdeclmhaa.sessionsFull
open Go.ChangeShapes Go.WideShapes Go.ChangeAt Go.RowKit
open Go.Proofs.Ythokiohdeclmhaa.Oct
set_option linter.unusedVariables false

theorem own : ownKnob Try.prog.godebug = none := by kernel_rfl
theorem laidOut : laidOutB Try.prog = true := by kernel_rfl

/-- the first k sessions -/
def fl (k : Nat) : List Se := (List.range k).map fun (j : Nat) => Se.new ((j : Int) + 1)
theorem fl_len (k : Nat) : (fl k).length = k := by unfold fl; simp
theorem fl_opF {k : Nat} (hk : k ≤ 8) : opF (fl k) k = decide (k = 8) := by
  unfold opF
  rw [fl_len, show decide ((k : Int) + 1 = 1099511627776) = false from decide_eq_false (by omega), Bool.or_false]
theorem fl_op {j : Nat} : opL (fl (min j 8)) ((min j 8 : Nat) : Int) = fl (min (j + 1) 8) ∧ opG (fl (min j 8)) ((min j 8 : Nat) : Int) = ((min (j + 1) 8 : Nat) : Int) ∧ opN (fl (min j 8)) ((min j 8 : Nat) : Int) = (if j < 8 then (j : Int) + 1 else 0) ∧ opE (fl (min j 8)) ((min j 8 : Nat) : Int) = if j < 8 then 0 else 134 := by
  have hF := fl_opF (Nat.min_le_right j 8)
  unfold opL opG opN opE
  by_cases h : j < 8
  · rw [Nat.min_eq_left (by omega)] at hF ⊢
    rw [hF, decide_eq_false (by omega), Nat.min_eq_left (by omega)]
    refine ⟨?_, rfl, by rw [if_pos h]; rfl, by rw [if_pos h]; rfl⟩
    show fl j ++ [Se.new ((j : Int) + 1)] = fl (j + 1)
    unfold fl
    rw [List.range_succ, List.map_append]
    rfl
  · rw [Nat.min_eq_right (by omega)] at hF ⊢
    rw [hF, decide_eq_true rfl, Nat.min_eq_right (by omega), if_neg h, if_neg h]
    exact ⟨rfl, rfl, rfl, rfl⟩
theorem fl_has {k : Nat} {d : Int} (h0 : 0 ≤ d) (h1 : d < k) : ssH (fl k) (1 + d) = true := by
  unfold ssH fl
  rw [List.any_eq_true]
  refine ⟨Se.new (((d.toNat : Nat) : Int) + 1), List.mem_map.2 ⟨d.toNat, List.mem_range.2 (by omega), rfl⟩, ?_⟩
  show (((d.toNat : Nat) : Int) + 1 == 1 + d) = true
  rw [beq_iff_eq]
  omega
theorem ssX_len {l : List Se} {id : Int} (hup : l.Pairwise fun a b => a.id < b.id) (h : ssH l id = true) : (ssX l id).length + 1 = l.length := by
  induction l with
  | nil => cases h
  | cons a r ih =>
    obtain ⟨p1, p2⟩ := List.pairwise_cons.1 hup
    unfold ssX ssH at *
    rw [List.filter_cons]
    rw [List.any_cons] at h
    by_cases e : a.id = id
    · have hn : r.filter (fun s => !(s.id == id)) = r := by
        rw [List.filter_eq_self]
        intro s hs
        have := p1 s hs
        simp
        omega
      rw [show (a.id == id) = true by simpa using e, hn]
      rfl
    · rw [show (a.id == id) = false by simpa using e] at h ⊢
      have := ih p2 (by simpa using h)
      simp only [Bool.not_false, if_true, List.length_cons]
      omega
set_option maxRecDepth 20000 in
set_option maxHeartbeats 8000000 in
theorem walk (a0 : Int) (a1 : Int) (w : World) (w0 : (Lit.int .i64 a0).wf = true) (w1 : (Lit.int .i64 a1).wf = true) :
    Calls Try.prog 6 #[.int .i64 a0, .int .i64 a1] w fun e w' => e = .returned (.bool true) ∧ Below w.heap.size w w' := by
  have A0 := wf_bd2 w0
  have A1 := wf_bd2 w1
  have s0 := Stb.triv
  clear w0 w1
  go_enter Try.func6, Try.ntmps6
  go_wp2_with fail
  refine (shown15_any w).mono ?_
  rintro e w1 ⟨rfl, hb⟩
  have B1 := Lib.hid hb
  have H2 := Lib.hid (ps_new w1)
  clear hb
  go_wp2_with fail
  refine H2.out.mono ?_
  rintro e w2 ⟨B, rfl, h⟩
  have P2 := Lib.hid h
  have H3 := Lib.hid (kindS_any a0 31 A0 (by omega) w2)
  clear h H2
  go_wp2_with fail
  refine H3.out.mono ?_
  rintro e w3 ⟨rfl, rfl⟩
  obtain ⟨hk0, hk1⟩ := kdS_nn a0 31 (by omega)
  obtain ⟨k, hk⟩ : ∃ k : Nat, kdS a0 31 = (k : Int) := ⟨(kdS a0 31).toNat, by omega⟩
  have hk30 : k ≤ 30 := by omega
  rw [hk]
  clear hk hk0 hk1 H3
  go_wp2_with fail
  go_loopw [8] (fun iv wr => ∃ j : Nat, j ≤ k ∧ iv = .int .i64 (j : Int) ∧ PS (fun _ _ => True) w1 wr B (fl (min j 8)) ((min j 8 : Nat) : Int)) (fun iv _ => k - (intOf iv).toNat)
  case atStart => exact ⟨0, by omega, rfl, P2.out⟩
  case round =>
    obtain ⟨j, hj, rfl, hp⟩ := hrel
    obtain ⟨wo, rfl⟩ : ∃ wo : World, wo = wr := ⟨_, rfl⟩
    have P := Lib.hid hp
    clear hp P2
    by_cases hlt : j < k
    · have hd : decide ((j : Int) < (k : Int)) = true := by simp; omega
      obtain ⟨e1, e2, e3, e4⟩ := fl_op (j := j)
      have H4 := ps_open P.out s0
      rw [e1, e2, e3, e4] at H4
      have H4' := Lib.hid H4
      clear e1 e2 e3 e4 H4
      have hw : IntKind.i64.wrap ((j : Int) + 1) = (j : Int) + 1 := IntWalk.i64_in _ (by omega)
      go_wp2_with fail
      refine H4'.out.mono ?_
      rintro e w4 ⟨rfl, h⟩
      have P4 := Lib.hid h
      clear h H4' P
      by_cases h8 : j < 8
      · have h8' := Lib.hid h8
        rw [if_pos h8, if_pos h8]
        have d8 : decide ((j : Int) < 8) = true := by simp; omega
        clear h8
        go_wp2_with fail
        refine ⟨⟨j + 1, by omega, by rw [Int.natCast_succ], P4.out⟩, ?_⟩
        simp only [intOf]
        omega
      · rw [if_neg h8, if_neg h8]
        have d8 : decide ((j : Int) < 8) = false := by simp; omega
        clear h8
        go_wp2_with fail
        refine ⟨⟨j + 1, by omega, by rw [Int.natCast_succ], P4.out⟩, ?_⟩
        simp only [intOf]
        omega
    · obtain rfl : j = k := by omega
      have hd : decide ((j : Int) < (j : Int)) = false := by simp
      obtain ⟨th, hth⟩ : ∃ th, th = min j 8 := ⟨_, rfl⟩
      have hm : min (j : Int) 8 = (th : Int) := by omega
      have ht8 : th ≤ 8 := by omega
      rw [← hth] at P
      clear hth hd hj hlt
      have hd : decide ((j : Int) < (j : Int)) = false := by simp
      by_cases h0 : th = 0
      · subst h0
        have H5 := ps_exp P.out s0 1 (by unfold i64B; omega)
        rw [show exE (fl 0) 1 = 150 from rfl] at H5
        have H5' := Lib.hid H5
        clear H5
        go_wp2_with fail
        refine H5'.out.mono ?_
        rintro e w4 ⟨rfl, h⟩
        have P4 := Lib.hid h
        clear h H5'
        go_wp2_with fail
        go_ret
        exact ⟨rfl, onto B1.out B1.out.size P4.out.bel⟩
      · have hz : ((th : Int) == 0) = false := by simp; exact h0
        have H5 := Lib.hid (kindS_any a1 (th : Int) A1 (by omega) wo)
        obtain ⟨hk0, hk1⟩ := kdS_nn a1 (th : Int) (by omega)
        obtain ⟨d, hdd⟩ : ∃ d, d = kdS a1 (th : Int) := ⟨_, rfl⟩
        rw [← hdd] at H5 hk0 hk1
        have hw1 : IntKind.i64.wrap (1 + d) = 1 + d := IntWalk.i64_in _ (by omega)
        have hhas := fl_has hk0 hk1
        have H6 := ps_exp P.out s0 (1 + d) (by unfold i64B; omega)
        have hlen := ssX_len P.out.ok.up hhas
        rw [fl_len] at hlen
        rw [show exE (fl th) (1 + d) = 0 by unfold exE; rw [hhas]; rfl] at H6
        obtain ⟨l2, hl2⟩ : ∃ l2, l2 = ssX (fl th) (1 + d) := ⟨_, rfl⟩
        rw [← hl2] at H6 hlen
        have H6' := Lib.hid H6
        have HD := Lib.hid (And.intro hk0 hk1)
        clear hdd H6 hl2 hhas hk0 hk1 h0
        go_wp2_with fail
        refine H5.out.mono ?_
        rintro e w4 ⟨rfl, rfl⟩
        go_wp2_with fail
        refine H6'.out.mono ?_
        rintro e w5 ⟨rfl, h⟩
        have H7 := ps_open h s0
        have hF : opF l2 (th : Int) = false := by
          unfold opF
          rw [decide_eq_false (by omega), decide_eq_false (by omega)]
          rfl
        have e1 : opN l2 (th : Int) = (th : Int) + 1 := by unfold opN; rw [hF]; rfl
        have e2 : opE l2 (th : Int) = 0 := by unfold opE; rw [hF]; rfl
        have e3 : opL l2 (th : Int) = l2 ++ [Se.new ((th : Int) + 1)] := by unfold opL; rw [hF]; rfl
        have e4 : opG l2 (th : Int) = (th : Int) + 1 := by unfold opG; rw [hF]; rfl
        rw [e1, e2, e3, e4] at H7
        have H7' := Lib.hid H7
        have hlen2 : (l2 ++ [Se.new ((th : Int) + 1)]).length = th := by rw [List.length_append, List.length_singleton]; omega
        clear h H7 hF e1 e2 e3 e4 hlen H5 H6' P
        go_wp2_with fail
        refine H7'.out.mono ?_
        rintro e w6 ⟨rfl, h⟩
        have H8 := ps_seats h s0
        rw [hlen2] at H8
        have H8' := Lib.hid H8
        clear h H8 H7' hlen2
        go_wp2_with fail
        refine H8'.out.mono ?_
        rintro e w7 ⟨A, c, rfl, h⟩
        have B7 := Lib.hid (onto B1.out B1.out.size h.bel)
        have hw2 : IntKind.i64.wrap ((th : Int) + 1) = (th : Int) + 1 := IntWalk.i64_in _ (by omega)
        have hw3 : IntKind.i64.wrap ((th : Int) + 2) = (th : Int) + 2 := IntWalk.i64_in _ (by omega)
        have hw4 : ((th : Int) + 1 + 1 == (th : Int) + 2) = true := by simp; omega
        have hw5 : ((th : Int) + 1 == (th : Int) + 1) = true := by simp
        have hw6 : ((th : Int) == (th : Int)) = true := by simp
        clear h H8'
        go_wp2_with fail
        go_ret
        exact ⟨rfl, B7.out⟩

set_option maxRecDepth 100000 in
theorem lifted (os : Os) (started : os.Started) (H : Type) (enc : TypeId × Value → H) :
    ReturnsInHanded {} Try.checked os 6 .any (Rows.sessionsFullSpec.pre6 enc Try.prog Try.f6 Rows.sessionsFullRow.domain false) (Rows.sessionsFullSpec.post enc Try.prog Try.f6 false true false false) := by
  refine returnsInHanded_of_change (C := Try.checked) own started (by kernel_rfl) Try.func6
    (ChangeSpec.witness6 (enc := enc) (C := Try.checked) false ⟨#[], #[.int .i64 0, .int .i64 0], []⟩ 8 (by kernel_rfl) (by kernel_rfl) (by kernel_rfl) (by kernel_rfl)) ?_
  intro W base args ds gs before hval0 hW hcnd _
  have hval : ∀ (j : Nat) t v, Try.f6.params[j]? = some t → args[j]? = some v → Value.okWide Try.prog W .any base t v := hval0
  have hW' := hW
  obtain ⟨p, q, hA0, hV, rfl, hfz, hnd⟩ := hW
  have hA : DataW.TrodAll enc Try.prog W 0 (fun _ => true) true Try.f6.params.toList args.toList ds p := hA0
  rw [Try.params6] at hA hval
  obtain ⟨v0, vs0, d0, ds0, p0, q0, hargs, rfl, rfl, h0, r0⟩ := trodAll_cons hA
  obtain ⟨v1, vs1, d1, ds1, p1, q1, rfl, rfl, rfl, h1, r1⟩ := trodAll_cons r0
  obtain ⟨rfl, rfl, rfl⟩ := trodAll_nil r1
  obtain rfl : args = #[v0, v1] := by cases args; simp_all
  obtain ⟨rfl, rfl⟩ := trodVars_none hV
  obtain ⟨a0, rfl, rfl, rfl, w0⟩ := open_int Try.underlying3 (hval 0 3 v0 rfl rfl) h0
  obtain ⟨a1, rfl, rfl, rfl, w1⟩ := open_int Try.underlying3 (hval 1 3 v1 rfl rfl) h1
  clear hA0 hval0
  refine (walk a0 a1 W w0 w1).mono fun e W' ⟨he, bel⟩ => ?_
  subst he
  exact ⟨_, rfl, _, _, _, [], _, [], hW', trodAll_mk1 (shut_bool Try.underlying4 _), (trodAll_cons_mk (shut_int Try.underlying3 w0) (trodAll_cons_mk (shut_int Try.underlying3 w1) trodAll_mk0)), rfl, bel.frame _, fun h => by cases h⟩

theorem over : Rows.sessionsFullRow.holds Try.pinned (OpenSpec.ofChange Rows.sessionsFullSpec) :=
  OpenClaim.holds_of_wide 6 Try.f6 rfl rfl rfl rfl rfl rfl rfl ⟨rfl, rfl, rfl, rfl, rfl⟩ rfl rfl rfl rfl rfl (by kernel_rfl) Try.func6 (by kernel_rfl)
    (of_decide_eq_true (by kernel_rfl)) (by unfold Func.isWrapper; first | (rw [if_pos (by decide +kernel)]; kernel_rfl) | (rw [if_neg (by decide +kernel)]; exact ⟨rfl, rfl⟩))
    (fun os started H enc _ => lifted os started H enc)

theorem proved : Rows.SessionsFullSaid := over
#print axioms proved
end Go.Proofs.Ythokiohdeclmhaa.sessionsFull
