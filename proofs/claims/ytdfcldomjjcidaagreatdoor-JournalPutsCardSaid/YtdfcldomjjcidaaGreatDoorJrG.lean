/- attempt of a record, of a state; Contracts: journal's first. -/
import Derived.Test.YtdfcldomjjcidaaGreatDoorJrF
namespace Go.Proofs.YtdfcldomjjcidaaGreatDoor.Oct
open Go.ChangeShapes Go.WideShapes Go.ChangeAt Go.RowKit
set_option linter.unusedVariables false

set_option maxRecDepth 20000 in
theorem catchr_panicking (p : Nat) (E x : Int) (w : World) (hc : w.cell? ⟨p, 0, none⟩ = some (.int .i64 x)) (hz : w.frozen? ⟨p, 0, none⟩ = false) :
    CallsD Tryz.prog 80 #[.pointer (some ⟨p, 0, none⟩)] (.panicking (pnE E)) w fun e u' w' =>
      e = .returned (.tuple #[]) ∧ u' = .panicking [{ v := .iface 31 (.int .i64 E), recovered := true }] ∧ w' = w.setCell ⟨p, 0, none⟩ (.int .i64 E) := by
  have hta := ta_ok
  refine callsD_of_wpS Tryz.func80 rfl fun c₀ cs hu => ?_
  apply wpS_seq
  apply wpS_region
  simp [wpOpsS, go_sem, recoverD, hu, Tryz.ntmps80, Exit.thenS]
  refine wpS_of_wp ?_
  simp only [Array.replicate]
  go_wp2_with fail
  simp [bodyPostS, results, Tryz.results80, go_sem]
set_option maxRecDepth 20000 in
theorem catchr_idle (p : Nat) (w : World) :
    CallsD Tryz.prog 80 #[.pointer (some ⟨p, 0, none⟩)] .returning w fun e u' w' => e = .returned (.tuple #[]) ∧ u' = .returning ∧ w' = w := by
  refine callsD_of_wpS Tryz.func80 rfl fun c₀ cs hu => ?_
  apply wpS_seq
  apply wpS_region
  simp [wpOpsS, go_sem, recoverD, hu, Tryz.ntmps80, Exit.thenS]
  refine wpS_of_wp ?_
  simp only [Array.replicate]
  go_wp2_with fail
  simp only [bodyPostS, results, Tryz.results80, go_sem]
  cases c₀
  simp_all
set_option maxRecDepth 20000 in
theorem catchs_panicking (p : Nat) (E x : Int) (w : World) (hc : w.cell? ⟨p, 0, none⟩ = some (.int .i64 x)) (hz : w.frozen? ⟨p, 0, none⟩ = false) :
    CallsD Tryz.prog 60 #[.pointer (some ⟨p, 0, none⟩)] (.panicking (pnE E)) w fun e u' w' =>
      e = .returned (.tuple #[]) ∧ u' = .panicking [{ v := .iface 31 (.int .i64 E), recovered := true }] ∧ w' = w.setCell ⟨p, 0, none⟩ (.int .i64 E) := by
  have hta := ta_ok
  refine callsD_of_wpS Tryz.func60 rfl fun c₀ cs hu => ?_
  apply wpS_seq
  apply wpS_region
  simp [wpOpsS, go_sem, recoverD, hu, Tryz.ntmps60, Exit.thenS]
  refine wpS_of_wp ?_
  simp only [Array.replicate]
  go_wp2_with fail
  simp [bodyPostS, results, Tryz.results60, go_sem]
set_option maxRecDepth 20000 in
theorem catchs_idle (p : Nat) (w : World) :
    CallsD Tryz.prog 60 #[.pointer (some ⟨p, 0, none⟩)] .returning w fun e u' w' => e = .returned (.tuple #[]) ∧ u' = .returning ∧ w' = w := by
  refine callsD_of_wpS Tryz.func60 rfl fun c₀ cs hu => ?_
  apply wpS_seq
  apply wpS_region
  simp [wpOpsS, go_sem, recoverD, hu, Tryz.ntmps60, Exit.thenS]
  refine wpS_of_wp ?_
  simp only [Array.replicate]
  go_wp2_with fail
  simp only [bodyPostS, results, Tryz.results60, go_sem]
  cases c₀
  simp_all
/-- results of a struct's cell and an int's -/
theorem res_ci {P : Program} {fn : Func} {p u : Tmp} {ty ti : TypeId} (h : fn.results = #[.cell p ty, .cell u ti]) (tmps : Array Value) (w : World) (b q : Nat) (c : Array Value) (x : Int) (d : TypeDesc) 
    (hp : tmps.getD p undef = .pointer (some ⟨b, 0, none⟩)) (hq : tmps.getD u undef = .pointer (some ⟨q, 0, none⟩)) (hr : row w b = some c) (hx : (loadVar ti ⟨q, 0, none⟩).run P w = .ok (.int .i64 x) w) (hu : P.underlying ty = some d) (hd : d.isRow = true) (hi : (P.info? ty).map (·.size) = some c.size) :
    (results fn tmps).run P w = .ok (.tuple #[.agg c, .int .i64 x]) w := by
  have hp2 : tmps[p]?.getD undef = .pointer (some ⟨b, 0, none⟩) := by simpa using hp
  have hq2 : tmps[u]?.getD undef = .pointer (some ⟨q, 0, none⟩) := by simpa using hq
  simp only [results, h]
  simp [hp2, hq2, asAddr, load_row hr hu hd hi, hx]
set_option maxRecDepth 20000 in
set_option maxHeartbeats 2000000 in
theorem attr_any (F : FuncId) (cap : Array Value) (w : World) (hen : Entr F) (r : Rc) (K : Prop)
    (h : ∀ W, Below w.heap.size w W → W.heap.size = w.heap.size + 2 → Calls Tryz.prog F cap W fun e w' => Below W.heap.size W w' ∧ ((K ∧ ∃ v, e = .returned v ∧ RcN W.heap.size w' r v) ∨ (¬ K ∧ ∃ E, E ≠ 0 ∧ e = .panicked (pnE E)))) :
    Calls Tryz.prog 53 #[.func (.func F) #[] cap] w fun e w' => Below w.heap.size w w' ∧
      ((K ∧ ∃ v, e = .returned (.tuple #[v, .int .i64 0]) ∧ RcN w.heap.size w' r v) ∨ (¬ K ∧ ∃ E, E ≠ 0 ∧ e = .returned (.tuple #[.agg (rcC .zero nilS nilS), .int .i64 E]))) := by
  obtain ⟨w1, hw1⟩ : ∃ w1, w1 = (w.alloc (.cells #[.int .i64 0, .int .i64 0, .int .i64 0, .int .i64 0, .int .i64 0, .int .i64 0, .int .i64 0, .int .i64 0, .slice none 0 0, .slice none 0 0] 29)).alloc (.cells #[.int .i64 0] 31) := ⟨_, rfl⟩
  have bw : Below w.heap.size w w1 := by rw [hw1]; exact ((Below.refl _ _).alloc (Nat.le_refl _) _).alloc (by simp) _
  have r0 : row w1 w.heap.size = some (rcC .zero nilS nilS) := by rw [hw1, ← rc_lit0]; exact row_alloc (row_alloc_at _ _ _ _ rfl) _
  have r1 : row w1 (w.heap.size + 1) = some #[.int .i64 0] := by rw [hw1]; exact row_alloc_at _ _ _ _ (by simp)
  have hz1 : w1.heap.size = w.heap.size + 2 := by rw [hw1]; simp
  have H := Lib.hid (h w1 bw hz1)
  have B1 := Lib.hid bw
  have R0 := Lib.hid r0
  have R1 := Lib.hid r1
  clear h bw r0 r1
  unfold Entr at hen
  have hmf : ∀ (fn : Fn) (first cap : Array Value) (w : World), (Instr.makeFunc fn first cap).run Tryz.prog w = .ok (.func fn first cap) w := fun _ _ _ _ => rfl
  go_enter_defers Tryz.func53, Tryz.ntmps53
  go_upto_region 1 with fail
  simp only [← hw1]
  clear hw1
  go_wp2_with fail
  refine H.out.mono ?_
  rintro e w2 ⟨hb, ⟨hk, v, rfl, hG⟩ | ⟨hk, E, hE, rfl⟩⟩
  · obtain ⟨A, c, A', c', rfl, he, hn, hn'⟩ := hG.ex
    have q0 := carry hb R0.out
    have q1 := carry hb R1.out
    have B2 := Lib.hid (onto B1.out B1.out.size hb)
    obtain ⟨C, hC⟩ : ∃ C, C = rcC r (.slice A r.e.T c) (.slice A' r.e.n c') := ⟨_, rfl⟩
    have q1' : row (w2.setRow w.heap.size (rcC r (.slice A r.e.T c) (.slice A' r.e.n c'))) (w.heap.size + 1) = some #[.int .i64 0] := by rw [row_setRow_other _ _ _ _ (by omega)]; exact q1
    have z1 := froz_row q1' 0
    have k1 : (w2.setRow w.heap.size (rcC r (.slice A r.e.T c) (.slice A' r.e.n c'))).cell? ⟨w.heap.size + 1, 0, none⟩ = some (.int .i64 0) := by rw [cell_row q1']; rfl
    have hs : (w2.setRow w.heap.size (rcC r (.slice A r.e.T c) (.slice A' r.e.n c'))).setCell ⟨w.heap.size + 1, 0, none⟩ (.int .i64 0) = w2.setRow w.heap.size (rcC r (.slice A r.e.T c) (.slice A' r.e.n c')) := by rw [setCell_row q1']; exact setRow_self q1'
    have HG := Lib.hid hG
    have HK := Lib.hid hk
    clear hb he hn hn' hG hk H
    go_wp2_with fail
    refine leaves_cons (f := 80) (args := #[.pointer (some ⟨w.heap.size + 1, 0, none⟩)]) (by simp) (by simp [go_sem]) ?_
    refine (catchr_idle (w.heap.size + 1) _).mono ?_
    rintro e u' w'' ⟨rfl, rfl, rfl⟩
    exact ⟨.tuple #[.agg (rcC r (.slice A r.e.T c) (.slice A' r.e.n c')), .int .i64 0],
      res_ci Tryz.results53 _ _ w.heap.size (w.heap.size + 1) _ _ _ rfl rfl (row_setRow q0 _) (by simp [loadVar, go_sem, k1]) Tryz.underlying29 rfl (by rw [rc_i, rc_size]),
      below_setRow B2.out (Nat.le_refl _) _, .inl ⟨HK.out, _, rfl, (HG.out.setRow (by omega) q0 _).low (by omega)⟩⟩
  · have q0 := carry hb R0.out
    have q1 := carry hb R1.out
    have B2 := Lib.hid (onto B1.out B1.out.size hb)
    have hc : w2.cell? ⟨w.heap.size + 1, 0, none⟩ = some (.int .i64 0) := by rw [cell_row q1]; rfl
    have hz := froz_row q1 0
    have k1 : (w2.setCell ⟨w.heap.size + 1, 0, none⟩ (.int .i64 E)).cell? ⟨w.heap.size + 1, 0, none⟩ = some (.int .i64 E) := by rw [setCell_row q1, cell_row (row_setRow q1 _)]; rfl
    have q0' : row (w2.setCell ⟨w.heap.size + 1, 0, none⟩ (.int .i64 E)) w.heap.size = some (rcC .zero nilS nilS) := by rw [setCell_row q1, row_setRow_other _ _ _ _ (by omega)]; exact q0
    have HK := Lib.hid hk
    clear hb hk H
    go_wp2_with fail
    refine leaves_cons (f := 80) (args := #[.pointer (some ⟨w.heap.size + 1, 0, none⟩)]) (by simp) (by simp [go_sem]) ?_
    refine (catchr_panicking (w.heap.size + 1) E 0 _ hc hz).mono ?_
    rintro e u' w'' ⟨rfl, rfl, rfl⟩
    exact ⟨.tuple #[.agg (rcC .zero nilS nilS), .int .i64 E],
      res_ci Tryz.results53 _ _ w.heap.size (w.heap.size + 1) _ _ _ rfl rfl q0' (by simp [loadVar, go_sem, k1]) Tryz.underlying29 rfl (by rw [rc_i, rc_size]),
      B2.out.setCell (by show w.heap.size ≤ w.heap.size + 1; omega) _, .inr ⟨HK.out, E, hE, rfl⟩⟩
end Go.Proofs.YtdfcldomjjcidaaGreatDoor.Oct
