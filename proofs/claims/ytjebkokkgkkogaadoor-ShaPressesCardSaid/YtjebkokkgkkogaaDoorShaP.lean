/- Contract of the reference's Press. -/
import Derived.Test.YtjebkokkgkkogaaDoorShaL
import Derived.Test.YtjebkokkgkkogaaDoorLib
namespace Go.Proofs.YtjebkokkgkkogaaDoor.Oct
open Go.ChangeShapes Go.WideShapes Go.ChangeAt Go.RowKit
set_option linter.unusedVariables false

set_option maxRecDepth 20000 in
set_option maxHeartbeats 4000000 in
theorem rpress_any (h : Wf) (m : Bf) (w : World) :
    Calls Tryd.prog 11 #[.agg (wa 8 h), .agg (ba 64 m)] w fun e w' => e = .returned (.agg (wa 8 (prF kF h m))) ∧ Below w.heap.size w w' := by
  have B0 := Lib.hid ((((Below.refl w.heap.size w).alloc (by simp) (.cells (wa 8 h) 29)).alloc (by simp) (.cells (ba 64 m) 30)).alloc (by simp; omega) (.cells (wa 8 fun _ => 0#32) 29))
  have q0 : row (((w.alloc (.cells (wa 8 h) 29)).alloc (.cells (ba 64 m) 30)).alloc (.cells (wa 8 fun _ => 0#32) 29)) w.heap.size = some (wa 8 h) := by simp [go_sem]
  have q1 : row (((w.alloc (.cells (wa 8 h) 29)).alloc (.cells (ba 64 m) 30)).alloc (.cells (wa 8 fun _ => 0#32) 29)) (w.heap.size + 1) = some (ba 64 m) := by simp [go_sem]
  have q2 : row (((w.alloc (.cells (wa 8 h) 29)).alloc (.cells (ba 64 m) 30)).alloc (.cells (wa 8 fun _ => 0#32) 29)) (w.heap.size + 1 + 1) = some (wa 8 fun _ => 0#32) := by simp [go_sem]
  have hsl := m64_sl_all (w.heap.size + 1)
  go_enter Tryd.func11, Tryd.ntmps11
  go_wp2_with fail
  refine flow_seen [([0, 1], 2, false), ([], 3, false), ([], 4, true)] [] (by kernel_rfl) (by kernel_rfl) (fun _ _ _ _ _ h => h) fun X => ?_
  have B1 := Lib.hid (onto B0.out (by simp; omega) X.below)
  have r0 := carry X.below q0
  have r1 := carry X.below q1
  have r2 := carry X.below q2
  clear q0 q1 q2 B0
  obtain ⟨w1, hw1⟩ : ∃ w1, w1 = X.val := ⟨_, rfl⟩
  rw [← hw1] at B1 r0 r1 r2 ⊢
  clear hw1 X
  have s1 : w.heap.size + 2 < w1.heap.size := row_lt r2
  have Q0 := After.row r0
  simp only [wpFs, pk, List.getElem?_cons_zero, List.getElem?_cons_succ]
  repeat (go_big_quiet_step (fail))
  refine wpQuiet_nil ?_
  clear Q0
  go_wp2_with fail
  refine (thirds_any _).mono ?_
  rintro e w2 ⟨g, c, cur, rfl, hg, hc, hr, hcu, hb2⟩
  go_wp2_with fail
  refine ⟨.inr hb2, ?_⟩
  have B2 := Lib.hid (onto B1.out (by omega) hb2)
  have HSL := Lib.hid (slG_row hr (row_lt hr) hc hcu)
  have t1 := carry hb2 r1
  have t2 := carry hb2 r2
  have s2 : w.heap.size + 2 < w2.heap.size := row_lt t2
  clear r0 r1 r2 hb2 hr hcu hg hc B1
  show wpQuiet _ _ _ _ _ _
  refine wpQuiet_nil ?_
  go_wp2_with fail
  refine (presses_any h m 64 0 c _ _ 64 _ (Sl.of_row t1 _ (row_lt t1)) (Nat.le_refl _) HSL.out).mono ?_
  rintro e w3 ⟨rfl, hb3⟩
  go_wp2_with fail
  refine ⟨.inr hb3, ?_⟩
  have B3 := Lib.hid (onto B2.out (by omega) hb3)
  have r2 := carry hb3 t2
  clear t1 t2 hb3 B2 HSL
  show wpQuiet _ _ _ _ _ _
  refine wpQuiet_nil ?_
  go_wp2_with fail
  refine ⟨.inl trivial, ?_⟩
  show wpQuiet _ _ _ _ _ _
  refine wpQuiet_nil ?_
  go_wp2_with fail
  refine bodyPost_ret (v := .agg (wa 8 (prF kF h m))) (res_row rfl _ _ (w.heap.size + 1 + 1) _ _ _ rfl (row_setRow r2 _) s8_u (by rw [wa_size]; exact s8_i)) rfl ⟨rfl, ?_⟩
  exact below_setRow B3.out (by omega) _
end Go.Proofs.YtjebkokkgkkogaaDoor.Oct
