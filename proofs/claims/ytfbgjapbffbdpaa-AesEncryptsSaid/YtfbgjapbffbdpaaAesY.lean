/- Contract of the reference's Encrypt. -/
import Derived.Test.YtfbgjapbffbdpaaAesX
namespace Go.Proofs.Ytfbgjapbffbdpaa.Oct
open Go.ChangeShapes Go.WideShapes Go.ChangeAt Go.RowKit

set_option maxHeartbeats 1000000 in
theorem refencrypt_any (k b : Bf) (w : World) :
    Calls Try.prog 16 #[.agg (ba 32 k), .agg (ba 16 b)] w fun e w' => e = .returned (.agg (ba 16 (encF k b))) ∧ Below w.heap.size w w' := by
  have B0 := (((Below.refl w.heap.size w).alloc (by simp) (.cells (ba 32 k) 23)).alloc (by simp) (.cells (ba 16 b) 26)).alloc (by simp; omega) (.cells (ba 16 fun _ => 0#8) 26)
  have q0 := After.row (W := ((w.alloc (.cells (ba 32 k) 23)).alloc (.cells (ba 16 b) 26)).alloc (.cells (ba 16 fun _ => 0#8) 26)) (b := w.heap.size) (c := ba 32 k) (by simp [go_sem])
  have q1 := After.row (W := ((w.alloc (.cells (ba 32 k) 23)).alloc (.cells (ba 16 b) 26)).alloc (.cells (ba 16 fun _ => 0#8) 26)) (b := w.heap.size + 1) (c := ba 16 b) (by simp [go_sem])
  have q2 := Lib.hid (After.row (W := ((w.alloc (.cells (ba 32 k) 23)).alloc (.cells (ba 16 b) 26)).alloc (.cells (ba 16 fun _ => 0#8) 26)) (b := w.heap.size + 1 + 1) (c := ba 16 fun _ => 0#8) (by simp [go_sem]))
  have HB := Lib.hid B0
  clear B0
  go_enter Try.func16, Try.ntmps16
  go_wp2_with fail
  refine seen_tail 0 4 (by kernel_rfl) (by kernel_rfl) (fun _ _ _ _ _ h => h) ?_
  simp only [List.take_succ_cons, List.take_zero, List.drop_succ_cons, List.drop_zero]
  repeat (go_big_quiet_step ((first | (go_at_call 12; refine After.call _ (refexpand_any k _)) | (go_at_call 29; refine After.call _ (rboxes_any _)))))
  refine wpQuiet_nil ?_
  rintro _ ⟨x, rfl⟩
  have r2 := q2.out x
  have hx := Lib.hid (onto HB.out (by simp; omega) x.below)
  have sx : w.heap.size + 3 ≤ x.val.heap.size := by have := x.below.size; simp at this; omega
  clear q0 q1 q2 HB
  go_wp2_with fail
  refine (encrypts_any k b _).mono ?_
  rintro e w1 ⟨rfl, hb1⟩
  have r22 := carry hb1 r2
  have hf := Lib.hid (onto hx.out (by omega) hb1)
  clear hb1 r2
  go_wp2_with fail
  refine bodyPost_ret (v := .agg (ba 16 (encF k b))) (res_row rfl _ _ (w.heap.size + 1 + 1) _ _ _ rfl (row_setRow r22 _) blk_u (by rw [ba_size]; exact blk_i)) rfl ⟨rfl, ?_⟩
  exact below_setRow hf.out (by omega) _
end Go.Proofs.Ytfbgjapbffbdpaa.Oct
