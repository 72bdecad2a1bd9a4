/- Contracts of aes.Round: one round of the cipher. -/
import Derived.Test.YtokhldihfbaeoaaAesB
namespace Go.Proofs.Ytokhldihfbaeoaa.Oct
open Go.ChangeShapes Go.WideShapes Go.ChangeAt Go.RowKit

/-- what is known of the world on the way through Round -/
structure RdInv (w : World) (s k : Bf) (wr : World) : Prop where
  below : Below w.heap.size w wr
  size : w.heap.size + 3 ≤ wr.heap.size
  r0 : row wr w.heap.size = some (ba 16 s)
  r1 : row wr (w.heap.size + 1) = some (ba 16 k)
  r2 : row wr (w.heap.size + 1 + 1) = some (ba 16 fun _ => 0#8)
theorem RdInv.start (w : World) (s k : Bf) (t : TypeId) : RdInv w s k (((w.alloc (.cells (ba 16 s) t)).alloc (.cells (ba 16 k) t)).alloc (.cells (ba 16 fun _ => 0#8) t)) :=
  ⟨(((Below.refl _ _).alloc (by simp) _).alloc (by simp) _).alloc (by simp; omega) _, by simp, by simp [go_sem], by simp [go_sem], by simp [go_sem]⟩
theorem RdInv.call {w : World} {s k : Bf} {wr w' : World} (h : RdInv w s k wr) (hb : Below wr.heap.size wr w') : RdInv w s k w' :=
  ⟨onto h.below (by have := h.size; omega) hb, Nat.le_trans h.size hb.size, carry hb h.r0, carry hb h.r1, carry hb h.r2⟩
theorem RdInv.put {w : World} {s k : Bf} {wr : World} (h : RdInv w s k wr) (s' : Bf) : RdInv w s' k (wr.setRow w.heap.size (ba 16 s')) :=
  ⟨below_setRow h.below (by omega) _, by simpa using h.size, row_setRow h.r0 _, by rw [row_setRow_other _ _ _ _ (by omega)]; exact h.r1, by rw [row_setRow_other _ _ _ _ (by omega)]; exact h.r2⟩

set_option maxHeartbeats 1000000 in
theorem round_any (s k : Bf) (last : Bool) (w : World) :
    Calls Try.prog 40 #[.agg (ba 16 s), .agg (ba 16 k), .bool last] w fun e w' => e = .returned (.agg (ba 16 (rndF s k last))) ∧ Below w.heap.size w w' := by
  have I0 := Lib.hid (RdInv.start w s k 35)
  cases last
  · go_enter Try.func40, Try.ntmps40
    go_wp2_with fail
    refine (subB_any s _).mono ?_
    rintro e w1 ⟨rfl, hb1⟩
    have I1 := Lib.hid (I0.out.call hb1)
    clear hb1 I0
    go_wp2_with fail
    refine (shift_any (subF s) _).mono ?_
    rintro e w2 ⟨rfl, hb2⟩
    have I2 := I1.out.call hb2
    have r0 := I2.r0
    have I3 := Lib.hid (I2.put (shiftF (subF s)))
    have r00 := I3.out.r0
    clear hb2 I1 I2
    go_wp2_with fail
    refine (mix_any (shiftF (subF s)) _).mono ?_
    rintro e w3 ⟨rfl, hb3⟩
    have I4 := I3.out.call hb3
    clear r0 r00 hb3 I3
    have r0 := I4.r0
    have I5 := I4.put (mixF (shiftF (subF s)))
    have r00 := I5.r0
    have r01 := I5.r1
    have I6 := Lib.hid I5
    clear I4 I5
    go_wp2_with fail
    refine (addB_any (mixF (shiftF (subF s))) k _).mono ?_
    rintro e w4 ⟨rfl, hb4⟩
    have I7 := I6.out.call hb4
    clear r0 r00 r01 hb4 I6
    have r2 := I7.r2
    have hB := Lib.hid I7.below
    clear I7
    go_wp2_with fail
    refine bodyPost_ret (v := .agg (ba 16 (rndF s k false))) (res_row rfl _ _ (w.heap.size + 1 + 1) _ _ _ rfl (row_setRow r2 _) blk_u (by rw [ba_size]; exact blk_i)) rfl ⟨rfl, ?_⟩
    exact below_setRow hB.out (by omega) _
  · go_enter Try.func40, Try.ntmps40
    go_wp2_with fail
    refine (subB_any s _).mono ?_
    rintro e w1 ⟨rfl, hb1⟩
    have I1 := Lib.hid (I0.out.call hb1)
    clear hb1 I0
    go_wp2_with fail
    refine (shift_any (subF s) _).mono ?_
    rintro e w2 ⟨rfl, hb2⟩
    have I2 := I1.out.call hb2
    have r0 := I2.r0
    have I3 := I2.put (shiftF (subF s))
    have r00 := I3.r0
    have r01 := I3.r1
    have I6 := Lib.hid I3
    clear hb2 I1 I2 I3
    go_wp2_with fail
    refine (addB_any (shiftF (subF s)) k _).mono ?_
    rintro e w4 ⟨rfl, hb4⟩
    have I7 := I6.out.call hb4
    clear r0 r00 r01 hb4 I6
    have r2 := I7.r2
    have hB := Lib.hid I7.below
    clear I7
    go_wp2_with fail
    refine bodyPost_ret (v := .agg (ba 16 (rndF s k true))) (res_row rfl _ _ (w.heap.size + 1 + 1) _ _ _ rfl (row_setRow r2 _) blk_u (by rw [ba_size]; exact blk_i)) rfl ⟨rfl, ?_⟩
    exact below_setRow hB.out (by omega) _
end Go.Proofs.Ytokhldihfbaeoaa.Oct
