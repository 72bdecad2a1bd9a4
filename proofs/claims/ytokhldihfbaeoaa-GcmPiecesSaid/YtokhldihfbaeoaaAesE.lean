/- Contract of aes.Encrypt. -/
import Derived.Test.YtokhldihfbaeoaaAesD
namespace Go.Proofs.Ytokhldihfbaeoaa.Oct
open Go.ChangeShapes Go.WideShapes Go.ChangeAt Go.RowKit

/-- what is known of the world in Encrypt's loop: blocks p (the keys) and q (the state) -/
structure EnInv (w : World) (k : Bf) (p q : Nat) (s : Bf) (wr : World) : Prop where
  below : Below w.heap.size w wr
  hp : w.heap.size + 3 ≤ p
  hq : p < q
  r2 : row wr (w.heap.size + 1 + 1) = some (ba 16 fun _ => 0#8)
  rp : row wr p = some (ba 240 (expF k))
  rq : row wr q = some (ba 16 s)
theorem EnInv.size {w : World} {k : Bf} {p q : Nat} {s : Bf} {wr : World} (h : EnInv w k p q s wr) : w.heap.size + 5 ≤ wr.heap.size := by
  have := row_lt h.rq; have := h.hp; have := h.hq; omega
theorem EnInv.call {w : World} {k : Bf} {p q : Nat} {s : Bf} {wr w' : World} (h : EnInv w k p q s wr) (hb : Below wr.heap.size wr w') : EnInv w k p q s w' :=
  ⟨onto h.below (by have := h.size; omega) hb, h.hp, h.hq, carry hb h.r2, carry hb h.rp, carry hb h.rq⟩
theorem EnInv.drewN {w : World} {k : Bf} {p q : Nat} {s : Bf} {wr : World} (h : EnInv w k p q s wr) (n : Nat) : EnInv w k p q s (wr.drewN n) :=
  ⟨below_drewN h.below n, h.hp, h.hq, by rw [row_drewN]; exact h.r2, by rw [row_drewN]; exact h.rp, by rw [row_drewN]; exact h.rq⟩
theorem EnInv.put {w : World} {k : Bf} {p q : Nat} {s : Bf} {wr : World} (h : EnInv w k p q s wr) (s' : Bf) : EnInv w k p q s' (wr.setRow q (ba 16 s')) := by
  have hp := h.hp; have hq := h.hq
  exact ⟨below_setRow h.below (by omega) _, hp, hq, by rw [row_setRow_other _ _ _ _ (by omega)]; exact h.r2, by rw [row_setRow_other _ _ _ _ (by omega)]; exact h.rp, row_setRow h.rq _⟩

set_option maxHeartbeats 2000000 in
theorem encrypt_any (k b : Bf) (w : World) :
    Calls Try.prog 22 #[.agg (ba 32 k), .agg (ba 16 b)] w fun e w' => e = .returned (.agg (ba 16 (encF k b))) ∧ Below w.heap.size w w' := by
  have B0 := Lib.hid ((((Below.refl w.heap.size w).alloc (by simp) (.cells (ba 32 k) 23)).alloc (by simp) (.cells (ba 16 b) 35)).alloc (by simp; omega) (.cells (ba 16 fun _ => 0#8) 35))
  go_enter Try.func22, Try.ntmps22
  go_wp2_with fail
  refine (expand_any k _).mono ?_
  rintro e w1 ⟨rfl, hb1⟩
  have r1 := carry hb1 (b := w.heap.size + 1) (c := ba 16 b) (by simp [go_sem])
  have r2 := carry hb1 (b := w.heap.size + 1 + 1) (c := ba 16 fun _ => 0#8) (by simp [go_sem])
  have s1 : w.heap.size + 3 ≤ w1.heap.size := by have := hb1.size; simp at this; omega
  have B1 := Lib.hid (onto B0.out (by simp; omega) hb1)
  clear hb1 B0
  have s11 : w.heap.size + 1 < w1.heap.size := by omega
  have s12 : w.heap.size + 1 + 1 < w1.heap.size := by omega
  go_wp2_with fail
  refine (addB_any b (expF k) _).mono ?_
  rintro e w3 ⟨rfl, hb3⟩
  have B3 := Lib.hid (onto (B1.out.alloc (by omega) _) (by simp; omega) hb3)
  have rp := carry hb3 (b := w1.heap.size) (c := ba 240 (expF k)) (by simp [go_sem])
  have r23 := carry hb3 (row_alloc r2 _)
  have s3 : w1.heap.size < w3.heap.size := by have := hb3.size; simp at this; omega
  clear hb3 r1 r2
  have I0 : EnInv w k w1.heap.size w3.heap.size (stF k b 0) (w3.alloc (.cells (ba 16 (xorF b (expF k))) 35)) :=
    ⟨B3.out.alloc (by omega) _, by omega, by omega, row_alloc r23 _, row_alloc rp _, by simp [go_sem]; rfl⟩
  have H0 := Lib.hid I0
  clear I0 r23 rp
  go_wp2_with fail
  go_loopw [7, 14] (fun _ i wr => ∃ n : Nat, n ≤ 14 ∧ i = .int .i64 n ∧ EnInv w k w1.heap.size w3.heap.size (stF k b n) wr) (fun _ i _ => 14 - (intOf i).toNat)
  case atStart => exact ⟨0, by omega, rfl, H0.out⟩
  case round =>
    obtain ⟨n, hn, rfl, hI⟩ := hrel
    have rp := hI.rp
    have rq := hI.rq
    have r2 := hI.r2
    have HI := Lib.hid hI
    clear hI
    by_cases hlt : n < 14
    · have b1 : (n + 1) * 16 + 16 ≤ 240 := by omega
      have ht : ((n : Int) == 13) = (n == 13) := by
        rw [Bool.eq_iff_iff]; simp; omega
      clear r2
      go_wp2_with fail
      refine quiet_tail 7 (by kernel_rfl) (by kernel_rfl) (fun _ _ _ _ _ h => h) ?_
      simp only [List.take_succ_cons, List.take_zero, List.drop_succ_cons, List.drop_zero]
      repeat (go_big_quiet_step (fail))
      refine wpQuiet_nil ?_
      rintro _ ⟨nq, rfl⟩
      go_wp2_with fail
      refine (round_any (stF k b n) (offF (expF k) ((n + 1) * 16)) (n == 13) _).mono ?_
      rintro e w5 ⟨rfl, hb5⟩
      have I5 := (HI.out.drewN nq).call hb5
      have rq5 := I5.rq
      have H6 := Lib.hid (I5.put (rndF (stF k b n) (offF (expF k) ((n + 1) * 16)) (n == 13)))
      clear hb5 I5 rq rp HI
      go_wp2
      go_roundw
      case rel => exact ⟨n + 1, by omega, by go_num, H6.out⟩
      case measure => simp [intOf]; omega
    · obtain rfl : n = 14 := by omega
      clear rp
      go_wp2
      refine bodyPost_ret (v := .agg (ba 16 (encF k b))) (res_row rfl _ _ (w.heap.size + 1 + 1) _ _ _ rfl (row_setRow r2 _) blk_u (by rw [ba_size]; exact blk_i)) rfl ⟨rfl, ?_⟩
      exact below_setRow HI.out.below (by omega) _
end Go.Proofs.Ytokhldihfbaeoaa.Oct
