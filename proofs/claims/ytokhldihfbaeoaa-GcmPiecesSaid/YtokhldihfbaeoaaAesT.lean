/- Contract of the reference's Encrypts. -/
import Derived.Test.YtokhldihfbaeoaaAesR
namespace Go.Proofs.Ytokhldihfbaeoaa.Oct
open Go.ChangeShapes Go.WideShapes Go.ChangeAt Go.RowKit

/-- what is known of the world in Encrypts -/
structure EcInv (w : World) (F s : Bf) (wr : World) : Prop where
  below : Below w.heap.size w wr
  size : w.heap.size + 4 ≤ wr.heap.size
  r0 : row wr w.heap.size = some (ba 240 F)
  r1 : row wr (w.heap.size + 1) = some (ba 16 s)
  r2 : row wr (w.heap.size + 1 + 1) = some (ba 256 boxF)
  r3 : row wr (w.heap.size + 1 + 1 + 1) = some (ba 16 fun _ => 0#8)
theorem EcInv.call {w : World} {F s : Bf} {wr w' : World} (h : EcInv w F s wr) (hb : Below wr.heap.size wr w') : EcInv w F s w' :=
  ⟨onto h.below (by have := h.size; omega) hb, Nat.le_trans h.size hb.size, carry hb h.r0, carry hb h.r1, carry hb h.r2, carry hb h.r3⟩
theorem EcInv.drewN {w : World} {F s : Bf} {wr : World} (h : EcInv w F s wr) (n : Nat) : EcInv w F s (wr.drewN n) :=
  ⟨below_drewN h.below n, h.size, by rw [row_drewN]; exact h.r0, by rw [row_drewN]; exact h.r1, by rw [row_drewN]; exact h.r2, by rw [row_drewN]; exact h.r3⟩
theorem EcInv.put {w : World} {F s : Bf} {wr : World} (h : EcInv w F s wr) (s' : Bf) : EcInv w F s' (wr.setRow (w.heap.size + 1) (ba 16 s')) :=
  ⟨below_setRow h.below (by omega) _, by simpa using h.size, by rw [row_setRow_other _ _ _ _ (by omega)]; exact h.r0, row_setRow h.r1 _, by rw [row_setRow_other _ _ _ _ (by omega)]; exact h.r2, by rw [row_setRow_other _ _ _ _ (by omega)]; exact h.r3⟩

set_option maxHeartbeats 2000000 in
theorem encrypts_any (k b : Bf) (w : World) :
    Calls Try.prog 27 #[.agg (ba 240 (expF k)), .agg (ba 16 b), .agg (ba 256 boxF)] w fun e w' => e = .returned (.agg (ba 16 (encF k b))) ∧ Below w.heap.size w w' := by
  obtain ⟨F, hF⟩ : ∃ F, F = expF k := ⟨_, rfl⟩
  rw [← hF]
  have HF := Lib.hid hF
  clear hF
  go_enter Try.func27, Try.ntmps27
  go_wp2
  go_loopw [7] (fun i wr => ∃ c : Nat, c ≤ 16 ∧ i = .int .i64 c ∧ ∃ n, wr = ((((w.alloc (.cells (ba 240 F) 51)).alloc (.cells (ba 16 (upto c (xorF b F) b)) 35)).alloc (.cells (ba 256 boxF) 53)).alloc (.cells (ba 16 fun _ => 0#8) 35)).drewN n) (fun i _ => 16 - (intOf i).toNat)
  case atStart => exact ⟨0, by omega, rfl, 0, by rw [upto_zero]; rfl⟩
  case round =>
    obtain ⟨c, hc, rfl, n, rfl⟩ := hrel
    by_cases hlt : c < 16
    · have H := Lib.hid (upto_step c (xorF b F) b)
      have b1 : c < 240 := by omega
      go_wp2
      refine quiet_tail 10 (by kernel_rfl) (by kernel_rfl) (fun _ _ _ _ _ h => h) ?_
      simp only [List.take_succ_cons, List.take_zero, List.drop_succ_cons, List.drop_zero]
      repeat (go_big_quiet_step (fail))
      refine wpQuiet_nil ?_
      rintro _ ⟨m, rfl⟩
      go_wp2
      go_roundw
      case rel => exact ⟨c + 1, by omega, by go_num, _, by rw [← H.out]; rfl⟩
      case measure => simp [intOf]; omega
    · obtain rfl : c = 16 := by omega
      rw [upto_all, show ((16 : Nat) : Int) = 16 from rfl]
      have hd16 : decide ((16 : Int) < 16) = false := by decide
      have I0 : EcInv w F (stF k b 0) (((((w.alloc (.cells (ba 240 F) 51)).alloc (.cells (ba 16 (xorF b F)) 35)).alloc (.cells (ba 256 boxF) 53)).alloc (.cells (ba 16 fun _ => 0#8) 35)).drewN n) :=
        ⟨below_drewN (((((Below.refl _ _).alloc (by simp) _).alloc (by simp) _).alloc (by simp; omega) _).alloc (by simp; omega) _) _, by show _ ≤ (World.heap (World.alloc _ _)).size; simp, by simp [go_sem], by rw [HF.out]; simp [go_sem]; rfl, by simp [go_sem], by simp [go_sem]⟩
      have H0 := Lib.hid I0
      clear I0
      go_wp2
      clear hd16
      go_loopw [8] (fun i wr => ∃ m : Nat, m ≤ 14 ∧ i = .int .i64 (m + 1) ∧ EcInv w F (stF k b m) wr) (fun i _ => 15 - (intOf i).toNat)
      case atStart => exact ⟨0, by omega, rfl, H0.out⟩
      case round =>
        clear H0
        obtain ⟨m, hm, rfl, hI⟩ := hrel
        have q0 := hI.r0
        have q1 := hI.r1
        have q2 := hI.r2
        have q3 := hI.r3
        have HI := Lib.hid hI
        clear hI
        by_cases hlt : m < 14
        · have b1 : (m + 1) * 16 + 16 ≤ 240 := by omega
          have ht : (((m : Int) + 1) == 14) = (m == 13) := by
            rw [Bool.eq_iff_iff]; simp; omega
          clear q3
          go_wp2_with fail
          refine quiet_tail 7 (by kernel_rfl) (by kernel_rfl) (fun _ _ _ _ _ h => h) ?_
          simp only [List.take_succ_cons, List.take_zero, List.drop_succ_cons, List.drop_zero]
          repeat (go_big_quiet_step (fail))
          refine wpQuiet_nil ?_
          rintro _ ⟨nq, rfl⟩
          go_wp2_with fail
          refine (rround_any (stF k b m) (offF F ((m + 1) * 16)) (m == 13) _).mono ?_
          rintro e w5 ⟨rfl, hb5⟩
          have I5 := (HI.out.drewN nq).call hb5
          have rq5 := I5.r1
          have H6 := Lib.hid (I5.put (rndF (stF k b m) (offF F ((m + 1) * 16)) (m == 13)))
          clear hb5 I5 q0 q1 q2 HI
          go_wp2
          go_roundw
          case rel => exact ⟨m + 1, by omega, by go_num, by have := H6.out; rw [HF.out] at this ⊢; exact this⟩
          case measure => simp [intOf]; omega
        · obtain rfl : m = 14 := by omega
          clear q0 q2
          go_wp2
          refine bodyPost_ret (v := .agg (ba 16 (encF k b))) (res_row rfl _ _ (w.heap.size + 1 + 1 + 1) _ _ _ rfl (row_setRow q3 _) blk_u (by rw [ba_size]; exact blk_i)) rfl ⟨rfl, ?_⟩
          exact below_setRow HI.out.below (by omega) _
end Go.Proofs.Ytokhldihfbaeoaa.Oct
