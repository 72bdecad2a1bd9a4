/- Contracts of aes's small functions: what each makes of its arrays of bytes. -/
import Derived.Test.YtokhldihfbaeoaaOctRb
import Derived.Test.YtokhldihfbaeoaaTy
import Derived.Test.YtokhldihfbaeoaaAesMath
import Derived.OwnWalk
namespace Go.Proofs.Ytokhldihfbaeoaa.Oct
open Go.ChangeShapes Go.WideShapes Go.ChangeAt Go.RowKit

set_option maxHeartbeats 400000 in
theorem addB_any (f g : Bf) (w : World) :
    Calls Try.prog 39 #[.agg (ba 16 f), .agg (ba 16 g)] w fun e w' => e = .returned (.agg (ba 16 (xorF f g))) ∧ Below w.heap.size w w' := by
  go_enter Try.func39, Try.ntmps39
  go_wp2
  go_loopw [5, 6] (fun _ i wr => ∃ k : Nat, k ≤ 16 ∧ i = .int .i64 k ∧ ∃ n, wr = (((w.alloc (.cells (ba 16 (upto k (xorF f g) f)) 35)).alloc (.cells (ba 16 g) 35)).alloc (.cells (ba 16 fun _ => 0#8) 35)).drewN n) (fun _ i _ => 16 - (intOf i).toNat)
  case atStart =>
    refine ⟨0, by omega, rfl, 0, ?_⟩
    rw [upto_zero]; rfl
  case round =>
    obtain ⟨k, hk, rfl, n, rfl⟩ := hrel
    by_cases hlt : k < 16
    · have H := Lib.hid (upto_step k (xorF f g) f)
      go_wp2
      refine quiet_tail 8 (by kernel_rfl) (by kernel_rfl) (fun _ _ _ _ _ h => h) ?_
      simp only [List.take_succ_cons, List.take_zero, List.drop_succ_cons, List.drop_zero]
      repeat (go_big_quiet_step (fail))
      refine wpQuiet_nil ?_
      rintro _ ⟨m, rfl⟩
      go_wp2
      go_roundw
      case rel => exact ⟨k + 1, by omega, by go_num, n + m, by rw [← H.out]; rfl⟩
      case measure => simp [intOf]; omega
    · obtain rfl : k = 16 := by omega
      rw [upto_all]
      go_wp2
      refine bodyPost_ret (v := .agg (ba 16 (xorF f g))) (res_row rfl _ _ (w.heap.size + 1 + 1) _ _ _ rfl (by simp [go_sem]) blk_u (by rw [ba_size]; exact blk_i)) rfl ⟨rfl, ?_⟩
      exact below_drewN ((((Below.refl _ _).alloc (by simp) _).alloc (by simp) _).alloc (by simp; omega) _) _

set_option maxHeartbeats 400000 in
theorem addW_any (f g : Bf) (w : World) :
    Calls Try.prog 50 #[.agg (ba 4 f), .agg (ba 4 g)] w fun e w' => e = .returned (.agg (ba 4 (xorF f g))) ∧ Below w.heap.size w w' := by
  go_enter Try.func50, Try.ntmps50
  go_wp2
  go_loopw [5, 6] (fun _ i wr => ∃ k : Nat, k ≤ 4 ∧ i = .int .i64 k ∧ ∃ n, wr = (((w.alloc (.cells (ba 4 (upto k (xorF f g) f)) 70)).alloc (.cells (ba 4 g) 70)).alloc (.cells (ba 4 fun _ => 0#8) 70)).drewN n) (fun _ i _ => 4 - (intOf i).toNat)
  case atStart =>
    refine ⟨0, by omega, rfl, 0, ?_⟩
    rw [upto_zero]; rfl
  case round =>
    obtain ⟨k, hk, rfl, n, rfl⟩ := hrel
    by_cases hlt : k < 4
    · have H := Lib.hid (upto_step k (xorF f g) f)
      go_wp2
      refine quiet_tail 8 (by kernel_rfl) (by kernel_rfl) (fun _ _ _ _ _ h => h) ?_
      simp only [List.take_succ_cons, List.take_zero, List.drop_succ_cons, List.drop_zero]
      repeat (go_big_quiet_step (fail))
      refine wpQuiet_nil ?_
      rintro _ ⟨m, rfl⟩
      go_wp2
      go_roundw
      case rel => exact ⟨k + 1, by omega, by go_num, n + m, by rw [← H.out]; rfl⟩
      case measure => simp [intOf]; omega
    · obtain rfl : k = 4 := by omega
      rw [upto_all]
      go_wp2
      refine bodyPost_ret (v := .agg (ba 4 (xorF f g))) (res_row rfl _ _ (w.heap.size + 1 + 1) _ _ _ rfl (by simp [go_sem]) wrd_u (by rw [ba_size]; exact wrd_i)) rfl ⟨rfl, ?_⟩
      exact below_drewN ((((Below.refl _ _).alloc (by simp) _).alloc (by simp) _).alloc (by simp; omega) _) _

set_option maxHeartbeats 400000 in
theorem subB_any (f : Bf) (w : World) :
    Calls Try.prog 53 #[.agg (ba 16 f)] w fun e w' => e = .returned (.agg (ba 16 (subF f))) ∧ Below w.heap.size w w' := by
  go_enter Try.func53, Try.ntmps53
  go_wp2
  go_loopw [3, 4, 6] (fun _ _ i wr => ∃ k : Nat, k ≤ 16 ∧ i = .int .i64 k ∧ wr = ((w.alloc (.cells (ba 16 (upto k (subF f) f)) 35)).alloc (.cells (ba 16 fun _ => 0#8) 35))) (fun _ _ i _ => 16 - (intOf i).toNat)
  case atStart =>
    refine ⟨0, by omega, rfl, ?_⟩
    rw [upto_zero]
  case round =>
    obtain ⟨k, hk, rfl, rfl⟩ := hrel
    by_cases hlt : k < 16
    · have H := Lib.hid (upto_step k (subF f) f)
      go_wp2_with (go_at_call 61; ((with_reducible refine (box_any _ rfl _).mono ?_); rintro e w' ⟨rfl, rfl⟩))
      go_roundw
      case rel => exact ⟨k + 1, by omega, by go_num, by rw [← H.out]; rfl⟩
      case measure => simp [intOf]; omega
    · obtain rfl : k = 16 := by omega
      rw [upto_all]
      go_wp2
      refine bodyPost_ret (v := .agg (ba 16 (subF f))) (res_row rfl _ _ (w.heap.size + 1) _ _ _ rfl (by simp [go_sem]) blk_u (by rw [ba_size]; exact blk_i)) rfl ⟨rfl, ?_⟩
      exact ((Below.refl _ _).alloc (by simp) _).alloc (by simp) _

set_option maxHeartbeats 400000 in
theorem subW_any (f : Bf) (w : World) :
    Calls Try.prog 47 #[.agg (ba 4 f)] w fun e w' => e = .returned (.agg (ba 4 (subF f))) ∧ Below w.heap.size w w' := by
  go_enter Try.func47, Try.ntmps47
  go_wp2
  go_loopw [3, 4, 6] (fun _ _ i wr => ∃ k : Nat, k ≤ 4 ∧ i = .int .i64 k ∧ wr = ((w.alloc (.cells (ba 4 (upto k (subF f) f)) 70)).alloc (.cells (ba 4 fun _ => 0#8) 70))) (fun _ _ i _ => 4 - (intOf i).toNat)
  case atStart =>
    refine ⟨0, by omega, rfl, ?_⟩
    rw [upto_zero]
  case round =>
    obtain ⟨k, hk, rfl, rfl⟩ := hrel
    by_cases hlt : k < 4
    · have H := Lib.hid (upto_step k (subF f) f)
      go_wp2_with (go_at_call 61; ((with_reducible refine (box_any _ rfl _).mono ?_); rintro e w' ⟨rfl, rfl⟩))
      go_roundw
      case rel => exact ⟨k + 1, by omega, by go_num, by rw [← H.out]; rfl⟩
      case measure => simp [intOf]; omega
    · obtain rfl : k = 4 := by omega
      rw [upto_all]
      go_wp2
      refine bodyPost_ret (v := .agg (ba 4 (subF f))) (res_row rfl _ _ (w.heap.size + 1) _ _ _ rfl (by simp [go_sem]) wrd_u (by rw [ba_size]; exact wrd_i)) rfl ⟨rfl, ?_⟩
      exact ((Below.refl _ _).alloc (by simp) _).alloc (by simp) _

set_option maxHeartbeats 400000 in
theorem rotW_any (f : Bf) (w : World) :
    Calls Try.prog 48 #[.agg (ba 4 f)] w fun e w' => e = .returned (.agg (ba 4 (rotF f))) ∧ Below w.heap.size w w' := by
  go_enter Try.func48, Try.ntmps48
  go_wp2
  have e : ba 4 (upd (upd (upd (upd (fun _ => 0#8) 0 (f 1)) 1 (f 2)) 2 (f 3)) 3 (f 0)) = ba 4 (rotF f) := ba_ext fun k hk => by
    have : k = 0 ∨ k = 1 ∨ k = 2 ∨ k = 3 := by omega
    rcases this with rfl | rfl | rfl | rfl <;> rfl
  rw [e]
  refine bodyPost_ret (v := .agg (ba 4 (rotF f))) (res_row rfl _ _ (w.heap.size + 1) _ _ _ rfl (by simp [go_sem]) wrd_u (by rw [ba_size]; exact wrd_i)) rfl ⟨rfl, ?_⟩
  exact ((Below.refl _ _).alloc (by simp) _).alloc (by simp) _

theorem shift_at (f : Bf) (c r : Nat) (hr : r < 4) : shiftF f (4 * c + r) = f ((c + r) % 4 * 4 + r) := by
  unfold shiftF
  rw [show (4 * c + r) / 4 = c by omega, show (4 * c + r) % 4 = r by omega]
set_option maxHeartbeats 400000 in
theorem shift_any (f : Bf) (w : World) :
    Calls Try.prog 52 #[.agg (ba 16 f)] w fun e w' => e = .returned (.agg (ba 16 (shiftF f))) ∧ Below w.heap.size w w' := by
  go_enter Try.func52, Try.ntmps52
  go_wp2
  go_loopw [6] (fun i wr => ∃ c : Nat, c ≤ 4 ∧ i = .int .i64 c ∧ wr = (((w.alloc (.cells (ba 16 f) 35)).alloc (.cells (ba 16 fun _ => 0#8) 35)).alloc (.cells (ba 16 (upto (4 * c) (shiftF f) fun _ => 0#8)) 35))) (fun i _ => 4 - (intOf i).toNat)
  case atStart =>
    refine ⟨0, by omega, rfl, ?_⟩
    rw [Nat.mul_zero, upto_zero]
  case round =>
    obtain ⟨c, hc, rfl, rfl⟩ := hrel
    by_cases hlt : c < 4
    · go_wp2
      go_loopw [9] (fun i wr => ∃ r : Nat, r ≤ 4 ∧ i = .int .i64 r ∧ wr = (((w.alloc (.cells (ba 16 f) 35)).alloc (.cells (ba 16 fun _ => 0#8) 35)).alloc (.cells (ba 16 (upto (4 * c + r) (shiftF f) fun _ => 0#8)) 35))) (fun i _ => 4 - (intOf i).toNat)
      case atStart => exact ⟨0, by omega, rfl, rfl⟩
      case round =>
        obtain ⟨r, hr, rfl, rfl⟩ := hrel
        by_cases hlr : r < 4
        · have H := Lib.hid (upto_step (4 * c + r) (shiftF f) fun _ => 0#8)
          have H2 := Lib.hid (shift_at f c r hlr)
          have b1 : (c + r) % 4 * 4 + r < 16 := by omega
          have b2 : 4 * c + r < 16 := by omega
          go_wp2
          go_roundw
          case rel => exact ⟨r + 1, by omega, by go_num, by rw [← H2.out, H.out]; rfl⟩
          case measure => simp [intOf]; omega
        · obtain rfl : r = 4 := by omega
          go_wp2
          go_roundw
          case rel => exact ⟨c + 1, by omega, by go_num, rfl⟩
          case measure => simp [intOf]; omega
    · obtain rfl : c = 4 := by omega
      rw [show 4 * 4 = 16 from rfl, upto_all]
      go_wp2
      refine bodyPost_ret (v := .agg (ba 16 (shiftF f))) (res_row rfl _ _ (w.heap.size + 1) _ _ _ rfl (by simp [go_sem]) blk_u (by rw [ba_size]; exact blk_i)) rfl ⟨rfl, ?_⟩
      exact (((Below.refl _ _).alloc (by simp) _).alloc (by simp) _).alloc (by simp; omega) _

theorem mix_at (f : Bf) (c r : Nat) (hr : r < 4) : mixF f (4 * c + r) =
    (mul (f (4 * c + r)) 2#8 ^^^ mul (f (4 * c + (r + 1) % 4)) 3#8) ^^^ (f (4 * c + (r + 2) % 4) ^^^ f (4 * c + (r + 3) % 4)) := by
  unfold mixF
  rw [show (4 * c + r) / 4 = c by omega, show (4 * c + r) % 4 = r by omega]
set_option maxHeartbeats 1000000 in
theorem mix_any (f : Bf) (w : World) :
    Calls Try.prog 54 #[.agg (ba 16 f)] w fun e w' => e = .returned (.agg (ba 16 (mixF f))) ∧ Below w.heap.size w w' := by
  go_enter Try.func54, Try.ntmps54
  go_wp2
  go_loopw [9] (fun i wr => ∃ c : Nat, c ≤ 4 ∧ i = .int .i64 c ∧ ∃ n, wr = (((w.alloc (.cells (ba 16 f) 35)).alloc (.cells (ba 16 fun _ => 0#8) 35)).alloc (.cells (ba 16 (upto (4 * c) (mixF f) fun _ => 0#8)) 35)).drewN n) (fun i _ => 4 - (intOf i).toNat)
  case atStart =>
    refine ⟨0, by omega, rfl, 0, ?_⟩
    rw [Nat.mul_zero, upto_zero]; rfl
  case round =>
    obtain ⟨c, hc, rfl, n, rfl⟩ := hrel
    by_cases hlt : c < 4
    · have hd : decide ((c : Int) < 4) = true := by simp; omega
      go_wp2
      go_loopw [12] (fun i wr => ∃ r : Nat, r ≤ 4 ∧ i = .int .i64 r ∧ ∃ n, wr = (((w.alloc (.cells (ba 16 f) 35)).alloc (.cells (ba 16 fun _ => 0#8) 35)).alloc (.cells (ba 16 (upto (4 * c + r) (mixF f) fun _ => 0#8)) 35)).drewN n) (fun i _ => 4 - (intOf i).toNat)
      case atStart => exact ⟨0, by omega, rfl, n, rfl⟩
      case round =>
        obtain ⟨r, hr, rfl, m, rfl⟩ := hrel
        by_cases hlr : r < 4
        · have H := Lib.hid (upto_step (4 * c + r) (mixF f) fun _ => 0#8)
          have H2 := Lib.hid (mix_at f c r hlr)
          have b0 : 4 * c + r < 16 := by omega
          have b1 : 4 * c + (r + 1) % 4 < 16 := by omega
          have b2 : 4 * c + (r + 2) % 4 < 16 := by omega
          have b3 : 4 * c + (r + 3) % 4 < 16 := by omega
          go_wp2
          go_quiet (fail)
          go_wp2
          go_quiet (fail)
          go_wp2_with fail
          refine (mul_any (f (4 * c + r)) 2#8 rfl rfl _).mono ?_
          rintro e w' ⟨rfl, rfl⟩
          go_wp2_with fail
          refine (mul_any (f (4 * c + (r + 1) % 4)) 3#8 rfl rfl _).mono ?_
          rintro e w' ⟨rfl, rfl⟩
          go_wp2
          go_roundw
          case rel => exact ⟨r + 1, by omega, by go_num, _, by rw [← H2.out, H.out]; rfl⟩
          case measure => simp [intOf]; omega
        · obtain rfl : r = 4 := by omega
          go_wp2
          go_roundw
          case rel => exact ⟨c + 1, by omega, by go_num, m, rfl⟩
          case measure => simp [intOf]; omega
    · obtain rfl : c = 4 := by omega
      rw [show 4 * 4 = 16 from rfl, upto_all]
      go_wp2
      refine bodyPost_ret (v := .agg (ba 16 (mixF f))) (res_row rfl _ _ (w.heap.size + 1) _ _ _ rfl (by simp [go_sem]) blk_u (by rw [ba_size]; exact blk_i)) rfl ⟨rfl, ?_⟩
      exact below_drewN ((((Below.refl _ _).alloc (by simp) _).alloc (by simp) _).alloc (by simp; omega) _) _
end Go.Proofs.Ytokhldihfbaeoaa.Oct
