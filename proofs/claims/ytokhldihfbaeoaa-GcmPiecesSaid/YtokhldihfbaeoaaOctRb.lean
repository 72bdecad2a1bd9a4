/- The reference's box: its contract, over those of OctWalks. -/
import Derived.Test.YtokhldihfbaeoaaOctWalks
namespace Go.Proofs.Ytokhldihfbaeoaa.Oct
open Go.ChangeShapes Go.WideShapes Go.ChangeAt Go.RowKit

theorem I_shl (a : BitVec 8) (k : Nat) : I a * 2 ^ k % 256 = I (a <<< k) := by
  unfold I; rw [BitVec.toNat_shiftLeft, Nat.shiftLeft_eq, Int.natCast_emod, Int.natCast_mul, Int.natCast_pow]; rfl
theorem rbit_one : ∀ v : BitVec 8, bits .and .u8 (I v) 1 = I (v &&& 1#8) := by decide +kernel
theorem rbit_step (b : BitVec 8) (k : Nat) :
    bits .or .u8 (I (rBoxTo b k)) (bits .and .u8 (bits .xor .u8 (bits .xor .u8 (bits .xor .u8 (bits .xor .u8 (bits .xor .u8 (99 / 2 ^ k) (I b / 2 ^ k)) (I b / 2 ^ ((k + 4) % 8))) (I b / 2 ^ ((k + 5) % 8))) (I b / 2 ^ ((k + 6) % 8))) (I b / 2 ^ ((k + 7) % 8))) 1 * 2 ^ k % 256) = I (rBoxTo b (k + 1)) := by
  rw [show (99 : Int) = I 99#8 from rfl]
  simp only [I_shr, I_xor]
  rw [rbit_one, I_shl, I_or]
  rfl

set_option maxHeartbeats 1000000 in
theorem rbox_any {x : Int} (a : BitVec 8) (hx : x = I a) (w : World) :
    Calls Try.prog 41 #[.int .u8 x] w fun e w' => e = .returned (.int .u8 (I (box a))) ∧ ∃ n, w' = w.drewN n := by
  subst hx
  obtain ⟨b, hb⟩ : ∃ b, b = inv a := ⟨_, rfl⟩
  have HB := Lib.hid hb; clear hb
  obtain ⟨hb0, hb1⟩ := I_bd b
  go_enter Try.func41, Try.ntmps41
  go_wp2_with (go_at_call 55; (with_reducible refine (rinv_any _ rfl _).mono ?_); rw [← HB.out]; rintro e w' ⟨rfl, rfl⟩)
  go_loopw [4, 5] (fun o j wr => ∃ k : Nat, k ≤ 8 ∧ j = .int .i64 k ∧ o = .int .u8 (I (rBoxTo b k)) ∧ ∃ n, wr = w.drewN n) (fun _ j _ => 8 - (intOf j).toNat)
  case atStart => exact ⟨0, by omega, rfl, rfl, 0, rfl⟩
  case round =>
    obtain ⟨k, hk, rfl, rfl, n, rfl⟩ := hrel
    by_cases hlt : k < 8
    · obtain ⟨hd0, hd1⟩ := I_bd (rBoxTo b k)
      go_wp2
      go_quiet (fail)
      go_wp2
      go_roundw
      case rel => exact ⟨k + 1, by omega, by go_num, by rw [← rbit_step], _, rfl⟩
      case measure => simp [intOf]; omega
    · obtain rfl : k = 8 := by omega
      go_wp2
      go_ret
      exact ⟨ret_u8 (by rw [rBox_eq, HB.out]; rfl), n, rfl⟩

end Go.Proofs.Ytokhldihfbaeoaa.Oct
