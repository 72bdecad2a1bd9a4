/- The statements' head: the document's example. -/
import Derived.Test.YtfbgjapbffbdpaaAesE
import Derived.Test.YtfbgjapbffbdpaaAesEx
namespace Go.Proofs.Ytfbgjapbffbdpaa.Oct
open Go.ChangeShapes Go.WideShapes Go.ChangeAt Go.RowKit

theorem exK_at (k : Nat) (h : k < 32) : Value.int .u8 (k : Int) = .int .u8 (I (exK k)) := by
  unfold I exK; rw [BitVec.toNat_ofNat, Nat.mod_eq_of_lt (by omega)]
theorem exB_at (k : Nat) (h : k < 32) : Value.int .u8 (17 * ((k : Int) / 2)) = .int .u8 (I (exB (k / 2))) := by
  unfold I exB; rw [BitVec.toNat_ofNat, Nat.mod_eq_of_lt (by omega)]; rfl
theorem exB_step (k : Nat) (z : Bf) : upd (upto ((k + 1) / 2) exB z) (k / 2) (exB (k / 2)) = upto ((k + 1 + 1) / 2) exB z := by
  funext i
  unfold upd upto
  by_cases h : i = k / 2
  · rw [if_pos h, if_pos (by omega), h]
  · rw [if_neg h]
    by_cases h2 : i < (k + 1) / 2
    · rw [if_pos h2, if_pos (by omega)]
    · rw [if_neg h2, if_neg (by omega)]
theorem lit_ok : (#[.int .u8 142, .int .u8 162, .int .u8 183, .int .u8 202, .int .u8 81, .int .u8 103, .int .u8 69, .int .u8 191, .int .u8 234, .int .u8 252, .int .u8 73, .int .u8 144, .int .u8 75, .int .u8 73, .int .u8 96, .int .u8 137] : Array Value) = ba 16 (tb (stN 14)) := by
  unfold ba; kernel_rfl
theorem bld (w : World) : (Instr.build 26 #[(0, .int .u8 142), (1, .int .u8 162), (2, .int .u8 183), (3, .int .u8 202), (4, .int .u8 81), (5, .int .u8 103), (6, .int .u8 69), (7, .int .u8 191), (8, .int .u8 234), (9, .int .u8 252), (10, .int .u8 73), (11, .int .u8 144), (12, .int .u8 75), (13, .int .u8 73), (14, .int .u8 96), (15, .int .u8 137)]).run Try.prog w = .ok (.agg (ba 16 (tb (stN 14)))) w := by
  rw [← lit_ok]; kernel_rfl

set_option maxHeartbeats 2000000 in
theorem shown_any (w : World) :
    Calls Try.prog 10 #[] w fun e w' => e = .returned (.bool true) ∧ Below w.heap.size w w' := by
  go_enter Try.func10, Try.ntmps10
  go_wp2_with fail
  go_loopw [3] (fun i wr => ∃ k : Nat, k ≤ 32 ∧ i = .int .i64 k ∧ wr = (w.alloc (.cells (ba 32 (upto k exK fun _ => 0#8)) 23)).alloc (.cells (ba 16 (upto ((k + 1) / 2) exB fun _ => 0#8)) 26)) (fun i _ => 32 - (intOf i).toNat)
  case atStart => exact ⟨0, by omega, rfl, by rw [upto_zero, show (0 + 1) / 2 = 0 from rfl, upto_zero]⟩
  case round =>
    obtain ⟨k, hk, rfl, rfl⟩ := hrel
    by_cases hlt : k < 32
    · have b2 : k / 2 < 16 := by omega
      go_wp2
      go_roundw
      case rel =>
        refine ⟨k + 1, by omega, by go_num, ?_⟩
        rw [show Value.int .u8 (k : Int) = .int .u8 (I (exK k)) from exK_at k hlt, ba_set, upto_step]
        rw [show Value.int .u8 (17 * ((k : Int) / 2)) = .int .u8 (I (exB (k / 2))) from exB_at k hlt, ba_set, exB_step]
      case measure => simp [intOf]; omega
    · obtain rfl : k = 32 := by omega
      rw [upto_all, show (32 + 1) / 2 = 16 from rfl, upto_all]
      go_wp2_with fail
      obtain ⟨C, hC⟩ : ∃ C, C = encF exK exB := ⟨_, rfl⟩
      refine (encrypt_any exK exB _).mono ?_
      rw [← hC]
      have HC := Lib.hid hC
      clear hC
      rintro e w5 ⟨rfl, hb5⟩
      have HB := Lib.hid hb5
      clear hb5
      go_wp2_with (refine wpl_build rfl 26 _ rfl _ _ bld (by kernel_rfl) ?_)
      have hx : eqB 16 C (tb (stN 14)) = true := by rw [HC.out]; exact (eqB_iff _ _ _).2 ex_enc
      rw [hx]
      go_ret
      exact ⟨rfl, onto (((Below.refl _ _).alloc (by simp) _).alloc (by simp) _) (by simp; omega) HB.out⟩
end Go.Proofs.Ytfbgjapbffbdpaa.Oct
