/- The type api.Nonce: loads and stores of whole ones, and slices of blocks and nonces, as rules of the walk. -/
import Derived.Test.YtokhldihfbaeoaaTyK
import Derived.Test.YtokhldihfbaeoaaTy
import Derived.Test.YtokhldihfbaeoaaSl
namespace Go.Proofs.Ytokhldihfbaeoaa.Oct
open Go.RowKit
/- 25 -/
theorem non_u : Try.prog.underlying 25 = some (.array 12 5) := by kernel_rfl
theorem non_i : (Try.prog.info? 25).map (·.size) = some 12 := by kernel_rfl
@[go_sem ↓] theorem non_l (p : Value) : Instr.loadAt 25 p = ldA 25 p := rfl
@[go_sem ↓] theorem non_s (p v : Value) : Instr.storeAt 25 p v = stA 25 p v := rfl
@[go_sem] theorem non_ld (w : World) (b o : Nat) : (ldA 25 (.pointer (some ⟨b, o, none⟩))).run Try.prog w = ldR Try.prog 25 12 w b o (row w b) := ld_rule _ _ _ non_u 12 non_i w b o
@[go_sem] theorem non_st (w : World) (b o : Nat) (c : Array Value) : (stA 25 (.pointer (some ⟨b, o, none⟩)) (.agg c)).run Try.prog w = stR Try.prog 25 12 w b o (.agg c) (row w b) := st_rule _ 12 non_i w b o c
theorem non_z : (Try.prog.info? 25).map (·.zero) = some (some (.agg (ba 12 fun _ => 0#8))) := by unfold ba; kernel_rfl
@[go_sem ↓] theorem non_zero (w : World) : (zeroValue 25).run Try.prog w = .ok (.agg (ba 12 fun _ => 0#8)) w := zero_rule _ _ non_z w
/- slices of a block -/
theorem blk_len : Try.prog.arrayLen 35 = 16 := by kernel_rfl
theorem blk_elem : Try.prog.elem 35 = 5 := by kernel_rfl
theorem u8_size (w : World) : (sizeOf 5).run Try.prog w = .ok 1 w := by kernel_rfl
theorem blk_sl_h (B m : Nat) (hm : m ≤ 16) (w : World) : (Instr.sliceAt 35 (.pointer (some ⟨B, 0, none⟩)) none (some (.int .i64 (m : Int))) none).run Try.prog w = .ok (.slice (some ⟨B, 0, none⟩) m 16) w := by
  rw [run_sliceAt_array_h w 35 ⟨B, 0, none⟩ (by kernel_rfl) .i64 _ (by omega) (by rw [blk_len]; omega), blk_elem, u8_size, blk_len, Result.andThen_ok]
  unfold slicedAt
  rw [if_neg (by omega), Int.toNat_natCast]
  rfl
theorem blk_sl_l (B m : Nat) (hm : m < 16) (w : World) : (Instr.sliceAt 35 (.pointer (some ⟨B, 0, none⟩)) (some (.int .i64 (m : Int))) none none).run Try.prog w = .ok (.slice (some ⟨B, m, none⟩) (16 - m) (16 - m)) w := by
  rw [run_sliceAt_array_l w 35 ⟨B, 0, none⟩ (by kernel_rfl) .i64 _ (by omega) (by rw [blk_len]; omega), blk_elem, u8_size, blk_len, Result.andThen_ok]
  unfold slicedAt
  rw [if_neg (by omega), Int.toNat_natCast, add_mid]
  simp
end Go.Proofs.Ytokhldihfbaeoaa.Oct
