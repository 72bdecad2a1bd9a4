/- The array types of sha and its reference: loads and stores of whole arrays, their elements, comparisons, as rules of the walk. -/
import Derived.Test.YtjebkokkgkkogaaDoorRows
import Derived.Test.YtjebkokkgkkogaaDoorVa
import Derived.Test.YtjebkokkgkkogaaDoorTySl
namespace Go.Proofs.YtjebkokkgkkogaaDoor.Oct
open Go.RowKit
theorem u8_u : Tryd.prog.underlying 5 = some (.int .u8) := by kernel_rfl
theorem u8_i : (Tryd.prog.info? 5).map (·.size) = some 1 := by kernel_rfl
theorem u8_size (w : World) : (sizeOf 5).run Tryd.prog w = .ok 1 w := by kernel_rfl
theorem u32_u : Tryd.prog.underlying 28 = some (.int .u32) := by kernel_rfl
theorem u32_i : (Tryd.prog.info? 28).map (·.size) = some 1 := by kernel_rfl
theorem u64_u : Tryd.prog.underlying 51 = some (.int .u64) := by kernel_rfl
theorem str_u : Tryd.prog.underlying 9 = some .string := by kernel_rfl
/-! 29 -/
theorem s8_u : Tryd.prog.underlying 29 = some (.array 8 28) := by kernel_rfl
theorem s8_i : (Tryd.prog.info? 29).map (·.size) = some 8 := by kernel_rfl
@[go_sem ↓] theorem s8_l (p : Value) : Instr.loadAt 29 p = ldA 29 p := rfl
@[go_sem ↓] theorem s8_s (p v : Value) : Instr.storeAt 29 p v = stA 29 p v := rfl
@[go_sem] theorem s8_ld (w : World) (b o : Nat) : (ldA 29 (.pointer (some ⟨b, o, none⟩))).run Tryd.prog w = ldR Tryd.prog 29 8 w b o (row w b) := ld_rule _ _ _ s8_u 8 s8_i w b o
@[go_sem] theorem s8_st (w : World) (b o : Nat) (c : Array Value) : (stA 29 (.pointer (some ⟨b, o, none⟩)) (.agg c)).run Tryd.prog w = stR Tryd.prog 29 8 w b o (.agg c) (row w b) := st_rule _ 8 s8_i w b o c
theorem s8_z : (Tryd.prog.info? 29).map (·.zero) = some (some (.agg (wa 8 fun _ => 0#32))) := by unfold wa; kernel_rfl
@[go_sem ↓] theorem s8_zero (w : World) : (zeroValue 29).run Tryd.prog w = .ok (.agg (wa 8 fun _ => 0#32)) w := zero_rule _ _ s8_z w
theorem s8_b0 (w : World) : (Instr.build 29 #[]).run Tryd.prog w = .ok (.agg (wa 8 fun _ => 0#32)) w := by unfold wa; kernel_rfl
@[go_sem] theorem s8_ix (f : Nat → BitVec 32) (k : Nat) (h : k < 8) (w : World) : (Instr.index 29 (.agg (wa 8 f)) (.int .i64 (k : Int))).run Tryd.prog w = .ok (.int .u32 (M (f k))) w := by
  simp [Instr.index, part, go_sem, h]
@[go_sem] theorem s8_gd (op : BinOp) (x y : Operand) (xs ys : Array Value) (w : World) : (eqGuard op 29 x y (.agg xs) (.agg ys)).run Tryd.prog w = .ok () w := run_eqGuard_agg w op _ x y xs ys (by kernel_rfl)
@[go_sem] theorem s8_eq (d : Nat) (f g : Nat → BitVec 32) (w : World) : (Op.equalIn (d + 2) 29 (.agg (wa 8 f)) (.agg (wa 8 g))).run Tryd.prog w = .ok (eqW 8 f g) w := eq_words _ 8 d _ .u32 s8_u u32_u u32_i f g w
/-! 41 -/
theorem s64_u : Tryd.prog.underlying 41 = some (.array 64 28) := by kernel_rfl
theorem s64_i : (Tryd.prog.info? 41).map (·.size) = some 64 := by kernel_rfl
@[go_sem ↓] theorem s64_l (p : Value) : Instr.loadAt 41 p = ldA 41 p := rfl
@[go_sem ↓] theorem s64_s (p v : Value) : Instr.storeAt 41 p v = stA 41 p v := rfl
@[go_sem] theorem s64_ld (w : World) (b o : Nat) : (ldA 41 (.pointer (some ⟨b, o, none⟩))).run Tryd.prog w = ldR Tryd.prog 41 64 w b o (row w b) := ld_rule _ _ _ s64_u 64 s64_i w b o
@[go_sem] theorem s64_st (w : World) (b o : Nat) (c : Array Value) : (stA 41 (.pointer (some ⟨b, o, none⟩)) (.agg c)).run Tryd.prog w = stR Tryd.prog 41 64 w b o (.agg c) (row w b) := st_rule _ 64 s64_i w b o c
theorem s64_z : (Tryd.prog.info? 41).map (·.zero) = some (some (.agg (wa 64 fun _ => 0#32))) := by unfold wa; kernel_rfl
@[go_sem ↓] theorem s64_zero (w : World) : (zeroValue 41).run Tryd.prog w = .ok (.agg (wa 64 fun _ => 0#32)) w := zero_rule _ _ s64_z w
theorem s64_b0 (w : World) : (Instr.build 41 #[]).run Tryd.prog w = .ok (.agg (wa 64 fun _ => 0#32)) w := by unfold wa; kernel_rfl
@[go_sem] theorem s64_ix (f : Nat → BitVec 32) (k : Nat) (h : k < 64) (w : World) : (Instr.index 41 (.agg (wa 64 f)) (.int .i64 (k : Int))).run Tryd.prog w = .ok (.int .u32 (M (f k))) w := by
  simp [Instr.index, part, go_sem, h]
/-! 30 -/
theorem m64_u : Tryd.prog.underlying 30 = some (.array 64 5) := by kernel_rfl
theorem m64_i : (Tryd.prog.info? 30).map (·.size) = some 64 := by kernel_rfl
@[go_sem ↓] theorem m64_l (p : Value) : Instr.loadAt 30 p = ldA 30 p := rfl
@[go_sem ↓] theorem m64_s (p v : Value) : Instr.storeAt 30 p v = stA 30 p v := rfl
@[go_sem] theorem m64_ld (w : World) (b o : Nat) : (ldA 30 (.pointer (some ⟨b, o, none⟩))).run Tryd.prog w = ldR Tryd.prog 30 64 w b o (row w b) := ld_rule _ _ _ m64_u 64 m64_i w b o
@[go_sem] theorem m64_st (w : World) (b o : Nat) (c : Array Value) : (stA 30 (.pointer (some ⟨b, o, none⟩)) (.agg c)).run Tryd.prog w = stR Tryd.prog 30 64 w b o (.agg c) (row w b) := st_rule _ 64 m64_i w b o c
theorem m64_z : (Tryd.prog.info? 30).map (·.zero) = some (some (.agg (ba 64 fun _ => 0#8))) := by unfold ba; kernel_rfl
@[go_sem ↓] theorem m64_zero (w : World) : (zeroValue 30).run Tryd.prog w = .ok (.agg (ba 64 fun _ => 0#8)) w := zero_rule _ _ m64_z w
theorem m64_b0 (w : World) : (Instr.build 30 #[]).run Tryd.prog w = .ok (.agg (ba 64 fun _ => 0#8)) w := by unfold ba; kernel_rfl
@[go_sem] theorem m64_ix (f : Nat → BitVec 8) (k : Nat) (h : k < 64) (w : World) : (Instr.index 30 (.agg (ba 64 f)) (.int .i64 (k : Int))).run Tryd.prog w = .ok (.int .u8 (I (f k))) w := by
  simp [Instr.index, part, go_sem, h]
theorem m64_len : Tryd.prog.arrayLen 30 = 64 := by kernel_rfl
theorem m64_elem : Tryd.prog.elem 30 = 5 := by kernel_rfl
theorem m64_sl_h (B m : Nat) (hm : m ≤ 64) (w : World) : (Instr.sliceAt 30 (.pointer (some ⟨B, 0, none⟩)) none (some (.int .i64 (m : Int))) none).run Tryd.prog w = .ok (.slice (some ⟨B, 0, none⟩) m 64) w := by
  rw [run_sliceAt_array_h w 30 ⟨B, 0, none⟩ (by kernel_rfl) .i64 _ (by omega) (by rw [m64_len]; omega), m64_elem, u8_size, m64_len, Result.andThen_ok]
  unfold slicedAt
  rw [if_neg (by omega), Int.toNat_natCast]
  rfl
theorem m64_sl_l (B m : Nat) (hm : m < 64) (w : World) : (Instr.sliceAt 30 (.pointer (some ⟨B, 0, none⟩)) (some (.int .i64 (m : Int))) none none).run Tryd.prog w = .ok (.slice (some ⟨B, m, none⟩) (64 - m) (64 - m)) w := by
  rw [run_sliceAt_array_l w 30 ⟨B, 0, none⟩ (by kernel_rfl) .i64 _ (by omega) (by rw [m64_len]; omega), m64_elem, u8_size, m64_len, Result.andThen_ok]
  unfold slicedAt
  rw [if_neg (by omega), Int.toNat_natCast, add_mid]
  simp
/-! 25 -/
theorem sum_u : Tryd.prog.underlying 25 = some (.array 32 5) := by kernel_rfl
theorem sum_i : (Tryd.prog.info? 25).map (·.size) = some 32 := by kernel_rfl
@[go_sem ↓] theorem sum_l (p : Value) : Instr.loadAt 25 p = ldA 25 p := rfl
@[go_sem ↓] theorem sum_s (p v : Value) : Instr.storeAt 25 p v = stA 25 p v := rfl
@[go_sem] theorem sum_ld (w : World) (b o : Nat) : (ldA 25 (.pointer (some ⟨b, o, none⟩))).run Tryd.prog w = ldR Tryd.prog 25 32 w b o (row w b) := ld_rule _ _ _ sum_u 32 sum_i w b o
@[go_sem] theorem sum_st (w : World) (b o : Nat) (c : Array Value) : (stA 25 (.pointer (some ⟨b, o, none⟩)) (.agg c)).run Tryd.prog w = stR Tryd.prog 25 32 w b o (.agg c) (row w b) := st_rule _ 32 sum_i w b o c
theorem sum_z : (Tryd.prog.info? 25).map (·.zero) = some (some (.agg (ba 32 fun _ => 0#8))) := by unfold ba; kernel_rfl
@[go_sem ↓] theorem sum_zero (w : World) : (zeroValue 25).run Tryd.prog w = .ok (.agg (ba 32 fun _ => 0#8)) w := zero_rule _ _ sum_z w
theorem sum_b0 (w : World) : (Instr.build 25 #[]).run Tryd.prog w = .ok (.agg (ba 32 fun _ => 0#8)) w := by unfold ba; kernel_rfl
@[go_sem] theorem sum_ix (f : Nat → BitVec 8) (k : Nat) (h : k < 32) (w : World) : (Instr.index 25 (.agg (ba 32 f)) (.int .i64 (k : Int))).run Tryd.prog w = .ok (.int .u8 (I (f k))) w := by
  simp [Instr.index, part, go_sem, h]
@[go_sem] theorem sum_gd (op : BinOp) (x y : Operand) (xs ys : Array Value) (w : World) : (eqGuard op 25 x y (.agg xs) (.agg ys)).run Tryd.prog w = .ok () w := run_eqGuard_agg w op _ x y xs ys (by kernel_rfl)
@[go_sem] theorem sum_eq (d : Nat) (f g : Nat → BitVec 8) (w : World) : (Op.equalIn (d + 2) 25 (.agg (ba 32 f)) (.agg (ba 32 g))).run Tryd.prog w = .ok (eqB 32 f g) w := eq_bytes _ 32 d _ .u8 sum_u u8_u u8_i f g w
theorem sum_len : Tryd.prog.arrayLen 25 = 32 := by kernel_rfl
theorem sum_elem : Tryd.prog.elem 25 = 5 := by kernel_rfl
theorem sum_sl_h (B m : Nat) (hm : m ≤ 32) (w : World) : (Instr.sliceAt 25 (.pointer (some ⟨B, 0, none⟩)) none (some (.int .i64 (m : Int))) none).run Tryd.prog w = .ok (.slice (some ⟨B, 0, none⟩) m 32) w := by
  rw [run_sliceAt_array_h w 25 ⟨B, 0, none⟩ (by kernel_rfl) .i64 _ (by omega) (by rw [sum_len]; omega), sum_elem, u8_size, sum_len, Result.andThen_ok]
  unfold slicedAt
  rw [if_neg (by omega), Int.toNat_natCast]
  rfl
theorem sum_sl_l (B m : Nat) (hm : m < 32) (w : World) : (Instr.sliceAt 25 (.pointer (some ⟨B, 0, none⟩)) (some (.int .i64 (m : Int))) none none).run Tryd.prog w = .ok (.slice (some ⟨B, m, none⟩) (32 - m) (32 - m)) w := by
  rw [run_sliceAt_array_l w 25 ⟨B, 0, none⟩ (by kernel_rfl) .i64 _ (by omega) (by rw [sum_len]; omega), sum_elem, u8_size, sum_len, Result.andThen_ok]
  unfold slicedAt
  rw [if_neg (by omega), Int.toNat_natCast, add_mid]
  simp
/-! 56 -/
theorem q4_u : Tryd.prog.underlying 56 = some (.array 4 51) := by kernel_rfl
theorem q4_i : (Tryd.prog.info? 56).map (·.size) = some 4 := by kernel_rfl
@[go_sem ↓] theorem q4_l (p : Value) : Instr.loadAt 56 p = ldA 56 p := rfl
@[go_sem ↓] theorem q4_s (p v : Value) : Instr.storeAt 56 p v = stA 56 p v := rfl
@[go_sem] theorem q4_ld (w : World) (b o : Nat) : (ldA 56 (.pointer (some ⟨b, o, none⟩))).run Tryd.prog w = ldR Tryd.prog 56 4 w b o (row w b) := ld_rule _ _ _ q4_u 4 q4_i w b o
@[go_sem] theorem q4_st (w : World) (b o : Nat) (c : Array Value) : (stA 56 (.pointer (some ⟨b, o, none⟩)) (.agg c)).run Tryd.prog w = stR Tryd.prog 56 4 w b o (.agg c) (row w b) := st_rule _ 4 q4_i w b o c
theorem q4_z : (Tryd.prog.info? 56).map (·.zero) = some (some (.agg (qa 4 fun _ => 0))) := by unfold qa; kernel_rfl
@[go_sem ↓] theorem q4_zero (w : World) : (zeroValue 56).run Tryd.prog w = .ok (.agg (qa 4 fun _ => 0)) w := zero_rule _ _ q4_z w
theorem q4_b0 (w : World) : (Instr.build 56 #[]).run Tryd.prog w = .ok (.agg (qa 4 fun _ => 0)) w := by unfold qa; kernel_rfl
@[go_sem] theorem q4_ix (f : Nat → Nat) (k : Nat) (h : k < 4) (w : World) : (Instr.index 56 (.agg (qa 4 f)) (.int .i64 (k : Int))).run Tryd.prog w = .ok (.int .u64 (f k : Int)) w := by
  simp [Instr.index, part, go_sem, h]
/-! 59 -/
theorem q8_u : Tryd.prog.underlying 59 = some (.array 8 51) := by kernel_rfl
theorem q8_i : (Tryd.prog.info? 59).map (·.size) = some 8 := by kernel_rfl
@[go_sem ↓] theorem q8_l (p : Value) : Instr.loadAt 59 p = ldA 59 p := rfl
@[go_sem ↓] theorem q8_s (p v : Value) : Instr.storeAt 59 p v = stA 59 p v := rfl
@[go_sem] theorem q8_ld (w : World) (b o : Nat) : (ldA 59 (.pointer (some ⟨b, o, none⟩))).run Tryd.prog w = ldR Tryd.prog 59 8 w b o (row w b) := ld_rule _ _ _ q8_u 8 q8_i w b o
@[go_sem] theorem q8_st (w : World) (b o : Nat) (c : Array Value) : (stA 59 (.pointer (some ⟨b, o, none⟩)) (.agg c)).run Tryd.prog w = stR Tryd.prog 59 8 w b o (.agg c) (row w b) := st_rule _ 8 q8_i w b o c
theorem q8_z : (Tryd.prog.info? 59).map (·.zero) = some (some (.agg (qa 8 fun _ => 0))) := by unfold qa; kernel_rfl
@[go_sem ↓] theorem q8_zero (w : World) : (zeroValue 59).run Tryd.prog w = .ok (.agg (qa 8 fun _ => 0)) w := zero_rule _ _ q8_z w
theorem q8_b0 (w : World) : (Instr.build 59 #[]).run Tryd.prog w = .ok (.agg (qa 8 fun _ => 0)) w := by unfold qa; kernel_rfl
@[go_sem] theorem q8_ix (f : Nat → Nat) (k : Nat) (h : k < 8) (w : World) : (Instr.index 59 (.agg (qa 8 f)) (.int .i64 (k : Int))).run Tryd.prog w = .ok (.int .u64 (f k : Int)) w := by
  simp [Instr.index, part, go_sem, h]
/-! 57 -/
theorem q12_u : Tryd.prog.underlying 57 = some (.array 12 51) := by kernel_rfl
theorem q12_i : (Tryd.prog.info? 57).map (·.size) = some 12 := by kernel_rfl
@[go_sem ↓] theorem q12_l (p : Value) : Instr.loadAt 57 p = ldA 57 p := rfl
@[go_sem ↓] theorem q12_s (p v : Value) : Instr.storeAt 57 p v = stA 57 p v := rfl
@[go_sem] theorem q12_ld (w : World) (b o : Nat) : (ldA 57 (.pointer (some ⟨b, o, none⟩))).run Tryd.prog w = ldR Tryd.prog 57 12 w b o (row w b) := ld_rule _ _ _ q12_u 12 q12_i w b o
@[go_sem] theorem q12_st (w : World) (b o : Nat) (c : Array Value) : (stA 57 (.pointer (some ⟨b, o, none⟩)) (.agg c)).run Tryd.prog w = stR Tryd.prog 57 12 w b o (.agg c) (row w b) := st_rule _ 12 q12_i w b o c
theorem q12_z : (Tryd.prog.info? 57).map (·.zero) = some (some (.agg (qa 12 fun _ => 0))) := by unfold qa; kernel_rfl
@[go_sem ↓] theorem q12_zero (w : World) : (zeroValue 57).run Tryd.prog w = .ok (.agg (qa 12 fun _ => 0)) w := zero_rule _ _ q12_z w
theorem q12_b0 (w : World) : (Instr.build 57 #[]).run Tryd.prog w = .ok (.agg (qa 12 fun _ => 0)) w := by unfold qa; kernel_rfl
@[go_sem] theorem q12_ix (f : Nat → Nat) (k : Nat) (h : k < 12) (w : World) : (Instr.index 57 (.agg (qa 12 f)) (.int .i64 (k : Int))).run Tryd.prog w = .ok (.int .u64 (f k : Int)) w := by
  simp [Instr.index, part, go_sem, h]
theorem sum_sl_lh (B a b : Nat) (x y : Int) (hx : x = (a : Int)) (hy : y = (b : Int)) (h1 : a < b) (h2 : b ≤ 32) (w : World) : (Instr.sliceAt 25 (.pointer (some ⟨B, 0, none⟩)) (some (.int .i64 x)) (some (.int .i64 y)) none).run Tryd.prog w = .ok (.slice (some ⟨B, a, none⟩) (b - a) (32 - a)) w := by
  subst hx; subst hy
  rw [run_sliceAt_array_lh w 25 ⟨B, 0, none⟩ (by kernel_rfl) .i64 .i64 _ _ (by omega) (by omega) (by rw [sum_len]; omega), sum_elem, u8_size, sum_len, Result.andThen_ok]
  unfold slicedAt
  rw [Int.toNat_natCast, Int.toNat_natCast, if_neg (by omega), add_mid]
  simp
theorem m64_sl_all (B : Nat) (w : World) : (Instr.sliceAt 30 (.pointer (some ⟨B, 0, none⟩)) none none none).run Tryd.prog w = .ok (.slice (some ⟨B, 0, none⟩) 64 64) w := by
  rw [run_sliceAt_array_all w 30 ⟨B, 0, none⟩ (by kernel_rfl), m64_elem, u8_size, m64_len, Result.andThen_ok]
  rfl
end Go.Proofs.YtjebkokkgkkogaaDoor.Oct
