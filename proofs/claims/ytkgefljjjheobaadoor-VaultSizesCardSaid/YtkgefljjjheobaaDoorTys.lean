import Derived.Test.YtkgefljjjheobaaDoorRows
import Derived.Test.YtkgefljjjheobaaDoorTySl
import Derived.Test.YtkgefljjjheobaaDoorLib

/-! ## TyK -/
/- The type api.Block: loads and stores of whole blocks, their bytes, comparisons, as rules of the walk. -/
namespace Go.Proofs.YtkgefljjjheobaaDoor.Oct
open Go.RowKit
/- 52 -/
theorem blk_u : Tryd.prog.underlying 52 = some (.array 16 5) := by kernel_rfl
theorem blk_i : (Tryd.prog.info? 52).map (·.size) = some 16 := by kernel_rfl
@[go_sem ↓] theorem blk_l (p : Value) : Instr.loadAt 52 p = ldA 52 p := rfl
@[go_sem ↓] theorem blk_s (p v : Value) : Instr.storeAt 52 p v = stA 52 p v := rfl
@[go_sem] theorem blk_ld (w : World) (b o : Nat) : (ldA 52 (.pointer (some ⟨b, o, none⟩))).run Tryd.prog w = ldR Tryd.prog 52 16 w b o (row w b) := ld_rule _ _ _ blk_u 16 blk_i w b o
@[go_sem] theorem blk_st (w : World) (b o : Nat) (c : Array Value) : (stA 52 (.pointer (some ⟨b, o, none⟩)) (.agg c)).run Tryd.prog w = stR Tryd.prog 52 16 w b o (.agg c) (row w b) := st_rule _ 16 blk_i w b o c
theorem blk_z : (Tryd.prog.info? 52).map (·.zero) = some (some (.agg (ba 16 fun _ => 0#8))) := by unfold ba; kernel_rfl
@[go_sem ↓] theorem blk_zero (w : World) : (zeroValue 52).run Tryd.prog w = .ok (.agg (ba 16 fun _ => 0#8)) w := zero_rule _ _ blk_z w
@[go_sem] theorem blk_ix (f : Nat → BitVec 8) (k : Nat) (h : k < 16) (w : World) : (Instr.index 52 (.agg (ba 16 f)) (.int .i64 (k : Int))).run Tryd.prog w = .ok (.int .u8 (I (f k))) w := by
  simp [Instr.index, part, go_sem, h]
/- comparisons -/
@[go_sem] theorem blk_gd (op : BinOp) (x y : Operand) (xs ys : Array Value) (w : World) : (eqGuard op 52 x y (.agg xs) (.agg ys)).run Tryd.prog w = .ok () w := run_eqGuard_agg w op _ x y xs ys (by kernel_rfl)
@[go_sem] theorem blk_eq (d : Nat) (f g : Nat → BitVec 8) (w : World) : (Op.equalIn (d + 2) 52 (.agg (ba 16 f)) (.agg (ba 16 g))).run Tryd.prog w = .ok (eqB 16 f g) w := eq_bytes _ 16 d _ .u8 blk_u u8_u u8_i f g w
end Go.Proofs.YtkgefljjjheobaaDoor.Oct

/-! ## TyBox -/
/- The type [256]uint8: loads and stores of whole arrays, as rules of the walk. -/
namespace Go.Proofs.YtkgefljjjheobaaDoor.Oct
open Go.RowKit
end Go.Proofs.YtkgefljjjheobaaDoor.Oct

/-! ## Ty -/
/- The program's other arrays of bytes (aes): loads and stores of whole ones, and of their parts, as rules of the walk. -/
namespace Go.Proofs.YtkgefljjjheobaaDoor.Oct
open Go.RowKit
/- 89 -/
theorem wrd_u : Tryd.prog.underlying 89 = some (.array 4 5) := by kernel_rfl
theorem wrd_i : (Tryd.prog.info? 89).map (·.size) = some 4 := by kernel_rfl
@[go_sem ↓] theorem wrd_l (p : Value) : Instr.loadAt 89 p = ldA 89 p := rfl
@[go_sem ↓] theorem wrd_s (p v : Value) : Instr.storeAt 89 p v = stA 89 p v := rfl
@[go_sem] theorem wrd_ld (w : World) (b o : Nat) : (ldA 89 (.pointer (some ⟨b, o, none⟩))).run Tryd.prog w = ldR Tryd.prog 89 4 w b o (row w b) := ld_rule _ _ _ wrd_u 4 wrd_i w b o
@[go_sem] theorem wrd_st (w : World) (b o : Nat) (c : Array Value) : (stA 89 (.pointer (some ⟨b, o, none⟩)) (.agg c)).run Tryd.prog w = stR Tryd.prog 89 4 w b o (.agg c) (row w b) := st_rule _ 4 wrd_i w b o c
theorem wrd_z : (Tryd.prog.info? 89).map (·.zero) = some (some (.agg (ba 4 fun _ => 0#8))) := by unfold ba; kernel_rfl
@[go_sem ↓] theorem wrd_zero (w : World) : (zeroValue 89).run Tryd.prog w = .ok (.agg (ba 4 fun _ => 0#8)) w := zero_rule _ _ wrd_z w
/- 23 -/
theorem key_u : Tryd.prog.underlying 23 = some (.array 32 5) := by kernel_rfl
theorem key_i : (Tryd.prog.info? 23).map (·.size) = some 32 := by kernel_rfl
@[go_sem ↓] theorem key_l (p : Value) : Instr.loadAt 23 p = ldA 23 p := rfl
@[go_sem ↓] theorem key_s (p v : Value) : Instr.storeAt 23 p v = stA 23 p v := rfl
@[go_sem] theorem key_ld (w : World) (b o : Nat) : (ldA 23 (.pointer (some ⟨b, o, none⟩))).run Tryd.prog w = ldR Tryd.prog 23 32 w b o (row w b) := ld_rule _ _ _ key_u 32 key_i w b o
@[go_sem] theorem key_st (w : World) (b o : Nat) (c : Array Value) : (stA 23 (.pointer (some ⟨b, o, none⟩)) (.agg c)).run Tryd.prog w = stR Tryd.prog 23 32 w b o (.agg c) (row w b) := st_rule _ 32 key_i w b o c
theorem key_z : (Tryd.prog.info? 23).map (·.zero) = some (some (.agg (ba 32 fun _ => 0#8))) := by unfold ba; kernel_rfl
@[go_sem ↓] theorem key_zero (w : World) : (zeroValue 23).run Tryd.prog w = .ok (.agg (ba 32 fun _ => 0#8)) w := zero_rule _ _ key_z w
/- 90 -/
theorem wds_u : Tryd.prog.underlying 90 = some (.array 60 89) := by kernel_rfl
theorem wds_i : (Tryd.prog.info? 90).map (·.size) = some 240 := by kernel_rfl
@[go_sem ↓] theorem wds_l (p : Value) : Instr.loadAt 90 p = ldA 90 p := rfl
@[go_sem ↓] theorem wds_s (p v : Value) : Instr.storeAt 90 p v = stA 90 p v := rfl
@[go_sem] theorem wds_ld (w : World) (b o : Nat) : (ldA 90 (.pointer (some ⟨b, o, none⟩))).run Tryd.prog w = ldR Tryd.prog 90 240 w b o (row w b) := ld_rule _ _ _ wds_u 240 wds_i w b o
@[go_sem] theorem wds_st (w : World) (b o : Nat) (c : Array Value) : (stA 90 (.pointer (some ⟨b, o, none⟩)) (.agg c)).run Tryd.prog w = stR Tryd.prog 90 240 w b o (.agg c) (row w b) := st_rule _ 240 wds_i w b o c
theorem wds_z : (Tryd.prog.info? 90).map (·.zero) = some (some (.agg (ba 240 fun _ => 0#8))) := by unfold ba; kernel_rfl
@[go_sem ↓] theorem wds_zero (w : World) : (zeroValue 90).run Tryd.prog w = .ok (.agg (ba 240 fun _ => 0#8)) w := zero_rule _ _ wds_z w
/- 80 -/
theorem bks_u : Tryd.prog.underlying 80 = some (.array 15 52) := by kernel_rfl
theorem bks_i : (Tryd.prog.info? 80).map (·.size) = some 240 := by kernel_rfl
@[go_sem ↓] theorem bks_l (p : Value) : Instr.loadAt 80 p = ldA 80 p := rfl
@[go_sem ↓] theorem bks_s (p v : Value) : Instr.storeAt 80 p v = stA 80 p v := rfl
@[go_sem] theorem bks_ld (w : World) (b o : Nat) : (ldA 80 (.pointer (some ⟨b, o, none⟩))).run Tryd.prog w = ldR Tryd.prog 80 240 w b o (row w b) := ld_rule _ _ _ bks_u 240 bks_i w b o
@[go_sem] theorem bks_st (w : World) (b o : Nat) (c : Array Value) : (stA 80 (.pointer (some ⟨b, o, none⟩)) (.agg c)).run Tryd.prog w = stR Tryd.prog 80 240 w b o (.agg c) (row w b) := st_rule _ 240 bks_i w b o c
theorem bks_z : (Tryd.prog.info? 80).map (·.zero) = some (some (.agg (ba 240 fun _ => 0#8))) := by unfold ba; kernel_rfl
@[go_sem ↓] theorem bks_zero (w : World) : (zeroValue 80).run Tryd.prog w = .ok (.agg (ba 240 fun _ => 0#8)) w := zero_rule _ _ bks_z w
@[go_sem] theorem wrd_ix (f : Nat → BitVec 8) (k : Nat) (h : k < 4) (w : World) : (Instr.index 89 (.agg (ba 4 f)) (.int .i64 (k : Int))).run Tryd.prog w = .ok (.int .u8 (I (f k))) w := by
  simp [Instr.index, part, go_sem, h]
@[go_sem] theorem key_ix (f : Nat → BitVec 8) (k : Nat) (h : k < 32) (w : World) : (Instr.index 23 (.agg (ba 32 f)) (.int .i64 (k : Int))).run Tryd.prog w = .ok (.int .u8 (I (f k))) w := by
  simp [Instr.index, part, go_sem, h]
@[go_sem] theorem wds_ix (f : Nat → BitVec 8) (k : Nat) (h : k < 60) (w : World) : (Instr.index 90 (.agg (ba 240 f)) (.int .i64 (k : Int))).run Tryd.prog w = .ok (.agg (ba 4 (offF f (k * 4)))) w := by
  have h1 : ¬ 60 ≤ k := by omega
  have h2 := ba_ex 240 (k * 4) (k * 4 + 4) f (by omega)
  simp [Instr.index, part, go_sem, h1, h2]
@[go_sem] theorem bks_ix (f : Nat → BitVec 8) (k : Nat) (h : k < 15) (w : World) : (Instr.index 80 (.agg (ba 240 f)) (.int .i64 (k : Int))).run Tryd.prog w = .ok (.agg (ba 16 (offF f (k * 16)))) w := by
  have h1 : ¬ 15 ≤ k := by omega
  have h2 := ba_ex 240 (k * 16) (k * 16 + 16) f (by omega)
  simp [Instr.index, part, go_sem, h1, h2]
@[go_sem] theorem bks_gd (op : BinOp) (x y : Operand) (xs ys : Array Value) (w : World) : (eqGuard op 80 x y (.agg xs) (.agg ys)).run Tryd.prog w = .ok () w := run_eqGuard_agg w op _ x y xs ys (by kernel_rfl)
@[go_sem] theorem bks_eq (d : Nat) (f g : Nat → BitVec 8) (w : World) : (Op.equalIn (d + 3) 80 (.agg (ba 240 f)) (.agg (ba 240 g))).run Tryd.prog w = .ok (eqB 240 f g) w := eq_blocks _ 15 16 240 d _ _ .u8 rfl bks_u blk_u blk_i u8_u u8_i f g w
end Go.Proofs.YtkgefljjjheobaaDoor.Oct

/-! ## TyNo -/
/- The type api.Nonce: loads and stores of whole ones, and slices of blocks and nonces, as rules of the walk. -/
namespace Go.Proofs.YtkgefljjjheobaaDoor.Oct
open Go.RowKit
/- 31 -/
theorem non_u : Tryd.prog.underlying 31 = some (.array 12 5) := by kernel_rfl
theorem non_i : (Tryd.prog.info? 31).map (·.size) = some 12 := by kernel_rfl
@[go_sem ↓] theorem non_l (p : Value) : Instr.loadAt 31 p = ldA 31 p := rfl
@[go_sem ↓] theorem non_s (p v : Value) : Instr.storeAt 31 p v = stA 31 p v := rfl
@[go_sem] theorem non_ld (w : World) (b o : Nat) : (ldA 31 (.pointer (some ⟨b, o, none⟩))).run Tryd.prog w = ldR Tryd.prog 31 12 w b o (row w b) := ld_rule _ _ _ non_u 12 non_i w b o
@[go_sem] theorem non_st (w : World) (b o : Nat) (c : Array Value) : (stA 31 (.pointer (some ⟨b, o, none⟩)) (.agg c)).run Tryd.prog w = stR Tryd.prog 31 12 w b o (.agg c) (row w b) := st_rule _ 12 non_i w b o c
theorem non_z : (Tryd.prog.info? 31).map (·.zero) = some (some (.agg (ba 12 fun _ => 0#8))) := by unfold ba; kernel_rfl
@[go_sem ↓] theorem non_zero (w : World) : (zeroValue 31).run Tryd.prog w = .ok (.agg (ba 12 fun _ => 0#8)) w := zero_rule _ _ non_z w
/- slices of a block -/
theorem blk_len : Tryd.prog.arrayLen 52 = 16 := by kernel_rfl
theorem blk_elem : Tryd.prog.elem 52 = 5 := by kernel_rfl
theorem blk_sl_h (B m : Nat) (hm : m ≤ 16) (w : World) : (Instr.sliceAt 52 (.pointer (some ⟨B, 0, none⟩)) none (some (.int .i64 (m : Int))) none).run Tryd.prog w = .ok (.slice (some ⟨B, 0, none⟩) m 16) w := by
  rw [run_sliceAt_array_h w 52 ⟨B, 0, none⟩ (by kernel_rfl) .i64 _ (by omega) (by rw [blk_len]; omega), blk_elem, u8_size, blk_len, Result.andThen_ok]
  unfold slicedAt
  rw [if_neg (by omega), Int.toNat_natCast]
  rfl
theorem blk_sl_l (B m : Nat) (hm : m < 16) (w : World) : (Instr.sliceAt 52 (.pointer (some ⟨B, 0, none⟩)) (some (.int .i64 (m : Int))) none none).run Tryd.prog w = .ok (.slice (some ⟨B, m, none⟩) (16 - m) (16 - m)) w := by
  rw [run_sliceAt_array_l w 52 ⟨B, 0, none⟩ (by kernel_rfl) .i64 _ (by omega) (by rw [blk_len]; omega), blk_elem, u8_size, blk_len, Result.andThen_ok]
  unfold slicedAt
  rw [if_neg (by omega), Int.toNat_natCast, add_mid]
  simp
end Go.Proofs.YtkgefljjjheobaaDoor.Oct
