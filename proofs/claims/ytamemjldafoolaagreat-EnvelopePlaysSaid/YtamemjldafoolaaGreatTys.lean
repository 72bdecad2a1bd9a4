import Derived.Test.YtamemjldafoolaaGreatRows
import Derived.Test.YtamemjldafoolaaGreatTySl
import Derived.Test.YtamemjldafoolaaGreatLib

/-! ## TyK -/
/- The type api.Block: loads and stores of whole blocks, their bytes, comparisons, as rules of the walk. -/
namespace Go.Proofs.YtamemjldafoolaaGreat.Oct
open Go.RowKit
/- 100 -/
theorem blk_u : Tryz.prog.underlying 100 = some (.array 16 5) := by kernel_rfl
theorem blk_i : (Tryz.prog.info? 100).map (·.size) = some 16 := by kernel_rfl
@[go_sem ↓] theorem blk_l (p : Value) : Instr.loadAt 100 p = ldA 100 p := rfl
@[go_sem ↓] theorem blk_s (p v : Value) : Instr.storeAt 100 p v = stA 100 p v := rfl
@[go_sem] theorem blk_ld (w : World) (b o : Nat) : (ldA 100 (.pointer (some ⟨b, o, none⟩))).run Tryz.prog w = ldR Tryz.prog 100 16 w b o (row w b) := ld_rule _ _ _ blk_u 16 blk_i w b o
@[go_sem] theorem blk_st (w : World) (b o : Nat) (c : Array Value) : (stA 100 (.pointer (some ⟨b, o, none⟩)) (.agg c)).run Tryz.prog w = stR Tryz.prog 100 16 w b o (.agg c) (row w b) := st_rule _ 16 blk_i w b o c
theorem blk_z : (Tryz.prog.info? 100).map (·.zero) = some (some (.agg (ba 16 fun _ => 0#8))) := by unfold ba; kernel_rfl
@[go_sem ↓] theorem blk_zero (w : World) : (zeroValue 100).run Tryz.prog w = .ok (.agg (ba 16 fun _ => 0#8)) w := zero_rule _ _ blk_z w
@[go_sem] theorem blk_ix (f : Nat → BitVec 8) (k : Nat) (h : k < 16) (w : World) : (Instr.index 100 (.agg (ba 16 f)) (.int .i64 (k : Int))).run Tryz.prog w = .ok (.int .u8 (I (f k))) w := by
  simp [Instr.index, part, go_sem, h]
/- comparisons -/
@[go_sem] theorem blk_gd (op : BinOp) (x y : Operand) (xs ys : Array Value) (w : World) : (eqGuard op 100 x y (.agg xs) (.agg ys)).run Tryz.prog w = .ok () w := run_eqGuard_agg w op _ x y xs ys (by kernel_rfl)
@[go_sem] theorem blk_eq (d : Nat) (f g : Nat → BitVec 8) (w : World) : (Op.equalIn (d + 2) 100 (.agg (ba 16 f)) (.agg (ba 16 g))).run Tryz.prog w = .ok (eqB 16 f g) w := eq_bytes _ 16 d _ .u8 blk_u u8_u u8_i f g w
end Go.Proofs.YtamemjldafoolaaGreat.Oct

/-! ## TyBox -/
/- The type [256]uint8: loads and stores of whole arrays, as rules of the walk. -/
namespace Go.Proofs.YtamemjldafoolaaGreat.Oct
open Go.RowKit
/- 113 -/
theorem box_u : Tryz.prog.underlying 113 = some (.array 256 5) := by kernel_rfl
theorem box_i : (Tryz.prog.info? 113).map (·.size) = some 256 := by kernel_rfl
@[go_sem ↓] theorem box_l (p : Value) : Instr.loadAt 113 p = ldA 113 p := rfl
@[go_sem ↓] theorem box_s (p v : Value) : Instr.storeAt 113 p v = stA 113 p v := rfl
@[go_sem] theorem box_ld (w : World) (b o : Nat) : (ldA 113 (.pointer (some ⟨b, o, none⟩))).run Tryz.prog w = ldR Tryz.prog 113 256 w b o (row w b) := ld_rule _ _ _ box_u 256 box_i w b o
@[go_sem] theorem box_st (w : World) (b o : Nat) (c : Array Value) : (stA 113 (.pointer (some ⟨b, o, none⟩)) (.agg c)).run Tryz.prog w = stR Tryz.prog 113 256 w b o (.agg c) (row w b) := st_rule _ 256 box_i w b o c
theorem box_z : (Tryz.prog.info? 113).map (·.zero) = some (some (.agg (ba 256 fun _ => 0#8))) := by unfold ba; kernel_rfl
@[go_sem ↓] theorem box_zero (w : World) : (zeroValue 113).run Tryz.prog w = .ok (.agg (ba 256 fun _ => 0#8)) w := zero_rule _ _ box_z w
end Go.Proofs.YtamemjldafoolaaGreat.Oct

/-! ## Ty -/
/- The program's other arrays of bytes (aes): loads and stores of whole ones, and of their parts, as rules of the walk. -/
namespace Go.Proofs.YtamemjldafoolaaGreat.Oct
open Go.RowKit
/- 127 -/
theorem wrd_u : Tryz.prog.underlying 127 = some (.array 4 5) := by kernel_rfl
theorem wrd_i : (Tryz.prog.info? 127).map (·.size) = some 4 := by kernel_rfl
@[go_sem ↓] theorem wrd_l (p : Value) : Instr.loadAt 127 p = ldA 127 p := rfl
@[go_sem ↓] theorem wrd_s (p v : Value) : Instr.storeAt 127 p v = stA 127 p v := rfl
@[go_sem] theorem wrd_ld (w : World) (b o : Nat) : (ldA 127 (.pointer (some ⟨b, o, none⟩))).run Tryz.prog w = ldR Tryz.prog 127 4 w b o (row w b) := ld_rule _ _ _ wrd_u 4 wrd_i w b o
@[go_sem] theorem wrd_st (w : World) (b o : Nat) (c : Array Value) : (stA 127 (.pointer (some ⟨b, o, none⟩)) (.agg c)).run Tryz.prog w = stR Tryz.prog 127 4 w b o (.agg c) (row w b) := st_rule _ 4 wrd_i w b o c
theorem wrd_z : (Tryz.prog.info? 127).map (·.zero) = some (some (.agg (ba 4 fun _ => 0#8))) := by unfold ba; kernel_rfl
@[go_sem ↓] theorem wrd_zero (w : World) : (zeroValue 127).run Tryz.prog w = .ok (.agg (ba 4 fun _ => 0#8)) w := zero_rule _ _ wrd_z w
/- 32 -/
theorem key_u : Tryz.prog.underlying 32 = some (.array 32 5) := by kernel_rfl
theorem key_i : (Tryz.prog.info? 32).map (·.size) = some 32 := by kernel_rfl
@[go_sem ↓] theorem key_l (p : Value) : Instr.loadAt 32 p = ldA 32 p := rfl
@[go_sem ↓] theorem key_s (p v : Value) : Instr.storeAt 32 p v = stA 32 p v := rfl
@[go_sem] theorem key_ld (w : World) (b o : Nat) : (ldA 32 (.pointer (some ⟨b, o, none⟩))).run Tryz.prog w = ldR Tryz.prog 32 32 w b o (row w b) := ld_rule _ _ _ key_u 32 key_i w b o
@[go_sem] theorem key_st (w : World) (b o : Nat) (c : Array Value) : (stA 32 (.pointer (some ⟨b, o, none⟩)) (.agg c)).run Tryz.prog w = stR Tryz.prog 32 32 w b o (.agg c) (row w b) := st_rule _ 32 key_i w b o c
theorem key_z : (Tryz.prog.info? 32).map (·.zero) = some (some (.agg (ba 32 fun _ => 0#8))) := by unfold ba; kernel_rfl
@[go_sem ↓] theorem key_zero (w : World) : (zeroValue 32).run Tryz.prog w = .ok (.agg (ba 32 fun _ => 0#8)) w := zero_rule _ _ key_z w
/- 128 -/
theorem wds_u : Tryz.prog.underlying 128 = some (.array 60 127) := by kernel_rfl
theorem wds_i : (Tryz.prog.info? 128).map (·.size) = some 240 := by kernel_rfl
@[go_sem ↓] theorem wds_l (p : Value) : Instr.loadAt 128 p = ldA 128 p := rfl
@[go_sem ↓] theorem wds_s (p v : Value) : Instr.storeAt 128 p v = stA 128 p v := rfl
@[go_sem] theorem wds_ld (w : World) (b o : Nat) : (ldA 128 (.pointer (some ⟨b, o, none⟩))).run Tryz.prog w = ldR Tryz.prog 128 240 w b o (row w b) := ld_rule _ _ _ wds_u 240 wds_i w b o
@[go_sem] theorem wds_st (w : World) (b o : Nat) (c : Array Value) : (stA 128 (.pointer (some ⟨b, o, none⟩)) (.agg c)).run Tryz.prog w = stR Tryz.prog 128 240 w b o (.agg c) (row w b) := st_rule _ 240 wds_i w b o c
theorem wds_z : (Tryz.prog.info? 128).map (·.zero) = some (some (.agg (ba 240 fun _ => 0#8))) := by unfold ba; kernel_rfl
@[go_sem ↓] theorem wds_zero (w : World) : (zeroValue 128).run Tryz.prog w = .ok (.agg (ba 240 fun _ => 0#8)) w := zero_rule _ _ wds_z w
/- 111 -/
theorem bks_u : Tryz.prog.underlying 111 = some (.array 15 100) := by kernel_rfl
theorem bks_i : (Tryz.prog.info? 111).map (·.size) = some 240 := by kernel_rfl
@[go_sem ↓] theorem bks_l (p : Value) : Instr.loadAt 111 p = ldA 111 p := rfl
@[go_sem ↓] theorem bks_s (p v : Value) : Instr.storeAt 111 p v = stA 111 p v := rfl
@[go_sem] theorem bks_ld (w : World) (b o : Nat) : (ldA 111 (.pointer (some ⟨b, o, none⟩))).run Tryz.prog w = ldR Tryz.prog 111 240 w b o (row w b) := ld_rule _ _ _ bks_u 240 bks_i w b o
@[go_sem] theorem bks_st (w : World) (b o : Nat) (c : Array Value) : (stA 111 (.pointer (some ⟨b, o, none⟩)) (.agg c)).run Tryz.prog w = stR Tryz.prog 111 240 w b o (.agg c) (row w b) := st_rule _ 240 bks_i w b o c
theorem bks_z : (Tryz.prog.info? 111).map (·.zero) = some (some (.agg (ba 240 fun _ => 0#8))) := by unfold ba; kernel_rfl
@[go_sem ↓] theorem bks_zero (w : World) : (zeroValue 111).run Tryz.prog w = .ok (.agg (ba 240 fun _ => 0#8)) w := zero_rule _ _ bks_z w
@[go_sem] theorem wrd_ix (f : Nat → BitVec 8) (k : Nat) (h : k < 4) (w : World) : (Instr.index 127 (.agg (ba 4 f)) (.int .i64 (k : Int))).run Tryz.prog w = .ok (.int .u8 (I (f k))) w := by
  simp [Instr.index, part, go_sem, h]
@[go_sem] theorem key_ix (f : Nat → BitVec 8) (k : Nat) (h : k < 32) (w : World) : (Instr.index 32 (.agg (ba 32 f)) (.int .i64 (k : Int))).run Tryz.prog w = .ok (.int .u8 (I (f k))) w := by
  simp [Instr.index, part, go_sem, h]
@[go_sem] theorem wds_ix (f : Nat → BitVec 8) (k : Nat) (h : k < 60) (w : World) : (Instr.index 128 (.agg (ba 240 f)) (.int .i64 (k : Int))).run Tryz.prog w = .ok (.agg (ba 4 (offF f (k * 4)))) w := by
  have h1 : ¬ 60 ≤ k := by omega
  have h2 := ba_ex 240 (k * 4) (k * 4 + 4) f (by omega)
  simp [Instr.index, part, go_sem, h1, h2]
@[go_sem] theorem bks_ix (f : Nat → BitVec 8) (k : Nat) (h : k < 15) (w : World) : (Instr.index 111 (.agg (ba 240 f)) (.int .i64 (k : Int))).run Tryz.prog w = .ok (.agg (ba 16 (offF f (k * 16)))) w := by
  have h1 : ¬ 15 ≤ k := by omega
  have h2 := ba_ex 240 (k * 16) (k * 16 + 16) f (by omega)
  simp [Instr.index, part, go_sem, h1, h2]
@[go_sem] theorem bks_gd (op : BinOp) (x y : Operand) (xs ys : Array Value) (w : World) : (eqGuard op 111 x y (.agg xs) (.agg ys)).run Tryz.prog w = .ok () w := run_eqGuard_agg w op _ x y xs ys (by kernel_rfl)
@[go_sem] theorem bks_eq (d : Nat) (f g : Nat → BitVec 8) (w : World) : (Op.equalIn (d + 3) 111 (.agg (ba 240 f)) (.agg (ba 240 g))).run Tryz.prog w = .ok (eqB 240 f g) w := eq_blocks _ 15 16 240 d _ _ .u8 rfl bks_u blk_u blk_i u8_u u8_i f g w
end Go.Proofs.YtamemjldafoolaaGreat.Oct

/-! ## TyNo -/
/- The type api.Nonce: loads and stores of whole ones, and slices of blocks and nonces, as rules of the walk. -/
namespace Go.Proofs.YtamemjldafoolaaGreat.Oct
open Go.RowKit
/- 78 -/
theorem non_u : Tryz.prog.underlying 78 = some (.array 12 5) := by kernel_rfl
theorem non_i : (Tryz.prog.info? 78).map (·.size) = some 12 := by kernel_rfl
@[go_sem ↓] theorem non_l (p : Value) : Instr.loadAt 78 p = ldA 78 p := rfl
@[go_sem ↓] theorem non_s (p v : Value) : Instr.storeAt 78 p v = stA 78 p v := rfl
@[go_sem] theorem non_ld (w : World) (b o : Nat) : (ldA 78 (.pointer (some ⟨b, o, none⟩))).run Tryz.prog w = ldR Tryz.prog 78 12 w b o (row w b) := ld_rule _ _ _ non_u 12 non_i w b o
@[go_sem] theorem non_st (w : World) (b o : Nat) (c : Array Value) : (stA 78 (.pointer (some ⟨b, o, none⟩)) (.agg c)).run Tryz.prog w = stR Tryz.prog 78 12 w b o (.agg c) (row w b) := st_rule _ 12 non_i w b o c
theorem non_z : (Tryz.prog.info? 78).map (·.zero) = some (some (.agg (ba 12 fun _ => 0#8))) := by unfold ba; kernel_rfl
@[go_sem ↓] theorem non_zero (w : World) : (zeroValue 78).run Tryz.prog w = .ok (.agg (ba 12 fun _ => 0#8)) w := zero_rule _ _ non_z w
/- slices of a block -/
theorem blk_len : Tryz.prog.arrayLen 100 = 16 := by kernel_rfl
theorem blk_elem : Tryz.prog.elem 100 = 5 := by kernel_rfl
theorem blk_sl_h (B m : Nat) (hm : m ≤ 16) (w : World) : (Instr.sliceAt 100 (.pointer (some ⟨B, 0, none⟩)) none (some (.int .i64 (m : Int))) none).run Tryz.prog w = .ok (.slice (some ⟨B, 0, none⟩) m 16) w := by
  rw [run_sliceAt_array_h w 100 ⟨B, 0, none⟩ (by kernel_rfl) .i64 _ (by omega) (by rw [blk_len]; omega), blk_elem, u8_size, blk_len, Result.andThen_ok]
  unfold slicedAt
  rw [if_neg (by omega), Int.toNat_natCast]
  rfl
theorem blk_sl_l (B m : Nat) (hm : m < 16) (w : World) : (Instr.sliceAt 100 (.pointer (some ⟨B, 0, none⟩)) (some (.int .i64 (m : Int))) none none).run Tryz.prog w = .ok (.slice (some ⟨B, m, none⟩) (16 - m) (16 - m)) w := by
  rw [run_sliceAt_array_l w 100 ⟨B, 0, none⟩ (by kernel_rfl) .i64 _ (by omega) (by rw [blk_len]; omega), blk_elem, u8_size, blk_len, Result.andThen_ok]
  unfold slicedAt
  rw [if_neg (by omega), Int.toNat_natCast, add_mid]
  simp
end Go.Proofs.YtamemjldafoolaaGreat.Oct
