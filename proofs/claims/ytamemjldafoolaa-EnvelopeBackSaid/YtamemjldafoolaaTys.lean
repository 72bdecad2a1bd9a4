import Derived.Test.YtamemjldafoolaaRows
import Derived.Test.YtamemjldafoolaaTySl
import Derived.Test.YtamemjldafoolaaLib

/-! ## TyK -/
/- The type api.Block: loads and stores of whole blocks, their bytes, comparisons, as rules of the walk. -/
namespace Go.Proofs.Ytamemjldafoolaa.Oct
open Go.RowKit
/- 71 -/
theorem blk_u : Try.prog.underlying 71 = some (.array 16 5) := by kernel_rfl
theorem blk_i : (Try.prog.info? 71).map (·.size) = some 16 := by kernel_rfl
@[go_sem ↓] theorem blk_l (p : Value) : Instr.loadAt 71 p = ldA 71 p := rfl
@[go_sem ↓] theorem blk_s (p v : Value) : Instr.storeAt 71 p v = stA 71 p v := rfl
@[go_sem] theorem blk_ld (w : World) (b o : Nat) : (ldA 71 (.pointer (some ⟨b, o, none⟩))).run Try.prog w = ldR Try.prog 71 16 w b o (row w b) := ld_rule _ _ _ blk_u 16 blk_i w b o
@[go_sem] theorem blk_st (w : World) (b o : Nat) (c : Array Value) : (stA 71 (.pointer (some ⟨b, o, none⟩)) (.agg c)).run Try.prog w = stR Try.prog 71 16 w b o (.agg c) (row w b) := st_rule _ 16 blk_i w b o c
theorem blk_z : (Try.prog.info? 71).map (·.zero) = some (some (.agg (ba 16 fun _ => 0#8))) := by unfold ba; kernel_rfl
@[go_sem ↓] theorem blk_zero (w : World) : (zeroValue 71).run Try.prog w = .ok (.agg (ba 16 fun _ => 0#8)) w := zero_rule _ _ blk_z w
@[go_sem] theorem blk_ix (f : Nat → BitVec 8) (k : Nat) (h : k < 16) (w : World) : (Instr.index 71 (.agg (ba 16 f)) (.int .i64 (k : Int))).run Try.prog w = .ok (.int .u8 (I (f k))) w := by
  simp [Instr.index, part, go_sem, h]
/- comparisons -/
@[go_sem] theorem blk_gd (op : BinOp) (x y : Operand) (xs ys : Array Value) (w : World) : (eqGuard op 71 x y (.agg xs) (.agg ys)).run Try.prog w = .ok () w := run_eqGuard_agg w op _ x y xs ys (by kernel_rfl)
@[go_sem] theorem blk_eq (d : Nat) (f g : Nat → BitVec 8) (w : World) : (Op.equalIn (d + 2) 71 (.agg (ba 16 f)) (.agg (ba 16 g))).run Try.prog w = .ok (eqB 16 f g) w := eq_bytes _ 16 d _ .u8 blk_u u8_u u8_i f g w
end Go.Proofs.Ytamemjldafoolaa.Oct

/-! ## TyBox -/
/- The type [256]uint8: loads and stores of whole arrays, as rules of the walk. -/
namespace Go.Proofs.Ytamemjldafoolaa.Oct
open Go.RowKit
end Go.Proofs.Ytamemjldafoolaa.Oct

/-! ## Ty -/
/- The program's other arrays of bytes (aes): loads and stores of whole ones, and of their parts, as rules of the walk. -/
namespace Go.Proofs.Ytamemjldafoolaa.Oct
open Go.RowKit
/- 112 -/
theorem wrd_u : Try.prog.underlying 112 = some (.array 4 5) := by kernel_rfl
theorem wrd_i : (Try.prog.info? 112).map (·.size) = some 4 := by kernel_rfl
@[go_sem ↓] theorem wrd_l (p : Value) : Instr.loadAt 112 p = ldA 112 p := rfl
@[go_sem ↓] theorem wrd_s (p v : Value) : Instr.storeAt 112 p v = stA 112 p v := rfl
@[go_sem] theorem wrd_ld (w : World) (b o : Nat) : (ldA 112 (.pointer (some ⟨b, o, none⟩))).run Try.prog w = ldR Try.prog 112 4 w b o (row w b) := ld_rule _ _ _ wrd_u 4 wrd_i w b o
@[go_sem] theorem wrd_st (w : World) (b o : Nat) (c : Array Value) : (stA 112 (.pointer (some ⟨b, o, none⟩)) (.agg c)).run Try.prog w = stR Try.prog 112 4 w b o (.agg c) (row w b) := st_rule _ 4 wrd_i w b o c
theorem wrd_z : (Try.prog.info? 112).map (·.zero) = some (some (.agg (ba 4 fun _ => 0#8))) := by unfold ba; kernel_rfl
@[go_sem ↓] theorem wrd_zero (w : World) : (zeroValue 112).run Try.prog w = .ok (.agg (ba 4 fun _ => 0#8)) w := zero_rule _ _ wrd_z w
/- 39 -/
theorem key_u : Try.prog.underlying 39 = some (.array 32 5) := by kernel_rfl
theorem key_i : (Try.prog.info? 39).map (·.size) = some 32 := by kernel_rfl
@[go_sem ↓] theorem key_l (p : Value) : Instr.loadAt 39 p = ldA 39 p := rfl
@[go_sem ↓] theorem key_s (p v : Value) : Instr.storeAt 39 p v = stA 39 p v := rfl
@[go_sem] theorem key_ld (w : World) (b o : Nat) : (ldA 39 (.pointer (some ⟨b, o, none⟩))).run Try.prog w = ldR Try.prog 39 32 w b o (row w b) := ld_rule _ _ _ key_u 32 key_i w b o
@[go_sem] theorem key_st (w : World) (b o : Nat) (c : Array Value) : (stA 39 (.pointer (some ⟨b, o, none⟩)) (.agg c)).run Try.prog w = stR Try.prog 39 32 w b o (.agg c) (row w b) := st_rule _ 32 key_i w b o c
theorem key_z : (Try.prog.info? 39).map (·.zero) = some (some (.agg (ba 32 fun _ => 0#8))) := by unfold ba; kernel_rfl
@[go_sem ↓] theorem key_zero (w : World) : (zeroValue 39).run Try.prog w = .ok (.agg (ba 32 fun _ => 0#8)) w := zero_rule _ _ key_z w
/- 113 -/
theorem wds_u : Try.prog.underlying 113 = some (.array 60 112) := by kernel_rfl
theorem wds_i : (Try.prog.info? 113).map (·.size) = some 240 := by kernel_rfl
@[go_sem ↓] theorem wds_l (p : Value) : Instr.loadAt 113 p = ldA 113 p := rfl
@[go_sem ↓] theorem wds_s (p v : Value) : Instr.storeAt 113 p v = stA 113 p v := rfl
@[go_sem] theorem wds_ld (w : World) (b o : Nat) : (ldA 113 (.pointer (some ⟨b, o, none⟩))).run Try.prog w = ldR Try.prog 113 240 w b o (row w b) := ld_rule _ _ _ wds_u 240 wds_i w b o
@[go_sem] theorem wds_st (w : World) (b o : Nat) (c : Array Value) : (stA 113 (.pointer (some ⟨b, o, none⟩)) (.agg c)).run Try.prog w = stR Try.prog 113 240 w b o (.agg c) (row w b) := st_rule _ 240 wds_i w b o c
theorem wds_z : (Try.prog.info? 113).map (·.zero) = some (some (.agg (ba 240 fun _ => 0#8))) := by unfold ba; kernel_rfl
@[go_sem ↓] theorem wds_zero (w : World) : (zeroValue 113).run Try.prog w = .ok (.agg (ba 240 fun _ => 0#8)) w := zero_rule _ _ wds_z w
/- 103 -/
theorem bks_u : Try.prog.underlying 103 = some (.array 15 71) := by kernel_rfl
theorem bks_i : (Try.prog.info? 103).map (·.size) = some 240 := by kernel_rfl
@[go_sem ↓] theorem bks_l (p : Value) : Instr.loadAt 103 p = ldA 103 p := rfl
@[go_sem ↓] theorem bks_s (p v : Value) : Instr.storeAt 103 p v = stA 103 p v := rfl
@[go_sem] theorem bks_ld (w : World) (b o : Nat) : (ldA 103 (.pointer (some ⟨b, o, none⟩))).run Try.prog w = ldR Try.prog 103 240 w b o (row w b) := ld_rule _ _ _ bks_u 240 bks_i w b o
@[go_sem] theorem bks_st (w : World) (b o : Nat) (c : Array Value) : (stA 103 (.pointer (some ⟨b, o, none⟩)) (.agg c)).run Try.prog w = stR Try.prog 103 240 w b o (.agg c) (row w b) := st_rule _ 240 bks_i w b o c
theorem bks_z : (Try.prog.info? 103).map (·.zero) = some (some (.agg (ba 240 fun _ => 0#8))) := by unfold ba; kernel_rfl
@[go_sem ↓] theorem bks_zero (w : World) : (zeroValue 103).run Try.prog w = .ok (.agg (ba 240 fun _ => 0#8)) w := zero_rule _ _ bks_z w
@[go_sem] theorem wrd_ix (f : Nat → BitVec 8) (k : Nat) (h : k < 4) (w : World) : (Instr.index 112 (.agg (ba 4 f)) (.int .i64 (k : Int))).run Try.prog w = .ok (.int .u8 (I (f k))) w := by
  simp [Instr.index, part, go_sem, h]
@[go_sem] theorem key_ix (f : Nat → BitVec 8) (k : Nat) (h : k < 32) (w : World) : (Instr.index 39 (.agg (ba 32 f)) (.int .i64 (k : Int))).run Try.prog w = .ok (.int .u8 (I (f k))) w := by
  simp [Instr.index, part, go_sem, h]
@[go_sem] theorem wds_ix (f : Nat → BitVec 8) (k : Nat) (h : k < 60) (w : World) : (Instr.index 113 (.agg (ba 240 f)) (.int .i64 (k : Int))).run Try.prog w = .ok (.agg (ba 4 (offF f (k * 4)))) w := by
  have h1 : ¬ 60 ≤ k := by omega
  have h2 := ba_ex 240 (k * 4) (k * 4 + 4) f (by omega)
  simp [Instr.index, part, go_sem, h1, h2]
@[go_sem] theorem bks_ix (f : Nat → BitVec 8) (k : Nat) (h : k < 15) (w : World) : (Instr.index 103 (.agg (ba 240 f)) (.int .i64 (k : Int))).run Try.prog w = .ok (.agg (ba 16 (offF f (k * 16)))) w := by
  have h1 : ¬ 15 ≤ k := by omega
  have h2 := ba_ex 240 (k * 16) (k * 16 + 16) f (by omega)
  simp [Instr.index, part, go_sem, h1, h2]
@[go_sem] theorem bks_gd (op : BinOp) (x y : Operand) (xs ys : Array Value) (w : World) : (eqGuard op 103 x y (.agg xs) (.agg ys)).run Try.prog w = .ok () w := run_eqGuard_agg w op _ x y xs ys (by kernel_rfl)
@[go_sem] theorem bks_eq (d : Nat) (f g : Nat → BitVec 8) (w : World) : (Op.equalIn (d + 3) 103 (.agg (ba 240 f)) (.agg (ba 240 g))).run Try.prog w = .ok (eqB 240 f g) w := eq_blocks _ 15 16 240 d _ _ .u8 rfl bks_u blk_u blk_i u8_u u8_i f g w
end Go.Proofs.Ytamemjldafoolaa.Oct

/-! ## TyNo -/
/- The type api.Nonce: loads and stores of whole ones, and slices of blocks and nonces, as rules of the walk. -/
namespace Go.Proofs.Ytamemjldafoolaa.Oct
open Go.RowKit
/- 24 -/
theorem non_u : Try.prog.underlying 24 = some (.array 12 5) := by kernel_rfl
theorem non_i : (Try.prog.info? 24).map (·.size) = some 12 := by kernel_rfl
@[go_sem ↓] theorem non_l (p : Value) : Instr.loadAt 24 p = ldA 24 p := rfl
@[go_sem ↓] theorem non_s (p v : Value) : Instr.storeAt 24 p v = stA 24 p v := rfl
@[go_sem] theorem non_ld (w : World) (b o : Nat) : (ldA 24 (.pointer (some ⟨b, o, none⟩))).run Try.prog w = ldR Try.prog 24 12 w b o (row w b) := ld_rule _ _ _ non_u 12 non_i w b o
@[go_sem] theorem non_st (w : World) (b o : Nat) (c : Array Value) : (stA 24 (.pointer (some ⟨b, o, none⟩)) (.agg c)).run Try.prog w = stR Try.prog 24 12 w b o (.agg c) (row w b) := st_rule _ 12 non_i w b o c
theorem non_z : (Try.prog.info? 24).map (·.zero) = some (some (.agg (ba 12 fun _ => 0#8))) := by unfold ba; kernel_rfl
@[go_sem ↓] theorem non_zero (w : World) : (zeroValue 24).run Try.prog w = .ok (.agg (ba 12 fun _ => 0#8)) w := zero_rule _ _ non_z w
/- slices of a block -/
theorem blk_len : Try.prog.arrayLen 71 = 16 := by kernel_rfl
theorem blk_elem : Try.prog.elem 71 = 5 := by kernel_rfl
theorem blk_sl_h (B m : Nat) (hm : m ≤ 16) (w : World) : (Instr.sliceAt 71 (.pointer (some ⟨B, 0, none⟩)) none (some (.int .i64 (m : Int))) none).run Try.prog w = .ok (.slice (some ⟨B, 0, none⟩) m 16) w := by
  rw [run_sliceAt_array_h w 71 ⟨B, 0, none⟩ (by kernel_rfl) .i64 _ (by omega) (by rw [blk_len]; omega), blk_elem, u8_size, blk_len, Result.andThen_ok]
  unfold slicedAt
  rw [if_neg (by omega), Int.toNat_natCast]
  rfl
theorem blk_sl_l (B m : Nat) (hm : m < 16) (w : World) : (Instr.sliceAt 71 (.pointer (some ⟨B, 0, none⟩)) (some (.int .i64 (m : Int))) none none).run Try.prog w = .ok (.slice (some ⟨B, m, none⟩) (16 - m) (16 - m)) w := by
  rw [run_sliceAt_array_l w 71 ⟨B, 0, none⟩ (by kernel_rfl) .i64 _ (by omega) (by rw [blk_len]; omega), blk_elem, u8_size, blk_len, Result.andThen_ok]
  unfold slicedAt
  rw [if_neg (by omega), Int.toNat_natCast, add_mid]
  simp
end Go.Proofs.Ytamemjldafoolaa.Oct
