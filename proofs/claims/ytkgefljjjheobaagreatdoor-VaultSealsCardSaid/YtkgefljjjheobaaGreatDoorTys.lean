import Derived.Test.YtkgefljjjheobaaGreatDoorRows
import Derived.Test.YtkgefljjjheobaaGreatDoorTySl
import Derived.Test.YtkgefljjjheobaaGreatDoorLib

/-! ## TyK -/
/- The type api.Block: loads and stores of whole blocks, their bytes, comparisons, as rules of the walk. -/
namespace Go.Proofs.YtkgefljjjheobaaGreatDoor.Oct
open Go.RowKit
/- 48 -/
theorem blk_u : Tryz.prog.underlying 48 = some (.array 16 5) := by kernel_rfl
theorem blk_i : (Tryz.prog.info? 48).map (·.size) = some 16 := by kernel_rfl
@[go_sem ↓] theorem blk_l (p : Value) : Instr.loadAt 48 p = ldA 48 p := rfl
@[go_sem ↓] theorem blk_s (p v : Value) : Instr.storeAt 48 p v = stA 48 p v := rfl
@[go_sem] theorem blk_ld (w : World) (b o : Nat) : (ldA 48 (.pointer (some ⟨b, o, none⟩))).run Tryz.prog w = ldR Tryz.prog 48 16 w b o (row w b) := ld_rule _ _ _ blk_u 16 blk_i w b o
@[go_sem] theorem blk_st (w : World) (b o : Nat) (c : Array Value) : (stA 48 (.pointer (some ⟨b, o, none⟩)) (.agg c)).run Tryz.prog w = stR Tryz.prog 48 16 w b o (.agg c) (row w b) := st_rule _ 16 blk_i w b o c
theorem blk_z : (Tryz.prog.info? 48).map (·.zero) = some (some (.agg (ba 16 fun _ => 0#8))) := by unfold ba; kernel_rfl
@[go_sem ↓] theorem blk_zero (w : World) : (zeroValue 48).run Tryz.prog w = .ok (.agg (ba 16 fun _ => 0#8)) w := zero_rule _ _ blk_z w
@[go_sem] theorem blk_ix (f : Nat → BitVec 8) (k : Nat) (h : k < 16) (w : World) : (Instr.index 48 (.agg (ba 16 f)) (.int .i64 (k : Int))).run Tryz.prog w = .ok (.int .u8 (I (f k))) w := by
  simp [Instr.index, part, go_sem, h]
/- comparisons -/
@[go_sem] theorem blk_gd (op : BinOp) (x y : Operand) (xs ys : Array Value) (w : World) : (eqGuard op 48 x y (.agg xs) (.agg ys)).run Tryz.prog w = .ok () w := run_eqGuard_agg w op _ x y xs ys (by kernel_rfl)
@[go_sem] theorem blk_eq (d : Nat) (f g : Nat → BitVec 8) (w : World) : (Op.equalIn (d + 2) 48 (.agg (ba 16 f)) (.agg (ba 16 g))).run Tryz.prog w = .ok (eqB 16 f g) w := eq_bytes _ 16 d _ .u8 blk_u u8_u u8_i f g w
end Go.Proofs.YtkgefljjjheobaaGreatDoor.Oct

/-! ## TyBox -/
/- The type [256]uint8: loads and stores of whole arrays, as rules of the walk. -/
namespace Go.Proofs.YtkgefljjjheobaaGreatDoor.Oct
open Go.RowKit
/- 67 -/
theorem box_u : Tryz.prog.underlying 67 = some (.array 256 5) := by kernel_rfl
theorem box_i : (Tryz.prog.info? 67).map (·.size) = some 256 := by kernel_rfl
@[go_sem ↓] theorem box_l (p : Value) : Instr.loadAt 67 p = ldA 67 p := rfl
@[go_sem ↓] theorem box_s (p v : Value) : Instr.storeAt 67 p v = stA 67 p v := rfl
@[go_sem] theorem box_ld (w : World) (b o : Nat) : (ldA 67 (.pointer (some ⟨b, o, none⟩))).run Tryz.prog w = ldR Tryz.prog 67 256 w b o (row w b) := ld_rule _ _ _ box_u 256 box_i w b o
@[go_sem] theorem box_st (w : World) (b o : Nat) (c : Array Value) : (stA 67 (.pointer (some ⟨b, o, none⟩)) (.agg c)).run Tryz.prog w = stR Tryz.prog 67 256 w b o (.agg c) (row w b) := st_rule _ 256 box_i w b o c
theorem box_z : (Tryz.prog.info? 67).map (·.zero) = some (some (.agg (ba 256 fun _ => 0#8))) := by unfold ba; kernel_rfl
@[go_sem ↓] theorem box_zero (w : World) : (zeroValue 67).run Tryz.prog w = .ok (.agg (ba 256 fun _ => 0#8)) w := zero_rule _ _ box_z w
end Go.Proofs.YtkgefljjjheobaaGreatDoor.Oct

/-! ## Ty -/
/- The program's other arrays of bytes (aes): loads and stores of whole ones, and of their parts, as rules of the walk. -/
namespace Go.Proofs.YtkgefljjjheobaaGreatDoor.Oct
open Go.RowKit
/- 90 -/
theorem wrd_u : Tryz.prog.underlying 90 = some (.array 4 5) := by kernel_rfl
theorem wrd_i : (Tryz.prog.info? 90).map (·.size) = some 4 := by kernel_rfl
@[go_sem ↓] theorem wrd_l (p : Value) : Instr.loadAt 90 p = ldA 90 p := rfl
@[go_sem ↓] theorem wrd_s (p v : Value) : Instr.storeAt 90 p v = stA 90 p v := rfl
@[go_sem] theorem wrd_ld (w : World) (b o : Nat) : (ldA 90 (.pointer (some ⟨b, o, none⟩))).run Tryz.prog w = ldR Tryz.prog 90 4 w b o (row w b) := ld_rule _ _ _ wrd_u 4 wrd_i w b o
@[go_sem] theorem wrd_st (w : World) (b o : Nat) (c : Array Value) : (stA 90 (.pointer (some ⟨b, o, none⟩)) (.agg c)).run Tryz.prog w = stR Tryz.prog 90 4 w b o (.agg c) (row w b) := st_rule _ 4 wrd_i w b o c
theorem wrd_z : (Tryz.prog.info? 90).map (·.zero) = some (some (.agg (ba 4 fun _ => 0#8))) := by unfold ba; kernel_rfl
@[go_sem ↓] theorem wrd_zero (w : World) : (zeroValue 90).run Tryz.prog w = .ok (.agg (ba 4 fun _ => 0#8)) w := zero_rule _ _ wrd_z w
/- 23 -/
theorem key_u : Tryz.prog.underlying 23 = some (.array 32 5) := by kernel_rfl
theorem key_i : (Tryz.prog.info? 23).map (·.size) = some 32 := by kernel_rfl
@[go_sem ↓] theorem key_l (p : Value) : Instr.loadAt 23 p = ldA 23 p := rfl
@[go_sem ↓] theorem key_s (p v : Value) : Instr.storeAt 23 p v = stA 23 p v := rfl
@[go_sem] theorem key_ld (w : World) (b o : Nat) : (ldA 23 (.pointer (some ⟨b, o, none⟩))).run Tryz.prog w = ldR Tryz.prog 23 32 w b o (row w b) := ld_rule _ _ _ key_u 32 key_i w b o
@[go_sem] theorem key_st (w : World) (b o : Nat) (c : Array Value) : (stA 23 (.pointer (some ⟨b, o, none⟩)) (.agg c)).run Tryz.prog w = stR Tryz.prog 23 32 w b o (.agg c) (row w b) := st_rule _ 32 key_i w b o c
theorem key_z : (Tryz.prog.info? 23).map (·.zero) = some (some (.agg (ba 32 fun _ => 0#8))) := by unfold ba; kernel_rfl
@[go_sem ↓] theorem key_zero (w : World) : (zeroValue 23).run Tryz.prog w = .ok (.agg (ba 32 fun _ => 0#8)) w := zero_rule _ _ key_z w
/- 91 -/
theorem wds_u : Tryz.prog.underlying 91 = some (.array 60 90) := by kernel_rfl
theorem wds_i : (Tryz.prog.info? 91).map (·.size) = some 240 := by kernel_rfl
@[go_sem ↓] theorem wds_l (p : Value) : Instr.loadAt 91 p = ldA 91 p := rfl
@[go_sem ↓] theorem wds_s (p v : Value) : Instr.storeAt 91 p v = stA 91 p v := rfl
@[go_sem] theorem wds_ld (w : World) (b o : Nat) : (ldA 91 (.pointer (some ⟨b, o, none⟩))).run Tryz.prog w = ldR Tryz.prog 91 240 w b o (row w b) := ld_rule _ _ _ wds_u 240 wds_i w b o
@[go_sem] theorem wds_st (w : World) (b o : Nat) (c : Array Value) : (stA 91 (.pointer (some ⟨b, o, none⟩)) (.agg c)).run Tryz.prog w = stR Tryz.prog 91 240 w b o (.agg c) (row w b) := st_rule _ 240 wds_i w b o c
theorem wds_z : (Tryz.prog.info? 91).map (·.zero) = some (some (.agg (ba 240 fun _ => 0#8))) := by unfold ba; kernel_rfl
@[go_sem ↓] theorem wds_zero (w : World) : (zeroValue 91).run Tryz.prog w = .ok (.agg (ba 240 fun _ => 0#8)) w := zero_rule _ _ wds_z w
/- 65 -/
theorem bks_u : Tryz.prog.underlying 65 = some (.array 15 48) := by kernel_rfl
theorem bks_i : (Tryz.prog.info? 65).map (·.size) = some 240 := by kernel_rfl
@[go_sem ↓] theorem bks_l (p : Value) : Instr.loadAt 65 p = ldA 65 p := rfl
@[go_sem ↓] theorem bks_s (p v : Value) : Instr.storeAt 65 p v = stA 65 p v := rfl
@[go_sem] theorem bks_ld (w : World) (b o : Nat) : (ldA 65 (.pointer (some ⟨b, o, none⟩))).run Tryz.prog w = ldR Tryz.prog 65 240 w b o (row w b) := ld_rule _ _ _ bks_u 240 bks_i w b o
@[go_sem] theorem bks_st (w : World) (b o : Nat) (c : Array Value) : (stA 65 (.pointer (some ⟨b, o, none⟩)) (.agg c)).run Tryz.prog w = stR Tryz.prog 65 240 w b o (.agg c) (row w b) := st_rule _ 240 bks_i w b o c
theorem bks_z : (Tryz.prog.info? 65).map (·.zero) = some (some (.agg (ba 240 fun _ => 0#8))) := by unfold ba; kernel_rfl
@[go_sem ↓] theorem bks_zero (w : World) : (zeroValue 65).run Tryz.prog w = .ok (.agg (ba 240 fun _ => 0#8)) w := zero_rule _ _ bks_z w
@[go_sem] theorem wrd_ix (f : Nat → BitVec 8) (k : Nat) (h : k < 4) (w : World) : (Instr.index 90 (.agg (ba 4 f)) (.int .i64 (k : Int))).run Tryz.prog w = .ok (.int .u8 (I (f k))) w := by
  simp [Instr.index, part, go_sem, h]
@[go_sem] theorem key_ix (f : Nat → BitVec 8) (k : Nat) (h : k < 32) (w : World) : (Instr.index 23 (.agg (ba 32 f)) (.int .i64 (k : Int))).run Tryz.prog w = .ok (.int .u8 (I (f k))) w := by
  simp [Instr.index, part, go_sem, h]
@[go_sem] theorem wds_ix (f : Nat → BitVec 8) (k : Nat) (h : k < 60) (w : World) : (Instr.index 91 (.agg (ba 240 f)) (.int .i64 (k : Int))).run Tryz.prog w = .ok (.agg (ba 4 (offF f (k * 4)))) w := by
  have h1 : ¬ 60 ≤ k := by omega
  have h2 := ba_ex 240 (k * 4) (k * 4 + 4) f (by omega)
  simp [Instr.index, part, go_sem, h1, h2]
@[go_sem] theorem bks_ix (f : Nat → BitVec 8) (k : Nat) (h : k < 15) (w : World) : (Instr.index 65 (.agg (ba 240 f)) (.int .i64 (k : Int))).run Tryz.prog w = .ok (.agg (ba 16 (offF f (k * 16)))) w := by
  have h1 : ¬ 15 ≤ k := by omega
  have h2 := ba_ex 240 (k * 16) (k * 16 + 16) f (by omega)
  simp [Instr.index, part, go_sem, h1, h2]
@[go_sem] theorem bks_gd (op : BinOp) (x y : Operand) (xs ys : Array Value) (w : World) : (eqGuard op 65 x y (.agg xs) (.agg ys)).run Tryz.prog w = .ok () w := run_eqGuard_agg w op _ x y xs ys (by kernel_rfl)
@[go_sem] theorem bks_eq (d : Nat) (f g : Nat → BitVec 8) (w : World) : (Op.equalIn (d + 3) 65 (.agg (ba 240 f)) (.agg (ba 240 g))).run Tryz.prog w = .ok (eqB 240 f g) w := eq_blocks _ 15 16 240 d _ _ .u8 rfl bks_u blk_u blk_i u8_u u8_i f g w
end Go.Proofs.YtkgefljjjheobaaGreatDoor.Oct

/-! ## TyNo -/
/- The type api.Nonce: loads and stores of whole ones, and slices of blocks and nonces, as rules of the walk. -/
namespace Go.Proofs.YtkgefljjjheobaaGreatDoor.Oct
open Go.RowKit
/- 34 -/
theorem non_u : Tryz.prog.underlying 34 = some (.array 12 5) := by kernel_rfl
theorem non_i : (Tryz.prog.info? 34).map (·.size) = some 12 := by kernel_rfl
@[go_sem ↓] theorem non_l (p : Value) : Instr.loadAt 34 p = ldA 34 p := rfl
@[go_sem ↓] theorem non_s (p v : Value) : Instr.storeAt 34 p v = stA 34 p v := rfl
@[go_sem] theorem non_ld (w : World) (b o : Nat) : (ldA 34 (.pointer (some ⟨b, o, none⟩))).run Tryz.prog w = ldR Tryz.prog 34 12 w b o (row w b) := ld_rule _ _ _ non_u 12 non_i w b o
@[go_sem] theorem non_st (w : World) (b o : Nat) (c : Array Value) : (stA 34 (.pointer (some ⟨b, o, none⟩)) (.agg c)).run Tryz.prog w = stR Tryz.prog 34 12 w b o (.agg c) (row w b) := st_rule _ 12 non_i w b o c
theorem non_z : (Tryz.prog.info? 34).map (·.zero) = some (some (.agg (ba 12 fun _ => 0#8))) := by unfold ba; kernel_rfl
@[go_sem ↓] theorem non_zero (w : World) : (zeroValue 34).run Tryz.prog w = .ok (.agg (ba 12 fun _ => 0#8)) w := zero_rule _ _ non_z w
/- slices of a block -/
theorem blk_len : Tryz.prog.arrayLen 48 = 16 := by kernel_rfl
theorem blk_elem : Tryz.prog.elem 48 = 5 := by kernel_rfl
theorem blk_sl_h (B m : Nat) (hm : m ≤ 16) (w : World) : (Instr.sliceAt 48 (.pointer (some ⟨B, 0, none⟩)) none (some (.int .i64 (m : Int))) none).run Tryz.prog w = .ok (.slice (some ⟨B, 0, none⟩) m 16) w := by
  rw [run_sliceAt_array_h w 48 ⟨B, 0, none⟩ (by kernel_rfl) .i64 _ (by omega) (by rw [blk_len]; omega), blk_elem, u8_size, blk_len, Result.andThen_ok]
  unfold slicedAt
  rw [if_neg (by omega), Int.toNat_natCast]
  rfl
theorem blk_sl_l (B m : Nat) (hm : m < 16) (w : World) : (Instr.sliceAt 48 (.pointer (some ⟨B, 0, none⟩)) (some (.int .i64 (m : Int))) none none).run Tryz.prog w = .ok (.slice (some ⟨B, m, none⟩) (16 - m) (16 - m)) w := by
  rw [run_sliceAt_array_l w 48 ⟨B, 0, none⟩ (by kernel_rfl) .i64 _ (by omega) (by rw [blk_len]; omega), blk_elem, u8_size, blk_len, Result.andThen_ok]
  unfold slicedAt
  rw [if_neg (by omega), Int.toNat_natCast, add_mid]
  simp
end Go.Proofs.YtkgefljjjheobaaGreatDoor.Oct
