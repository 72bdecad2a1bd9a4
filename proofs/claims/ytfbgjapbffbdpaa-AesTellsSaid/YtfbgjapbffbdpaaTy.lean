/- The program's arrays of bytes: loads and stores of whole ones, and of their parts, as rules of the walk. -/
import Derived.Test.YtfbgjapbffbdpaaRows
import Derived.Test.YtfbgjapbffbdpaaEq
namespace Go.Proofs.Ytfbgjapbffbdpaa.Oct
open Go.RowKit
/- 26 -/
theorem blk_u : Try.prog.underlying 26 = some (.array 16 5) := by kernel_rfl
theorem blk_i : (Try.prog.info? 26).map (·.size) = some 16 := by kernel_rfl
@[go_sem ↓] theorem blk_l (p : Value) : Instr.loadAt 26 p = ldA 26 p := rfl
@[go_sem ↓] theorem blk_s (p v : Value) : Instr.storeAt 26 p v = stA 26 p v := rfl
@[go_sem] theorem blk_ld (w : World) (b o : Nat) : (ldA 26 (.pointer (some ⟨b, o, none⟩))).run Try.prog w = ldR Try.prog 26 16 w b o (row w b) := ld_rule _ _ _ blk_u 16 blk_i w b o
@[go_sem] theorem blk_st (w : World) (b o : Nat) (c : Array Value) : (stA 26 (.pointer (some ⟨b, o, none⟩)) (.agg c)).run Try.prog w = stR Try.prog 26 16 w b o (.agg c) (row w b) := st_rule _ 16 blk_i w b o c
theorem blk_z : (Try.prog.info? 26).map (·.zero) = some (some (.agg (ba 16 fun _ => 0#8))) := by unfold ba; kernel_rfl
@[go_sem ↓] theorem blk_zero (w : World) : (zeroValue 26).run Try.prog w = .ok (.agg (ba 16 fun _ => 0#8)) w := zero_rule _ _ blk_z w
/- 38 -/
theorem wrd_u : Try.prog.underlying 38 = some (.array 4 5) := by kernel_rfl
theorem wrd_i : (Try.prog.info? 38).map (·.size) = some 4 := by kernel_rfl
@[go_sem ↓] theorem wrd_l (p : Value) : Instr.loadAt 38 p = ldA 38 p := rfl
@[go_sem ↓] theorem wrd_s (p v : Value) : Instr.storeAt 38 p v = stA 38 p v := rfl
@[go_sem] theorem wrd_ld (w : World) (b o : Nat) : (ldA 38 (.pointer (some ⟨b, o, none⟩))).run Try.prog w = ldR Try.prog 38 4 w b o (row w b) := ld_rule _ _ _ wrd_u 4 wrd_i w b o
@[go_sem] theorem wrd_st (w : World) (b o : Nat) (c : Array Value) : (stA 38 (.pointer (some ⟨b, o, none⟩)) (.agg c)).run Try.prog w = stR Try.prog 38 4 w b o (.agg c) (row w b) := st_rule _ 4 wrd_i w b o c
theorem wrd_z : (Try.prog.info? 38).map (·.zero) = some (some (.agg (ba 4 fun _ => 0#8))) := by unfold ba; kernel_rfl
@[go_sem ↓] theorem wrd_zero (w : World) : (zeroValue 38).run Try.prog w = .ok (.agg (ba 4 fun _ => 0#8)) w := zero_rule _ _ wrd_z w
/- 23 -/
theorem key_u : Try.prog.underlying 23 = some (.array 32 5) := by kernel_rfl
theorem key_i : (Try.prog.info? 23).map (·.size) = some 32 := by kernel_rfl
@[go_sem ↓] theorem key_l (p : Value) : Instr.loadAt 23 p = ldA 23 p := rfl
@[go_sem ↓] theorem key_s (p v : Value) : Instr.storeAt 23 p v = stA 23 p v := rfl
@[go_sem] theorem key_ld (w : World) (b o : Nat) : (ldA 23 (.pointer (some ⟨b, o, none⟩))).run Try.prog w = ldR Try.prog 23 32 w b o (row w b) := ld_rule _ _ _ key_u 32 key_i w b o
@[go_sem] theorem key_st (w : World) (b o : Nat) (c : Array Value) : (stA 23 (.pointer (some ⟨b, o, none⟩)) (.agg c)).run Try.prog w = stR Try.prog 23 32 w b o (.agg c) (row w b) := st_rule _ 32 key_i w b o c
theorem key_z : (Try.prog.info? 23).map (·.zero) = some (some (.agg (ba 32 fun _ => 0#8))) := by unfold ba; kernel_rfl
@[go_sem ↓] theorem key_zero (w : World) : (zeroValue 23).run Try.prog w = .ok (.agg (ba 32 fun _ => 0#8)) w := zero_rule _ _ key_z w
/- 39 -/
theorem wds_u : Try.prog.underlying 39 = some (.array 60 38) := by kernel_rfl
theorem wds_i : (Try.prog.info? 39).map (·.size) = some 240 := by kernel_rfl
@[go_sem ↓] theorem wds_l (p : Value) : Instr.loadAt 39 p = ldA 39 p := rfl
@[go_sem ↓] theorem wds_s (p v : Value) : Instr.storeAt 39 p v = stA 39 p v := rfl
@[go_sem] theorem wds_ld (w : World) (b o : Nat) : (ldA 39 (.pointer (some ⟨b, o, none⟩))).run Try.prog w = ldR Try.prog 39 240 w b o (row w b) := ld_rule _ _ _ wds_u 240 wds_i w b o
@[go_sem] theorem wds_st (w : World) (b o : Nat) (c : Array Value) : (stA 39 (.pointer (some ⟨b, o, none⟩)) (.agg c)).run Try.prog w = stR Try.prog 39 240 w b o (.agg c) (row w b) := st_rule _ 240 wds_i w b o c
theorem wds_z : (Try.prog.info? 39).map (·.zero) = some (some (.agg (ba 240 fun _ => 0#8))) := by unfold ba; kernel_rfl
@[go_sem ↓] theorem wds_zero (w : World) : (zeroValue 39).run Try.prog w = .ok (.agg (ba 240 fun _ => 0#8)) w := zero_rule _ _ wds_z w
/- 27 -/
theorem bks_u : Try.prog.underlying 27 = some (.array 15 26) := by kernel_rfl
theorem bks_i : (Try.prog.info? 27).map (·.size) = some 240 := by kernel_rfl
@[go_sem ↓] theorem bks_l (p : Value) : Instr.loadAt 27 p = ldA 27 p := rfl
@[go_sem ↓] theorem bks_s (p v : Value) : Instr.storeAt 27 p v = stA 27 p v := rfl
@[go_sem] theorem bks_ld (w : World) (b o : Nat) : (ldA 27 (.pointer (some ⟨b, o, none⟩))).run Try.prog w = ldR Try.prog 27 240 w b o (row w b) := ld_rule _ _ _ bks_u 240 bks_i w b o
@[go_sem] theorem bks_st (w : World) (b o : Nat) (c : Array Value) : (stA 27 (.pointer (some ⟨b, o, none⟩)) (.agg c)).run Try.prog w = stR Try.prog 27 240 w b o (.agg c) (row w b) := st_rule _ 240 bks_i w b o c
theorem bks_z : (Try.prog.info? 27).map (·.zero) = some (some (.agg (ba 240 fun _ => 0#8))) := by unfold ba; kernel_rfl
@[go_sem ↓] theorem bks_zero (w : World) : (zeroValue 27).run Try.prog w = .ok (.agg (ba 240 fun _ => 0#8)) w := zero_rule _ _ bks_z w
/- 49 -/
theorem box_u : Try.prog.underlying 49 = some (.array 256 5) := by kernel_rfl
theorem box_i : (Try.prog.info? 49).map (·.size) = some 256 := by kernel_rfl
@[go_sem ↓] theorem box_l (p : Value) : Instr.loadAt 49 p = ldA 49 p := rfl
@[go_sem ↓] theorem box_s (p v : Value) : Instr.storeAt 49 p v = stA 49 p v := rfl
@[go_sem] theorem box_ld (w : World) (b o : Nat) : (ldA 49 (.pointer (some ⟨b, o, none⟩))).run Try.prog w = ldR Try.prog 49 256 w b o (row w b) := ld_rule _ _ _ box_u 256 box_i w b o
@[go_sem] theorem box_st (w : World) (b o : Nat) (c : Array Value) : (stA 49 (.pointer (some ⟨b, o, none⟩)) (.agg c)).run Try.prog w = stR Try.prog 49 256 w b o (.agg c) (row w b) := st_rule _ 256 box_i w b o c
theorem box_z : (Try.prog.info? 49).map (·.zero) = some (some (.agg (ba 256 fun _ => 0#8))) := by unfold ba; kernel_rfl
@[go_sem ↓] theorem box_zero (w : World) : (zeroValue 49).run Try.prog w = .ok (.agg (ba 256 fun _ => 0#8)) w := zero_rule _ _ box_z w
@[go_sem] theorem blk_ix (f : Nat → BitVec 8) (k : Nat) (h : k < 16) (w : World) : (Instr.index 26 (.agg (ba 16 f)) (.int .i64 (k : Int))).run Try.prog w = .ok (.int .u8 (I (f k))) w := by
  simp [Instr.index, part, go_sem, h]
@[go_sem] theorem wrd_ix (f : Nat → BitVec 8) (k : Nat) (h : k < 4) (w : World) : (Instr.index 38 (.agg (ba 4 f)) (.int .i64 (k : Int))).run Try.prog w = .ok (.int .u8 (I (f k))) w := by
  simp [Instr.index, part, go_sem, h]
@[go_sem] theorem key_ix (f : Nat → BitVec 8) (k : Nat) (h : k < 32) (w : World) : (Instr.index 23 (.agg (ba 32 f)) (.int .i64 (k : Int))).run Try.prog w = .ok (.int .u8 (I (f k))) w := by
  simp [Instr.index, part, go_sem, h]
@[go_sem] theorem wds_ix (f : Nat → BitVec 8) (k : Nat) (h : k < 60) (w : World) : (Instr.index 39 (.agg (ba 240 f)) (.int .i64 (k : Int))).run Try.prog w = .ok (.agg (ba 4 (offF f (k * 4)))) w := by
  have h1 : ¬ 60 ≤ k := by omega
  have h2 := ba_ex 240 (k * 4) (k * 4 + 4) f (by omega)
  simp [Instr.index, part, go_sem, h1, h2]
@[go_sem] theorem bks_ix (f : Nat → BitVec 8) (k : Nat) (h : k < 15) (w : World) : (Instr.index 27 (.agg (ba 240 f)) (.int .i64 (k : Int))).run Try.prog w = .ok (.agg (ba 16 (offF f (k * 16)))) w := by
  have h1 : ¬ 15 ≤ k := by omega
  have h2 := ba_ex 240 (k * 16) (k * 16 + 16) f (by omega)
  simp [Instr.index, part, go_sem, h1, h2]
/- comparisons -/
theorem u8_u : Try.prog.underlying 5 = some (.int .u8) := by kernel_rfl
theorem u8_i : (Try.prog.info? 5).map (·.size) = some 1 := by kernel_rfl
@[go_sem] theorem blk_gd (op : BinOp) (x y : Operand) (xs ys : Array Value) (w : World) : (eqGuard op 26 x y (.agg xs) (.agg ys)).run Try.prog w = .ok () w := run_eqGuard_agg w op _ x y xs ys (by kernel_rfl)
@[go_sem] theorem bks_gd (op : BinOp) (x y : Operand) (xs ys : Array Value) (w : World) : (eqGuard op 27 x y (.agg xs) (.agg ys)).run Try.prog w = .ok () w := run_eqGuard_agg w op _ x y xs ys (by kernel_rfl)
@[go_sem] theorem blk_eq (d : Nat) (f g : Nat → BitVec 8) (w : World) : (Op.equalIn (d + 2) 26 (.agg (ba 16 f)) (.agg (ba 16 g))).run Try.prog w = .ok (eqB 16 f g) w := eq_bytes _ 16 d _ .u8 blk_u u8_u u8_i f g w
@[go_sem] theorem bks_eq (d : Nat) (f g : Nat → BitVec 8) (w : World) : (Op.equalIn (d + 3) 27 (.agg (ba 240 f)) (.agg (ba 240 g))).run Try.prog w = .ok (eqB 240 f g) w := eq_blocks _ 15 16 240 d _ _ .u8 rfl bks_u blk_u blk_i u8_u u8_i f g w
end Go.Proofs.Ytfbgjapbffbdpaa.Oct
