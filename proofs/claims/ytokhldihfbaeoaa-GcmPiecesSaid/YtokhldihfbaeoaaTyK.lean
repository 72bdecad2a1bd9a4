/- The type api.Block: loads and stores of whole blocks, their bytes, comparisons, as rules of the walk. -/
import Derived.Test.YtokhldihfbaeoaaRows
import Derived.Test.YtokhldihfbaeoaaEq
namespace Go.Proofs.Ytokhldihfbaeoaa.Oct
open Go.RowKit
/- 35 -/
theorem blk_u : Try.prog.underlying 35 = some (.array 16 5) := by kernel_rfl
theorem blk_i : (Try.prog.info? 35).map (·.size) = some 16 := by kernel_rfl
@[go_sem ↓] theorem blk_l (p : Value) : Instr.loadAt 35 p = ldA 35 p := rfl
@[go_sem ↓] theorem blk_s (p v : Value) : Instr.storeAt 35 p v = stA 35 p v := rfl
@[go_sem] theorem blk_ld (w : World) (b o : Nat) : (ldA 35 (.pointer (some ⟨b, o, none⟩))).run Try.prog w = ldR Try.prog 35 16 w b o (row w b) := ld_rule _ _ _ blk_u 16 blk_i w b o
@[go_sem] theorem blk_st (w : World) (b o : Nat) (c : Array Value) : (stA 35 (.pointer (some ⟨b, o, none⟩)) (.agg c)).run Try.prog w = stR Try.prog 35 16 w b o (.agg c) (row w b) := st_rule _ 16 blk_i w b o c
theorem blk_z : (Try.prog.info? 35).map (·.zero) = some (some (.agg (ba 16 fun _ => 0#8))) := by unfold ba; kernel_rfl
@[go_sem ↓] theorem blk_zero (w : World) : (zeroValue 35).run Try.prog w = .ok (.agg (ba 16 fun _ => 0#8)) w := zero_rule _ _ blk_z w
@[go_sem] theorem blk_ix (f : Nat → BitVec 8) (k : Nat) (h : k < 16) (w : World) : (Instr.index 35 (.agg (ba 16 f)) (.int .i64 (k : Int))).run Try.prog w = .ok (.int .u8 (I (f k))) w := by
  simp [Instr.index, part, go_sem, h]
/- comparisons -/
theorem u8_u : Try.prog.underlying 5 = some (.int .u8) := by kernel_rfl
theorem u8_i : (Try.prog.info? 5).map (·.size) = some 1 := by kernel_rfl
@[go_sem] theorem blk_gd (op : BinOp) (x y : Operand) (xs ys : Array Value) (w : World) : (eqGuard op 35 x y (.agg xs) (.agg ys)).run Try.prog w = .ok () w := run_eqGuard_agg w op _ x y xs ys (by kernel_rfl)
@[go_sem] theorem blk_eq (d : Nat) (f g : Nat → BitVec 8) (w : World) : (Op.equalIn (d + 2) 35 (.agg (ba 16 f)) (.agg (ba 16 g))).run Try.prog w = .ok (eqB 16 f g) w := eq_bytes _ 16 d _ .u8 blk_u u8_u u8_i f g w
end Go.Proofs.Ytokhldihfbaeoaa.Oct
