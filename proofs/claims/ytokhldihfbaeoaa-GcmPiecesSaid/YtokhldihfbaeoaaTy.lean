/- The program's other arrays of bytes (aes): loads and stores of whole ones, and of their parts, as rules of the walk. -/
import Derived.Test.YtokhldihfbaeoaaTyK
import Derived.Test.YtokhldihfbaeoaaTyBox
namespace Go.Proofs.Ytokhldihfbaeoaa.Oct
open Go.RowKit
/- 70 -/
theorem wrd_u : Try.prog.underlying 70 = some (.array 4 5) := by kernel_rfl
theorem wrd_i : (Try.prog.info? 70).map (·.size) = some 4 := by kernel_rfl
@[go_sem ↓] theorem wrd_l (p : Value) : Instr.loadAt 70 p = ldA 70 p := rfl
@[go_sem ↓] theorem wrd_s (p v : Value) : Instr.storeAt 70 p v = stA 70 p v := rfl
@[go_sem] theorem wrd_ld (w : World) (b o : Nat) : (ldA 70 (.pointer (some ⟨b, o, none⟩))).run Try.prog w = ldR Try.prog 70 4 w b o (row w b) := ld_rule _ _ _ wrd_u 4 wrd_i w b o
@[go_sem] theorem wrd_st (w : World) (b o : Nat) (c : Array Value) : (stA 70 (.pointer (some ⟨b, o, none⟩)) (.agg c)).run Try.prog w = stR Try.prog 70 4 w b o (.agg c) (row w b) := st_rule _ 4 wrd_i w b o c
theorem wrd_z : (Try.prog.info? 70).map (·.zero) = some (some (.agg (ba 4 fun _ => 0#8))) := by unfold ba; kernel_rfl
@[go_sem ↓] theorem wrd_zero (w : World) : (zeroValue 70).run Try.prog w = .ok (.agg (ba 4 fun _ => 0#8)) w := zero_rule _ _ wrd_z w
/- 23 -/
theorem key_u : Try.prog.underlying 23 = some (.array 32 5) := by kernel_rfl
theorem key_i : (Try.prog.info? 23).map (·.size) = some 32 := by kernel_rfl
@[go_sem ↓] theorem key_l (p : Value) : Instr.loadAt 23 p = ldA 23 p := rfl
@[go_sem ↓] theorem key_s (p v : Value) : Instr.storeAt 23 p v = stA 23 p v := rfl
@[go_sem] theorem key_ld (w : World) (b o : Nat) : (ldA 23 (.pointer (some ⟨b, o, none⟩))).run Try.prog w = ldR Try.prog 23 32 w b o (row w b) := ld_rule _ _ _ key_u 32 key_i w b o
@[go_sem] theorem key_st (w : World) (b o : Nat) (c : Array Value) : (stA 23 (.pointer (some ⟨b, o, none⟩)) (.agg c)).run Try.prog w = stR Try.prog 23 32 w b o (.agg c) (row w b) := st_rule _ 32 key_i w b o c
theorem key_z : (Try.prog.info? 23).map (·.zero) = some (some (.agg (ba 32 fun _ => 0#8))) := by unfold ba; kernel_rfl
@[go_sem ↓] theorem key_zero (w : World) : (zeroValue 23).run Try.prog w = .ok (.agg (ba 32 fun _ => 0#8)) w := zero_rule _ _ key_z w
/- 71 -/
theorem wds_u : Try.prog.underlying 71 = some (.array 60 70) := by kernel_rfl
theorem wds_i : (Try.prog.info? 71).map (·.size) = some 240 := by kernel_rfl
@[go_sem ↓] theorem wds_l (p : Value) : Instr.loadAt 71 p = ldA 71 p := rfl
@[go_sem ↓] theorem wds_s (p v : Value) : Instr.storeAt 71 p v = stA 71 p v := rfl
@[go_sem] theorem wds_ld (w : World) (b o : Nat) : (ldA 71 (.pointer (some ⟨b, o, none⟩))).run Try.prog w = ldR Try.prog 71 240 w b o (row w b) := ld_rule _ _ _ wds_u 240 wds_i w b o
@[go_sem] theorem wds_st (w : World) (b o : Nat) (c : Array Value) : (stA 71 (.pointer (some ⟨b, o, none⟩)) (.agg c)).run Try.prog w = stR Try.prog 71 240 w b o (.agg c) (row w b) := st_rule _ 240 wds_i w b o c
theorem wds_z : (Try.prog.info? 71).map (·.zero) = some (some (.agg (ba 240 fun _ => 0#8))) := by unfold ba; kernel_rfl
@[go_sem ↓] theorem wds_zero (w : World) : (zeroValue 71).run Try.prog w = .ok (.agg (ba 240 fun _ => 0#8)) w := zero_rule _ _ wds_z w
/- 51 -/
theorem bks_u : Try.prog.underlying 51 = some (.array 15 35) := by kernel_rfl
theorem bks_i : (Try.prog.info? 51).map (·.size) = some 240 := by kernel_rfl
@[go_sem ↓] theorem bks_l (p : Value) : Instr.loadAt 51 p = ldA 51 p := rfl
@[go_sem ↓] theorem bks_s (p v : Value) : Instr.storeAt 51 p v = stA 51 p v := rfl
@[go_sem] theorem bks_ld (w : World) (b o : Nat) : (ldA 51 (.pointer (some ⟨b, o, none⟩))).run Try.prog w = ldR Try.prog 51 240 w b o (row w b) := ld_rule _ _ _ bks_u 240 bks_i w b o
@[go_sem] theorem bks_st (w : World) (b o : Nat) (c : Array Value) : (stA 51 (.pointer (some ⟨b, o, none⟩)) (.agg c)).run Try.prog w = stR Try.prog 51 240 w b o (.agg c) (row w b) := st_rule _ 240 bks_i w b o c
theorem bks_z : (Try.prog.info? 51).map (·.zero) = some (some (.agg (ba 240 fun _ => 0#8))) := by unfold ba; kernel_rfl
@[go_sem ↓] theorem bks_zero (w : World) : (zeroValue 51).run Try.prog w = .ok (.agg (ba 240 fun _ => 0#8)) w := zero_rule _ _ bks_z w
@[go_sem] theorem wrd_ix (f : Nat → BitVec 8) (k : Nat) (h : k < 4) (w : World) : (Instr.index 70 (.agg (ba 4 f)) (.int .i64 (k : Int))).run Try.prog w = .ok (.int .u8 (I (f k))) w := by
  simp [Instr.index, part, go_sem, h]
@[go_sem] theorem key_ix (f : Nat → BitVec 8) (k : Nat) (h : k < 32) (w : World) : (Instr.index 23 (.agg (ba 32 f)) (.int .i64 (k : Int))).run Try.prog w = .ok (.int .u8 (I (f k))) w := by
  simp [Instr.index, part, go_sem, h]
@[go_sem] theorem wds_ix (f : Nat → BitVec 8) (k : Nat) (h : k < 60) (w : World) : (Instr.index 71 (.agg (ba 240 f)) (.int .i64 (k : Int))).run Try.prog w = .ok (.agg (ba 4 (offF f (k * 4)))) w := by
  have h1 : ¬ 60 ≤ k := by omega
  have h2 := ba_ex 240 (k * 4) (k * 4 + 4) f (by omega)
  simp [Instr.index, part, go_sem, h1, h2]
@[go_sem] theorem bks_ix (f : Nat → BitVec 8) (k : Nat) (h : k < 15) (w : World) : (Instr.index 51 (.agg (ba 240 f)) (.int .i64 (k : Int))).run Try.prog w = .ok (.agg (ba 16 (offF f (k * 16)))) w := by
  have h1 : ¬ 15 ≤ k := by omega
  have h2 := ba_ex 240 (k * 16) (k * 16 + 16) f (by omega)
  simp [Instr.index, part, go_sem, h1, h2]
@[go_sem] theorem bks_gd (op : BinOp) (x y : Operand) (xs ys : Array Value) (w : World) : (eqGuard op 51 x y (.agg xs) (.agg ys)).run Try.prog w = .ok () w := run_eqGuard_agg w op _ x y xs ys (by kernel_rfl)
@[go_sem] theorem bks_eq (d : Nat) (f g : Nat → BitVec 8) (w : World) : (Op.equalIn (d + 3) 51 (.agg (ba 240 f)) (.agg (ba 240 g))).run Try.prog w = .ok (eqB 240 f g) w := eq_blocks _ 15 16 240 d _ _ .u8 rfl bks_u blk_u blk_i u8_u u8_i f g w
end Go.Proofs.Ytokhldihfbaeoaa.Oct
