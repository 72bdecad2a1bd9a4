/- The type [256]uint8: loads and stores of whole arrays, as rules of the walk. -/
import Derived.Test.YtokhldihfbaeoaaRows
import Derived.Test.YtokhldihfbaeoaaEq
namespace Go.Proofs.Ytokhldihfbaeoaa.Oct
open Go.RowKit
/- 53 -/
theorem box_u : Try.prog.underlying 53 = some (.array 256 5) := by kernel_rfl
theorem box_i : (Try.prog.info? 53).map (·.size) = some 256 := by kernel_rfl
@[go_sem ↓] theorem box_l (p : Value) : Instr.loadAt 53 p = ldA 53 p := rfl
@[go_sem ↓] theorem box_s (p v : Value) : Instr.storeAt 53 p v = stA 53 p v := rfl
@[go_sem] theorem box_ld (w : World) (b o : Nat) : (ldA 53 (.pointer (some ⟨b, o, none⟩))).run Try.prog w = ldR Try.prog 53 256 w b o (row w b) := ld_rule _ _ _ box_u 256 box_i w b o
@[go_sem] theorem box_st (w : World) (b o : Nat) (c : Array Value) : (stA 53 (.pointer (some ⟨b, o, none⟩)) (.agg c)).run Try.prog w = stR Try.prog 53 256 w b o (.agg c) (row w b) := st_rule _ 256 box_i w b o c
theorem box_z : (Try.prog.info? 53).map (·.zero) = some (some (.agg (ba 256 fun _ => 0#8))) := by unfold ba; kernel_rfl
@[go_sem ↓] theorem box_zero (w : World) : (zeroValue 53).run Try.prog w = .ok (.agg (ba 256 fun _ => 0#8)) w := zero_rule _ _ box_z w
end Go.Proofs.Ytokhldihfbaeoaa.Oct
