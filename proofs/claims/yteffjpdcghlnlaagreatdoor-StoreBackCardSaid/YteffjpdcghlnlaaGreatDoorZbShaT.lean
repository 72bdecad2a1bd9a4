import Derived.Test.YteffjpdcghlnlaaGreatDoorZbLib
import Derived.Test.YteffjpdcghlnlaaGreatDoorZbShaR
import Derived.StillTailTactics
set_option linter.unusedVariables false
set_option linter.unusedSimpArgs false
namespace Go.Proofs.YteffjpdcghlnlaaGreatDoor.Oct
open Go.RowKit
open Go.ChangeShapes Go.WideShapes Go.ChangeAt
def kV : Nat → Value := fun i => .int .u32 (M (kF i))
@[irreducible] def tbA (v : Value) (H : Wf) : Array Value := #[v] ++ wa 8 H
@[go_sem ↓] theorem tab_l (p : Value) : Instr.loadAt 138 p = ldA 138 p := rfl
@[go_sem ↓] theorem tab_s (p v : Value) : Instr.storeAt 138 p v = stA 138 p v := rfl
end Go.Proofs.YteffjpdcghlnlaaGreatDoor.Oct
