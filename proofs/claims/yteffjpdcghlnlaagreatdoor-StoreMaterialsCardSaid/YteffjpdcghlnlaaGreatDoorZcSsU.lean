import Derived.Test.YteffjpdcghlnlaaGreatDoorZcSsT
import Derived.Test.YteffjpdcghlnlaaGreatDoorZcMat
import Derived.Test.YteffjpdcghlnlaaGreatDoorZcLib
import Derived.Test.YteffjpdcghlnlaaGreatDoorZcWiAll
set_option linter.unusedVariables false
set_option linter.unusedSimpArgs false
namespace Go.Proofs.YteffjpdcghlnlaaGreatDoor.Oct
open Go.ChangeShapes Go.WideShapes Go.ChangeAt Go.RowKit Go.Maps
section
variable {α : Type} {k : Nat} {E : Mk → World → α → List Value → Prop} (hE : ElOk k E) {T T' T2 : Mk} {H : Nat → Prop} {w w' : World} {t : Nat} {A : Option Addr} {c : Nat} {l : List α}
include hE
end
section
variable {H : Type} {enc : TypeId × Value → H} {P : Program} {w : World} {base : Nat} {spare : Nat → Bool} {held : Bool}
end
section
variable {H : Type} {enc : TypeId × Value → H} {w : World} {base : Nat} {spare : Nat → Bool} {held : Bool}
structure OpS where
 k : Int
 id : Int
 q : Int
 c : Int
 n : Int
 m : Int
 A : Option Addr
 T : Nat
 e : Nat
 f : Bf
end
instance : Inhabited Se := ⟨.new 0⟩
instance : Inhabited OpS := ⟨⟨0, 0, 0, 0, 0, 0, none, 0, 0, nF⟩⟩
end Go.Proofs.YteffjpdcghlnlaaGreatDoor.Oct
