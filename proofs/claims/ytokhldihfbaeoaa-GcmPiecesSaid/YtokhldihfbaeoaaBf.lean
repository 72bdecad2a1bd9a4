/- Arrays of bytes as functions of the index: what all layers share. No program is named here. -/
import Derived.Test.YtokhldihfbaeoaaBa
namespace Go.Proofs.Ytokhldihfbaeoaa.Oct

abbrev Bf := Nat → BitVec 8
def xorF (f g : Bf) : Bf := fun i => f i ^^^ g i
/-- noughts -/
def nF : Bf := fun _ => 0#8
end Go.Proofs.Ytokhldihfbaeoaa.Oct
