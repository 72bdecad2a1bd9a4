import Derived.Test.YteffjpdcghlnlaaGreatDoorRows
import Derived.Test.YteffjpdcghlnlaaGreatDoorZcShaR
import Derived.LaidMore
import Derived.OpenShut
import Derived.Stop.Joined
set_option linter.unusedVariables false
set_option linter.unusedSimpArgs false
set_option maxRecDepth 20000
namespace Go.Proofs.YteffjpdcghlnlaaGreatDoor.Oct
open Go.ChangeShapes Go.WideShapes Go.ChangeAt Go.RowKit
def laidL : List (String × DataW Unit) := [("strongroom/sha.roundConstants", Rows.laid_strongroom_sha_roundConstants)]
theorem gTab : Tryz.prog.globalNamed "strongroom/sha.roundConstants" = some 0 := by kernel_rfl
theorem tTab : (Tryz.prog.globals[0]?).map (·.type) = some 357 := by kernel_rfl
theorem laid_list {H : Type} : (Rows.laid_strongroom_sha_roundConstants : DataW H) = .agg ((List.range 64).map fun i => .lit (.int .u32 (M (kF i)))) := by kernel_rfl
theorem tab_of {W : World} (h : laidMetH Tryz.prog laidL W) : Tab W := by
 rw [MakeChecks.laidMetH_plain _ _ _ (by kernel_rfl)] at h
 obtain ⟨ps, ⟨g0, t0, cs0, f0, p0, q0, hg0, ht0, hv0, hd0, _, _⟩, _, _⟩ := h
 obtain rfl := Option.some.inj (gTab.symm.trans hg0)
 obtain rfl := Option.some.inj (tTab.symm.trans ht0)
 obtain ⟨xs, m1, rfl, hx1, hlen, hn, hel⟩ := DataW.trod_array s64_u hd0
 have c1 : Tryz.prog.cellsOf 135 = 1 := by kernel_rfl
 rw [c1] at hel
 have hx2 : (List.range 64).map (fun i => (.lit (.int .u32 (M (kF i))) : DataW _)) = xs.map (·.1) := by
  have := congrArg Prod.fst hx1
  rw [laid_list] at this
  injection this
 have key : ∀ i, i < 64 → cs0[i]? = some (.int .u32 (M (kF i))) := by
  intro i hi
  have h1 := hel i hi
  have h2 : (xs.map (·.1))[i]? = some (.lit (.int .u32 (M (kF i)))) := by rw [← hx2]; simp [hi]
  rw [List.getElem?_map] at h2
  cases hxi : xs[i]? with
  | none => rw [hxi] at h2; cases h2
  | some x =>
   rw [hxi] at h1 h2
   obtain ⟨n, e1, e2, _⟩ := DataW.trod_int u32_u h1
   have e3 : x.1 = .lit (.int .u32 (M (kF i))) := Option.some.inj h2
   rw [e2] at e3
   have e4 : n = M (kF i) := by injection e3 with e3; injection e3
   subst e4
   have := congrArg (fun l => l[0]?) e1
   simpa [List.getElem?_take, List.getElem?_drop] using this
 have hcell : ∀ i, i < 64 → W.cell? ⟨0, i, none⟩ = some (.int .u32 (M (kF i))) := fun i hi => by rw [World.var?_cell hg0 hv0 i, key i hi]
 exact ⟨World.block_lt_of_cell? W _ (hcell 0 (by omega)), hcell⟩
theorem door_met (os : Os) (args : Array Value) : laidMetH Tryz.prog laidL ((World.doorLaid Tryz.prog 14 os).forCall (fun _ _ => 0) ⟨#[], args, []⟩).memory :=
 laidMetH_of_parts3 (fuel := 8) (laidMet_of_run' 8 (by kernel_rfl) (by kernel_rfl)) (by kernel_rfl) (by kernel_rfl)
end Go.Proofs.YteffjpdcghlnlaaGreatDoor.Oct
