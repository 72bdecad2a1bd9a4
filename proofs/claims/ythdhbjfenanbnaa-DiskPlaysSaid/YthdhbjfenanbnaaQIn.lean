/- A class of worlds, as the quiet walk wants it. Of whatever program. -/
import Derived.Test.YthdhbjfenanbnaaLib
namespace Go.Proofs.Ythdhbjfenanbnaa.Oct
open Go.RowKit
theorem quiet_in {P : Program} {ops : Array Oper} {C : World → Prop} {K : Act → Prop} {l : List Oper} {a : Act} (h : wpQuiet P ops (fun w' => ∃ x : In C, w' = x.val) K l a) : wpQuiet P ops C K l a := by rw [In_eq] at h; exact h
end Go.Proofs.Ythdhbjfenanbnaa.Oct
