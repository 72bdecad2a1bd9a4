/- A region that draws its order: first those that yield the same in every world whatever (moves), then the segments of flow_region. Of whatever program. -/
import Derived.Test.YthokiohdeclmhaaLib
namespace Go.Proofs.Ythokiohdeclmhaa.Oct
open Go.RowKit
set_option linter.unusedVariables false
section
variable {P : Program} {Q : Exit → Act → World → Prop}
theorem TT.of_any {ops : Array Oper} : ∀ (f : Nat) (listed : Array Bool) (a : Act) (w : World), wpAny P .any ops Q f listed a w → TT P ops Q (fun _ => false) (fun _ => True) f listed a w := by
  intro f
  induction f with
  | zero => intro _ _ _ h; exact h
  | succ f ih =>
    intro listed a w h
    refine ⟨h.1, fun j hj => wpOp_mono (fun a' w' h' => ?_) (h.2 j hj)⟩
    rw [if_neg Bool.false_ne_true]
    exact ⟨trivial, ih _ _ _ h'⟩
def freeB (l : List Oper) (fr : List Nat) (s : List Seg) (last : List Nat) : Bool := Region.noSelect l.toArray && fr.length + lenS last s == l.length && qsB l.toArray fr (Array.replicate l.length false) && flB l.toArray last s (setAll (Array.replicate l.length false) fr)
theorem flow_free {id : Nat} {a : Act} {w : World} {l : List Oper} (fr : List Nat) (s : List Seg) (last : List Nat) (C : World → Prop) (hm : P.follows .mixedOrders = true) (hB : freeB l fr s last = true)
    (hQ : ∀ c a d v w, Q (.panic c) (a.put (some d) v) w → Q (.panic c) a w) (hC : C (w.drewN 1))
    (h : wpQuiet P l.toArray (fun w' => ∃ x : In (fun _ => True), w' = x.val) (fun a' => wpFl P l Q last s C a' (w.drewN 1)) (pk l fr) a) : (Code.region id l.toArray true).wp P Q a w := by
  simp only [freeB, Bool.and_eq_true, beq_iff_eq] at hB
  obtain ⟨⟨⟨hsel, hlen⟩, hq⟩, hf⟩ := hB
  rw [In_eq] at h
  refine wp_region_any hm ?_
  have e : (Array.replicate l.toArray.size false) = Array.replicate l.length false := by simp
  have T := TT.any _ _ _ _ (TT.quiets (C := fun _ => True) (cl := fun _ => false) (f := lenS last s) (w := w.drewN 1) hsel hQ trivial fr (Array.replicate l.length false) a hq (by rw [← e]; exact DC.none) (fun _ _ _ _ _ _ _ => rfl) h fun a' hd hK =>
    TT.of_any _ _ _ _ (TT.any _ _ _ _ (flow hsel hQ s C _ a' (w.drewN 1) hf hd hC hK)))
  rw [hlen] at T
  rw [e, show l.toArray.size = l.length by simp]
  exact T
end
end Go.Proofs.Ythokiohdeclmhaa.Oct
