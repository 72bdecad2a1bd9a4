/- What came in: an array of words by value is 'wa n f' for some f. Of whatever program. -/
import Derived.Test.YtjebkokkgkkogaaDoorVa
import Derived.Test.YtjebkokkgkkogaaDoorLib
namespace Go.Proofs.YtjebkokkgkkogaaDoor.Oct
open Go.ChangeShapes Go.WideShapes Go.ChangeAt Go.RowKit

section
variable {H : Type} {enc : TypeId × Value → H} {P : Program} {w : World} {base : Nat} {spare : Nat → Bool} {held : Bool}
theorem open_words {t e : TypeId} {n : Nat} {r : Reach} {b : Nat} {v : Value} {d : DataW H} {p : List MemPlace} (ht : P.underlying t = some (.array n e)) (he : P.underlying e = some (.int .u32)) (hc : P.cellsOf t = n) (h1 : P.cellsOf e = 1)
    (hv : Value.okWide P w r b t v) (h : DataW.Trod enc P w base spare held t v d p) : ∃ f, v = .agg (wa n f) := by
  obtain ⟨cs, rfl, hs⟩ := okWide_agg ht hv
  obtain ⟨fuel, hf⟩ := h
  obtain ⟨xs, m1, rfl, hx1, hlen, hn, hel⟩ := DataW.trod_array ht hf
  rw [h1] at hel
  have each : ∀ i : Nat, ∃ u : BitVec 32, i < n → cs[i]? = some (.int .u32 (M u)) := fun i => by
    by_cases hi : i < n
    · have h2 := hel i hi
      rw [List.getElem?_eq_getElem (by omega)] at h2
      obtain ⟨k, e1, _, hw⟩ := DataW.trod_int he h2
      have hb : 0 ≤ k ∧ k ≤ 4294967295 := by
        simp only [Lit.wf, decide_eq_true_eq, Bool.and_eq_true] at hw
        exact ⟨hw.1, hw.2⟩
      obtain ⟨u, hu⟩ := M_of k hb.1 hb.2
      refine ⟨u, fun _ => ?_⟩
      have e2 := congrArg (fun l => l[0]?) e1
      rw [hu] at e2
      simpa [Value.cells, List.getElem?_take, List.getElem?_drop] using e2
    · exact ⟨0#32, fun e => absurd e hi⟩
  obtain ⟨f, hF⟩ := Classical.axiomOfChoice each
  refine ⟨f, ?_⟩
  congr 1
  apply Array.ext_getElem?
  intro i
  by_cases hi : i < n
  · rw [hF i hi, wa_get _ _ _ hi]
  · rw [wa_none _ _ _ hi, Array.getElem?_eq_none (by omega)]
end
end Go.Proofs.YtjebkokkgkkogaaDoor.Oct
