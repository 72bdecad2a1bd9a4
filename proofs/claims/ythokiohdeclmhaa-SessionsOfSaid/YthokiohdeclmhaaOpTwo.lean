/- What came in: two ints by value. Of whatever program. -/
import Derived.Test.YthokiohdeclmhaaLib
namespace Go.Proofs.Ythokiohdeclmhaa.Oct
open Go.ChangeShapes Go.WideShapes Go.ChangeAt Go.RowKit
set_option linter.unusedVariables false

abbrev i64B (x : Int) : Prop := -9223372036854775808 ≤ x ∧ x < 9223372036854775808
theorem wf_bd2 {x : Int} (h : (Lit.int .i64 x).wf = true) : -9223372036854775808 ≤ x ∧ x < 9223372036854775808 := by
  simp only [Lit.wf, IntKind.min, IntKind.max, IntKind.signed, IntKind.bits, Bool.and_eq_true, decide_eq_true_eq, if_true] at h
  omega
section
variable {H : Type} {enc : TypeId × Value → H} {P : Program} {w : World} {base : Nat} {spare : Nat → Bool} {held : Bool}
/-- two ints by value -/
theorem open_two {t e : TypeId} {r : Reach} {b : Nat} {v : Value} {d : DataW H} {p : List MemPlace} (ht : P.underlying t = some (.array 2 e)) (he : P.underlying e = some (.int .i64)) (hc : P.cellsOf t = 2) (h1 : P.cellsOf e = 1)
    (hv : Value.okWide P w r b t v) (h : DataW.Trod enc P w base spare held t v d p) : ∃ x y, v = .agg #[.int .i64 x, .int .i64 y] ∧ i64B x ∧ i64B y := by
  obtain ⟨cs, rfl, hs⟩ := okWide_agg ht hv
  obtain ⟨fuel, hf⟩ := h
  obtain ⟨xs, m1, rfl, hx1, hlen, hn, hel⟩ := DataW.trod_array ht hf
  rw [h1] at hel
  have each : ∀ i : Nat, i < 2 → ∃ x : Int, cs[i]? = some (.int .i64 x) ∧ i64B x := fun i hi => by
    have h2 := hel i hi
    rw [List.getElem?_eq_getElem (by omega)] at h2
    obtain ⟨k, e1, _, hw⟩ := DataW.trod_int he h2
    refine ⟨k, ?_, wf_bd2 hw⟩
    have e2 := congrArg (fun l => l[0]?) e1
    simpa [Value.cells, List.getElem?_take, List.getElem?_drop] using e2
  obtain ⟨x, hx, bx⟩ := each 0 (by omega)
  obtain ⟨y, hy, by_⟩ := each 1 (by omega)
  refine ⟨x, y, ?_, bx, by_⟩
  congr 1
  apply Array.ext_getElem?
  intro i
  match i with
  | 0 => rw [hx]; rfl
  | 1 => rw [hy]; rfl
  | i + 2 => rw [Array.getElem?_eq_none (by omega), Array.getElem?_eq_none (by show 2 ≤ i + 2; omega)]
end
end Go.Proofs.Ythokiohdeclmhaa.Oct
