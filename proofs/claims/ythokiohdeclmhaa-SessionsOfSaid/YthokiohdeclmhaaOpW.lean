/- What came in: a struct's fields with what they weigh; how long a slice is at most. Of whatever program. (It was JrOp's head.) -/
import Derived.Test.YthokiohdeclmhaaOpTwo
import Derived.Test.YthokiohdeclmhaaLib
namespace Go.Proofs.Ythokiohdeclmhaa.Oct
open Go.ChangeShapes Go.WideShapes Go.ChangeAt Go.RowKit
set_option linter.unusedVariables false

theorem weights_all {H : Type} {P : Program} {e : TypeId} : ∀ {ds : List (DataW H)} {d : DataW H}, d ∈ ds → ∀ n ∈ d.weights P e, n ∈ DataW.weightsAll P e ds
  | [], _, h, _, _ => by cases h
  | d0 :: ds, d, h, n, hn => by
    rw [DataW.weightsAll, List.mem_append]
    rcases List.mem_cons.1 h with rfl | h
    · exact .inl hn
    · exact .inr (weights_all h n hn)
section
variable {H : Type} {enc : TypeId × Value → H} {P : Program} {w : World} {base : Nat} {spare : Nat → Bool} {held : Bool}
/-- a struct's fields, with what they weigh -/
theorem fldw_struct {t : TypeId} {fs : Array Field} {fuel : Nat} {cs : List Value} {x : DataW H × List MemPlace} {B : Nat} (ht : P.underlying t = some (.struct fs)) (h : DataW.trod enc P w base spare held fuel t cs = some x) (hz : ∀ n ∈ x.1.weights P t, n ≤ B) :
    ∃ m, ∀ (i : Nat) (f : Field), fs[i]? = some f → ∃ y, DataW.trod enc P w base spare held m f.type (fld cs f.offset (P.cellsOf f.type)) = some y ∧ ∀ n ∈ y.1.weights P f.type, n ≤ B := by
  obtain ⟨xs, m, _, hxe, _, hx, hall⟩ := DataW.trod_struct ht h
  refine ⟨m, fun i f hi => ?_⟩
  have hlt : i < xs.length := by rw [hx]; exact (Array.getElem?_eq_some_iff.1 hi).1
  refine ⟨xs[i], by have := hall i f hi; rw [List.getElem?_eq_getElem hlt] at this; exact this, fun n hn => hz n ?_⟩
  subst hxe
  simp only [DataW.weights, ht]
  exact DataW.weights_mem_each (j := i) (t := f.type) (d := xs[i].1) (by rw [List.getElem?_map, Array.getElem?_toList, hi]; rfl) (by rw [List.getElem?_map, List.getElem?_eq_getElem hlt]; rfl) n hn
/-- how long a slice is at most -/
theorem fldw_reach {t e : TypeId} (ht : P.underlying t = some (.slice e)) {A : Option Addr} {n c fuel B : Nat} {x : DataW H × List MemPlace} (h : DataW.trod enc P w base spare held fuel t [.slice A n c] = some x) (hz : ∀ k ∈ x.1.weights P t, k ≤ B) : n * P.bytesOf e ≤ B := by
  rcases Deep.open_slice ht h with ⟨hcs, _⟩ | ⟨a, len, cap, m, n', D, Pl, hcs, _, hl, hm, hmm, hx, _⟩
  · injection hcs with e0 _
    injection e0 with e1 e2 e3
    subst e2
    omega
  · injection hcs with e0 _
    injection e0 with e1 e2 e3
    subst e2
    subst hx
    have := hz ((n + (m - n)) * P.bytesOf e) (by simp [DataW.weights, ht])
    rw [Nat.add_mul] at this
    omega
end
end Go.Proofs.Ythokiohdeclmhaa.Oct
