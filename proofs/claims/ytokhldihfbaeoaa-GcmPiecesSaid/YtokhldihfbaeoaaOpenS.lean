/- What came in: a struct whose fields are arrays of bytes, slices of bytes, integers: its cells, field by field. Of whatever program. -/
import Derived.Test.YtokhldihfbaeoaaSlOpen
namespace Go.Proofs.Ytokhldihfbaeoaa.Oct
open Go.ChangeShapes Go.WideShapes Go.ChangeAt Go.RowKit

section
variable {H : Type} {enc : TypeId × Value → H} {P : Program} {w : World} {base : Nat} {spare : Nat → Bool} {held : Bool}
/-- the cells of a field -/
def fld (cs : List Value) (o n : Nat) : List Value := (cs.drop o).take n
theorem open_struct {t : TypeId} {fs : Array Field} {r : Reach} {b : Nat} {v : Value} {d : DataW H} {p : List MemPlace} (ht : P.underlying t = some (.struct fs)) (hv : Value.okWide P w r b t v) (h : DataW.Trod enc P w base spare held t v d p) :
    ∃ cs, v = .agg cs ∧ cs.size = P.cellsOf t ∧ ∃ m, ∀ (i : Nat) (f : Field), fs[i]? = some f → ∃ y, DataW.trod enc P w base spare held m f.type (fld cs.toList f.offset (P.cellsOf f.type)) = some y := by
  obtain ⟨cs, rfl, hs⟩ := okWide_struct ht hv
  obtain ⟨fuel, hf⟩ := h
  obtain ⟨xs, m, _, _, _, hx, hall⟩ := DataW.trod_struct ht hf
  refine ⟨cs, rfl, hs, m, fun i f hi => ?_⟩
  have hlt : i < xs.length := by rw [hx]; exact (Array.getElem?_eq_some_iff.1 hi).1
  exact ⟨xs[i], by have := hall i f hi; rw [List.getElem?_eq_getElem hlt] at this; exact this⟩
/-- a field that is an array of bytes -/
theorem fld_bytes {t e : TypeId} {n : Nat} (ht : P.underlying t = some (.array n e)) (he : P.underlying e = some (.int .u8)) (hc : P.cellsOf t = n) (h1 : P.cellsOf e = 1) {fuel : Nat} {cs : List Value} {x : DataW H × List MemPlace}
    (h : DataW.trod enc P w base spare held fuel t cs = some x) (hl : cs.length = n) : ∃ f, cs = (ba n f).toList := by
  obtain ⟨f, hf⟩ := AllBytes.ba (cs := cs.toArray) (n := n) (by simpa using trod_array (m := 1) ht (by rw [hc, Nat.mul_one]) h1 (fun _ _ _ h => trod_byte he h) h) (by simpa using hl)
  exact ⟨f, by rw [← hf]⟩
/-- a field that is a slice of bytes -/
theorem fld_sl {t e : TypeId} (ht : P.underlying t = some (.slice e)) (he : P.underlying e = some (.int .u8)) (h1 : P.cellsOf e = 1) {fuel : Nat} {cs : List Value} {x : DataW H × List MemPlace}
    (h : DataW.trod enc P w base spare held fuel t cs = some x) : ∃ A n c f, cs = [.slice A n c] ∧ Sl w w.heap.size A n c f ∧ c ≤ maxLen := by
  rcases Deep.open_slice1 ht h1 h with ⟨hcs, _⟩ | ⟨a, len, cap, m, n, V, D, Pl, hcs, _, hl, hm, hmm, _, hx⟩
  · exact ⟨none, 0, 0, nF, hcs, Sl.nothing _ _ _ _ _, Nat.zero_le _⟩
  · have hlen : len ≤ m := by rw [hmm]; split <;> omega
    have hb : ∀ i : Nat, ∃ v : BitVec 8, i < len → V i = .int .u8 (I v) := fun i => by
      by_cases hi : i < len
      · obtain ⟨v, hv⟩ := trod_byte he (hx i (by omega)).2 (V i) (by simp)
        exact ⟨v, fun _ => hv⟩
      · exact ⟨0#8, fun e => absurd e hi⟩
    obtain ⟨f, hF⟩ := Classical.axiomOfChoice hb
    refine ⟨some a, len, cap, f, hcs, ⟨hl, fun hn => ?_⟩, hm⟩
    have hc0 := (hx 0 (by omega)).1
    rw [show a.add 0 = a from rfl] at hc0
    have hs := World.cell?_spot hc0
    obtain ⟨g, o, s⟩ := a
    simp only at hs
    subst hs
    refine ⟨g, o, rfl, World.block_lt_of_cell? w _ hc0, fun i hi => ?_⟩
    have hci := (hx i (by omega)).1
    rw [add_mid, hF i hi] at hci
    exact hci
theorem fld_len {cs : List Value} {o n : Nat} (h : o + n ≤ cs.length) : (fld cs o n).length = n := by unfold fld; simp; omega
theorem fld_two {cs : List Value} {a b : Nat} (h : cs.length = a + b) : cs = fld cs 0 a ++ fld cs a b := by
  unfold fld
  rw [List.drop_zero, List.take_of_length_le (l := cs.drop a) (by simp; omega), List.take_append_drop]
theorem fld_three {cs : List Value} {a b c : Nat} (h : cs.length = a + b + c) : cs = fld cs 0 a ++ (fld cs a b ++ fld cs (a + b) c) := by
  unfold fld
  rw [List.drop_zero, List.take_of_length_le (l := cs.drop (a + b)) (by simp; omega), show cs.drop (a + b) = (cs.drop a).drop b by rw [List.drop_drop], List.take_append_drop, List.take_append_drop]
end
end Go.Proofs.Ytokhldihfbaeoaa.Oct
