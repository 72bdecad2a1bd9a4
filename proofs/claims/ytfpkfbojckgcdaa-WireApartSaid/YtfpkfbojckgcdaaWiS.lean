/- What stays while takers store into the blocks of the call's own. Of whatever program. -/
import Derived.Test.YtfpkfbojckgcdaaWiO
namespace Go.Proofs.Ytfpkfbojckgcdaa.Oct
open Go.RowKit
set_option linter.unusedVariables false

/-- all that was there ahead of the call is as it was, and of what the call laid all but the hot blocks -/
structure Rs (w W : World) (hot : Nat → Prop) (w' : World) : Prop where
  low : Below w.heap.size w w'
  size : W.heap.size ≤ w'.heap.size
  blk : ∀ k, k < W.heap.size → ¬ hot k → w'.heap[k]? = W.heap[k]?
section
variable {w W w' w2 : World} {hot : Nat → Prop}
theorem Rs.start (h : Below w.heap.size w W) : Rs w W hot W := ⟨h, Nat.le_refl _, fun _ _ _ => rfl⟩
theorem Rs.below (h : Rs w W hot w') (hb : Below w'.heap.size w' w2) : Rs w W hot w2 :=
  ⟨onto h.low h.low.size hb, Nat.le_trans h.size hb.size, fun k hk hn => by rw [hb.block k (by have := h.size; omega)]; exact h.blk k hk hn⟩
theorem Rs.wrt {g o : Nat} {v : Value} (h : Rs w W hot w') (hw : Wrt g o v w' w2) (hg : hot g) (hB : w.heap.size ≤ g) : Rs w W hot w2 :=
  ⟨h.low.trans (hw.low hB h.low.size), Nat.le_trans h.size hw.size, fun k hk hn => by rw [hw.block (by have := h.size; omega) (fun e => hn (by rw [e]; exact hg))]; exact h.blk k hk hn⟩
theorem Rs.wrts {g o : Nat → Nat} {y : Nat → Int} {j : Nat} (h : Rs w W hot w') (hw : Wrts g o y j w' w2) (hg : ∀ i, i < j → hot (g i)) (hB : ∀ i, i < j → w.heap.size ≤ g i) : Rs w W hot w2 :=
  ⟨h.low.trans (hw.low hB h.low.size), Nat.le_trans h.size hw.size, fun k hk hn => by rw [hw.block (by have := h.size; omega) (fun i hi e => hn (by rw [e]; exact hg i hi))]; exact h.blk k hk hn⟩
theorem Rs.row (h : Rs w W hot w') {k : Nat} {c : Array Value} (hr : Oct.row W k = some c) (hn : ¬ hot k) : Oct.row w' k = some c := by
  rw [row_heap (h.blk k (row_lt hr) hn)]; exact hr
/-- a row of the call's own, as a slice, in any such world -/
theorem Rs.slG (h : Rs w W hot w') {k n : Nat} {c : Array Value} {V : Nat → Value} (hr : Oct.row W k = some c) (hn : ¬ hot k) (hc : ∀ i, i < n → c[i]? = some (V i)) : SlG w' w'.heap.size (some ⟨k, 0, none⟩) n n V :=
  slG_row (h.row hr hn) (row_lt (h.row hr hn)) (Nat.le_refl _) hc
end
/- results: a struct's cells and a slot, or two -/
theorem load_row {P : Program} {ty : TypeId} {d : TypeDesc} {w : World} {b : Nat} {c : Array Value} (hr : row w b = some c) (hu : P.underlying ty = some d) (hd : d.isRow = true) (hi : (P.info? ty).map (·.size) = some c.size) : (loadVar ty ⟨b, 0, none⟩).run P w = .ok (.agg c) w := by
  obtain ⟨t', ht⟩ := row_is hr
  have hg : w.rangeAt b 0 (c.extract 0 (0 + c.size)).toList := World.rangeAt_of_block ht 0 c.size
  have hx := run_loadVar_mid (P := P) w b 0 ty _ d hg hu hd (by rw [hi]; simp)
  rw [Array.toArray_toList, Nat.zero_add, Array.extract_size] at hx
  exact hx
theorem res_ct {P : Program} {fn : Func} {p u : Tmp} {ty : TypeId} (h : fn.results = #[.cell p ty, .tmp u]) (tmps : Array Value) (w : World) (b : Nat) (c : Array Value) (d : TypeDesc)
    (hp : tmps.getD p undef = .pointer (some ⟨b, 0, none⟩)) (hr : row w b = some c) (hu : P.underlying ty = some d) (hd : d.isRow = true) (hi : (P.info? ty).map (·.size) = some c.size) :
    (results fn tmps).run P w = .ok (.tuple #[.agg c, tmps.getD u undef]) w := by
  have hp2 : tmps[p]?.getD undef = .pointer (some ⟨b, 0, none⟩) := by simpa using hp
  simp only [results, h]
  simp [hp2, asAddr, load_row hr hu hd hi]
theorem res_ctt {P : Program} {fn : Func} {p u v : Tmp} {ty : TypeId} (h : fn.results = #[.cell p ty, .tmp u, .tmp v]) (tmps : Array Value) (w : World) (b : Nat) (c : Array Value) (d : TypeDesc)
    (hp : tmps.getD p undef = .pointer (some ⟨b, 0, none⟩)) (hr : row w b = some c) (hu : P.underlying ty = some d) (hd : d.isRow = true) (hi : (P.info? ty).map (·.size) = some c.size) :
    (results fn tmps).run P w = .ok (.tuple #[.agg c, tmps.getD u undef, tmps.getD v undef]) w := by
  have hp2 : tmps[p]?.getD undef = .pointer (some ⟨b, 0, none⟩) := by simpa using hp
  simp only [results, h]
  simp [hp2, asAddr, load_row hr hu hd hi]
/- a struct of seven, or four, cells laid cell by cell -/
theorem set7 {w : World} {B : Nat} {a b c d e f g : Value} (h : row w B = some #[a, b, c, d, e, f, g]) (a' b' c' d' e' f' g' : Value) :
    (((((((w.setCell ⟨B, 0, none⟩ a').setCell ⟨B, 1, none⟩ b').setCell ⟨B, 2, none⟩ c').setCell ⟨B, 3, none⟩ d').setCell ⟨B, 4, none⟩ e').setCell ⟨B, 5, none⟩ f').setCell ⟨B, 6, none⟩ g') = w.setRow B #[a', b', c', d', e', f', g'] := by
  rw [setCell_row h, setCell_row (row_setRow h _), setRow_setRow, setCell_row (row_setRow h _), setRow_setRow, setCell_row (row_setRow h _), setRow_setRow, setCell_row (row_setRow h _), setRow_setRow, setCell_row (row_setRow h _), setRow_setRow, setCell_row (row_setRow h _), setRow_setRow]
  rfl
theorem set4 {w : World} {B : Nat} {a b c d : Value} (h : row w B = some #[a, b, c, d]) (a' b' c' d' : Value) :
    ((((w.setCell ⟨B, 0, none⟩ a').setCell ⟨B, 1, none⟩ b').setCell ⟨B, 2, none⟩ c').setCell ⟨B, 3, none⟩ d') = w.setRow B #[a', b', c', d'] := by
  rw [setCell_row h, setCell_row (row_setRow h _), setRow_setRow, setCell_row (row_setRow h _), setRow_setRow, setCell_row (row_setRow h _), setRow_setRow]
  rfl
end Go.Proofs.Ytfpkfbojckgcdaa.Oct
