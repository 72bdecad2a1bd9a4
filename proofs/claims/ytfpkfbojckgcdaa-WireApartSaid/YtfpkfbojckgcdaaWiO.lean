/- wire's parts taken: what bytes come to as some numbers; a call that leaves what there was, then a store into a cell. -/
import Derived.Test.YtfpkfbojckgcdaaWiM
import Derived.Test.YtfpkfbojckgcdaaQIn
namespace Go.Proofs.Ytfpkfbojckgcdaa.Oct
open Go.ChangeShapes Go.WideShapes Go.ChangeAt Go.RowKit
set_option linter.unusedVariables false

/- some numbers, one behind the other -/
def puO (f : Bf) : Nat → Nat
  | 0 => 0
  | j + 1 => puO f j + tkL (offF f (puO f j))
def puX (f : Bf) (j : Nat) : Nat := tkV (offF f (puO f j))
def puS (n : Nat) (f : Bf) : Nat → Nat := fun j => tkE (n - puO f j) (offF f (puO f j))
abbrev puE (n : Nat) (f : Bf) : Nat → Nat := fiE (puS n f)
theorem puO_le {n : Nat} {f : Bf} : ∀ j, puE n f j = 0 → puO f j ≤ n
  | 0, _ => Nat.zero_le _
  | j + 1, h => by
    have h0 := fi_all h j (by omega)
    have h1 := fi_each h j (by omega)
    have := puO_le j h0
    have := tkL_le h1
    simp only [puO]
    omega
theorem puX_lt {n : Nat} {f : Bf} {j c : Nat} (h : puE n f c = 0) (hj : j < c) : puX f j < 9223372036854775808 := (tk_ok (fi_each h j hj)).2.2.2.2

/- stores -/
/-- a call that leaves what there was, then a store into cell o of block g -/
def Wrt (g o : Nat) (v : Value) (w w' : World) : Prop := ∃ w1, Below w.heap.size w w1 ∧ w' = w1.setCell ⟨g, o, none⟩ v
/-- j of them -/
def Wrts (g o : Nat → Nat) (y : Nat → Int) : Nat → World → World → Prop
  | 0, w, w' => w' = w
  | j + 1, w, w' => ∃ w1, Wrts g o y j w w1 ∧ Wrt (g j) (o j) (.int .i64 (y j)) w1 w'
section
variable {g o : Nat} {v : Value} {w w' : World}
theorem Wrt.size (h : Wrt g o v w w') : w.heap.size ≤ w'.heap.size := by
  obtain ⟨w1, hb, rfl⟩ := h
  have := hb.size
  simp [World.setCell]; omega
theorem Wrt.block (h : Wrt g o v w w') {k : Nat} (hk : k < w.heap.size) (hn : k ≠ g) : w'.heap[k]? = w.heap[k]? := by
  obtain ⟨w1, hb, rfl⟩ := h
  rw [Below.heap_setCell _ _ _ _ hn, hb.block k hk]
theorem Wrt.low (h : Wrt g o v w w') {B : Nat} (hB : B ≤ g) (hw : B ≤ w.heap.size) : Below B w w' := by
  obtain ⟨w1, hb, rfl⟩ := h
  exact (hb.mono hw).setCell hB v
theorem Wrt.row (h : Wrt g o v w w') {c : Array Value} (hr : row w g = some c) : row w' g = some (c.setIfInBounds o v) := by
  obtain ⟨w1, hb, rfl⟩ := h
  have h1 := carry hb hr
  rw [setCell_row h1]
  exact row_setRow h1 _
theorem Wrt.other (h : Wrt g o v w w') {k : Nat} {c : Array Value} (hr : Oct.row w k = some c) (hn : k ≠ g) : Oct.row w' k = some c := by
  rw [row_heap (h.block (row_lt hr) hn)]; exact hr
theorem Wrt.rows (h : Wrt g o v w w') {k : Nat} {c : Array Value} (hr : Oct.row w k = some c) : ∃ c', Oct.row w' k = some c' ∧ c'.size = c.size := by
  by_cases hk : k = g
  · subst hk
    exact ⟨_, h.row hr, by simp⟩
  · exact ⟨c, h.other hr hk, rfl⟩
theorem Wrt.put (h : Wrt g o v w w') {c : Array Value} (hr : Oct.row w g = some c) : Put g (c.setIfInBounds o v) w w' := by
  obtain ⟨w1, hb, rfl⟩ := h
  rw [setCell_row (carry hb hr)]
  exact Put.of hb (row_lt hr) _
theorem Wrt.sl (h : Wrt g o v w w') {A : Option Addr} {n m D : Nat} {b : Bf} (hs : Sl w D A n m b) (hD : D ≤ w.heap.size) (ho : Off g n A) : Sl w' D A n m b :=
  ⟨hs.le, fun hn => by
    obtain ⟨k, q, e, hk, hc⟩ := hs.at_ hn
    refine ⟨k, q, e, hk, fun i hi => ?_⟩
    have hb := h.block (k := k) (by omega) (ho hn _ e)
    rw [show w'.cell? ⟨k, q + i, none⟩ = w.cell? ⟨k, q + i, none⟩ by unfold World.cell?; rw [hb]]
    exact hc i hi⟩
theorem Wrt.slG (h : Wrt g o v w w') {A : Option Addr} {n m D : Nat} {V : Nat → Value} (hs : SlG w D A n m V) (hD : D ≤ w.heap.size) (ho : Off g n A) : SlG w' D A n m V :=
  ⟨hs.le, fun hn => by
    obtain ⟨k, q, e, hk, hc⟩ := hs.at_ hn
    refine ⟨k, q, e, hk, fun i hi => ?_⟩
    have hb := h.block (k := k) (by omega) (ho hn _ e)
    rw [show w'.cell? ⟨k, q + i, none⟩ = w.cell? ⟨k, q + i, none⟩ by unfold World.cell?; rw [hb]]
    exact hc i hi⟩
theorem Own.setCell {base n : Nat} {u : TypeId} {z : Value} {f : Bf} (h : Own w base u z n f) {a : Addr} (ha : a.block < base) (x : Value) : Own (w.setCell a x) base u z n f := ownsRow_setCell_below h ha x
theorem SlG.setCell {D n c base : Nat} {A : Option Addr} {V : Nat → Value} (h : SlG w D A n c V) (hA : A = none ∨ ∃ g, A = some ⟨g, 0, none⟩ ∧ base ≤ g) {a : Addr} (ha : a.block < base) (x : Value) : SlG (w.setCell a x) D A n c V :=
  ⟨h.le, fun hn => by
    obtain ⟨k, q, e, hk, hc⟩ := h.at_ hn
    refine ⟨k, q, e, hk, fun i hi => ?_⟩
    have hb : (w.setCell a x).heap[k]? = w.heap[k]? := Below.heap_setCell _ _ _ _ (fun e2 => by
      rcases hA with h1 | ⟨g, h1, hg⟩
      · rw [h1] at e; cases e
      · rw [h1] at e
        have : g = k := congrArg Addr.block (Option.some.inj e)
        omega)
    rw [show (w.setCell a x).cell? ⟨k, q + i, none⟩ = w.cell? ⟨k, q + i, none⟩ by unfold World.cell?; rw [hb]]
    exact hc i hi⟩
theorem off_base {base n : Nat} {A : Option Addr} (hA : A = none ∨ ∃ g, A = some ⟨g, 0, none⟩ ∧ base ≤ g) {k : Nat} (hk : k < base) : Off k n A := fun hn a ha e => by
  rcases hA with h1 | ⟨g, h1, hg⟩
  · rw [h1] at ha; cases ha
  · rw [h1] at ha
    obtain rfl := Option.some.inj ha
    simp only at e
    omega
theorem off_own {base n : Nat} {u : TypeId} {A : Option Addr} {c : Nat} {f : Bf} (h : Own w base u (.slice A n c) n f) {k : Nat} (hk : k < base) : Off k n A := fun hn a ha e => by
  obtain ⟨A', c', e1, -, -, h1⟩ := h.sl
  obtain ⟨rfl, -, -⟩ : A = A' ∧ n = n ∧ c = c' := by injection e1 with h1 h2 h3; exact ⟨h1, rfl, h3⟩
  rcases h1 with h1 | ⟨g', h1, hg⟩
  · rw [h1] at ha; cases ha
  · rw [h1] at ha
    obtain rfl := Option.some.inj ha
    simp only at e
    omega
end
section
variable {g o : Nat → Nat} {y : Nat → Int}
theorem Wrts.size : ∀ {j : Nat} {w w' : World}, Wrts g o y j w w' → w.heap.size ≤ w'.heap.size
  | 0, w, w', h => by rw [show w' = w from h]; exact Nat.le_refl _
  | j + 1, w, w', ⟨w1, h1, h2⟩ => Nat.le_trans h1.size h2.size
theorem Wrts.block : ∀ {j : Nat} {w w' : World}, Wrts g o y j w w' → ∀ {k : Nat}, k < w.heap.size → (∀ i, i < j → k ≠ g i) → w'.heap[k]? = w.heap[k]?
  | 0, w, w', h, k, hk, hn => by rw [show w' = w from h]
  | j + 1, w, w', ⟨w1, h1, h2⟩, k, hk, hn => by
    rw [h2.block (by have := h1.size; omega) (hn j (by omega)), Wrts.block h1 hk fun i hi => hn i (by omega)]
theorem Wrts.low : ∀ {j : Nat} {w w' : World}, Wrts g o y j w w' → ∀ {B : Nat}, (∀ i, i < j → B ≤ g i) → B ≤ w.heap.size → Below B w w'
  | 0, w, w', h, B, _, _ => by rw [show w' = w from h]; exact Below.refl _ _
  | j + 1, w, w', ⟨w1, h1, h2⟩, B, hB, hw => (Wrts.low h1 (fun i hi => hB i (by omega)) hw).trans (h2.low (hB j (by omega)) (by have := h1.size; omega))
theorem Wrts.rows : ∀ {j : Nat} {w w' : World}, Wrts g o y j w w' → ∀ {k : Nat} {c : Array Value}, row w k = some c → ∃ c', row w' k = some c' ∧ c'.size = c.size
  | 0, w, w', h, k, c, hr => by rw [show w' = w from h]; exact ⟨c, hr, rfl⟩
  | j + 1, w, w', ⟨w1, h1, h2⟩, k, c, hr => by
    obtain ⟨c1, r1, e1⟩ := Wrts.rows h1 hr
    obtain ⟨c2, r2, e2⟩ := h2.rows r1
    exact ⟨c2, r2, by omega⟩
theorem Wrts.other {j : Nat} {w w' : World} (h : Wrts g o y j w w') {k : Nat} {c : Array Value} (hr : row w k = some c) (hn : ∀ i, i < j → k ≠ g i) : row w' k = some c := by
  rw [row_heap (h.block (row_lt hr) hn)]; exact hr
theorem Wrts.slG {j : Nat} {w w' : World} (h : Wrts g o y j w w') {A : Option Addr} {n m D : Nat} {V : Nat → Value} (hs : SlG w D A n m V) (hD : D ≤ w.heap.size) (ho : ∀ i, i < j → Off (g i) n A) : SlG w' D A n m V :=
  ⟨hs.le, fun hn => by
    obtain ⟨k, q, e, hk, hc⟩ := hs.at_ hn
    refine ⟨k, q, e, hk, fun i hi => ?_⟩
    have hb := h.block (k := k) (by omega) (fun i hi => ho i hi hn _ e)
    rw [show w'.cell? ⟨k, q + i, none⟩ = w.cell? ⟨k, q + i, none⟩ by unfold World.cell?; rw [hb]]
    exact hc i hi⟩
theorem Wrts.congr {y' : Nat → Int} : ∀ {j : Nat} {w w' : World}, Wrts g o y j w w' → (∀ i, i < j → y i = y' i) → Wrts g o y' j w w'
  | 0, w, w', h, _ => h
  | j + 1, w, w', ⟨w1, h1, h2⟩, he => ⟨w1, Wrts.congr h1 (fun i hi => he i (by omega)), by rw [← he j (by omega)]; exact h2⟩
end
end Go.Proofs.Ytfpkfbojckgcdaa.Oct
