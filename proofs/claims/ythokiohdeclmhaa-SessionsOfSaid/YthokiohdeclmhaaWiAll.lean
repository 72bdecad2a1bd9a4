import Derived.Test.YthokiohdeclmhaaPkAll
import Derived.Test.YthokiohdeclmhaaLib
import Derived.Deep.DeepCutAuto
import Derived.Test.YthokiohdeclmhaaOpTwo

/-! ## WiM -/
/- wire's math: parts one behind the other. Of whatever program. -/
namespace Go.Proofs.Ythokiohdeclmhaa.Oct
open Go.ChangeShapes Go.WideShapes Go.ChangeAt Go.RowKit
set_option linter.unusedVariables false

/-- lengths and bytes of the first j parts -/
def cuL (L : Nat → Nat) : Nat → Nat
  | 0 => 0
  | j + 1 => cuL L j + L j
def cuF (L : Nat → Nat) (F : Nat → Bf) : Nat → Bf
  | 0 => nF
  | j + 1 => catF (cuL L j) (cuF L F j) (F j)
theorem cu_mono (L : Nat → Nat) (j : Nat) : ∀ d, cuL L j ≤ cuL L (j + d)
  | 0 => Nat.le_refl _
  | d + 1 => by have := cu_mono L j d; rw [← Nat.add_assoc, cuL]; omega
theorem cu_ahead (L : Nat → Nat) (F : Nat → Bf) (j i : Nat) (hi : i < cuL L j) : ∀ d, cuF L F (j + d) i = cuF L F j i
  | 0 => rfl
  | d + 1 => by
    have h1 := cu_mono L j d
    rw [← Nat.add_assoc, cuF]
    unfold catF
    rw [if_pos (by omega)]
    exact cu_ahead L F j i hi d
theorem cu_block (L : Nat → Nat) (F : Nat → Bf) (j k i : Nat) (hj : j < k) (hi : i < L j) : cuF L F k (cuL L j + i) = F j i := by
  have h := cu_ahead L F (j + 1) (cuL L j + i) (by rw [cuL]; omega) (k - (j + 1))
  rw [show j + 1 + (k - (j + 1)) = k by omega] at h
  rw [h, cuF]
  unfold catF
  rw [if_neg (by omega), show cuL L j + i - cuL L j = i by omega]
theorem cu_cat (L : Nat → Nat) (F : Nat → Bf) (N j : Nat) (b : Bf) : catF (N + cuL L j) (catF N b (cuF L F j)) (F j) = catF N b (cuF L F (j + 1)) := by rw [catF_assoc]; rfl
/-- the first error of some -/
def fiE (E : Nat → Nat) : Nat → Nat
  | 0 => 0
  | j + 1 => if fiE E j ≠ 0 then fiE E j else E j
theorem fi_stay {E : Nat → Nat} {j : Nat} (h : fiE E j ≠ 0) : ∀ d, fiE E (j + d) = fiE E j
  | 0 => rfl
  | d + 1 => by
    have := fi_stay h d
    rw [← Nat.add_assoc, fiE, if_pos (by rw [this]; exact h), this]
theorem fi_step {E : Nat → Nat} {j : Nat} (h : fiE E j = 0) : fiE E (j + 1) = E j := by rw [fiE, if_neg (fun e => e h)]
theorem fi_all {E : Nat → Nat} : ∀ {n : Nat}, fiE E n = 0 → ∀ j, j ≤ n → fiE E j = 0
  | n, h, j, hj => by
    rcases Nat.eq_zero_or_pos (fiE E j) with e | e
    · exact e
    · have := fi_stay (E := E) (j := j) (by omega) (n - j)
      rw [show j + (n - j) = n by omega] at this
      omega
theorem fi_each {E : Nat → Nat} {n : Nat} (h : fiE E n = 0) (j : Nat) (hj : j < n) : E j = 0 := by rw [← fi_step (fi_all h j (by omega))]; exact fi_all h (j + 1) (by omega)
theorem fi_zero {E : Nat → Nat} : ∀ {n : Nat}, (∀ j, j < n → E j = 0) → fiE E n = 0
  | 0, _ => rfl
  | n + 1, h => by rw [fi_step (fi_zero (n := n) fun j hj => h j (by omega))]; exact h n (by omega)
theorem fi_first {E : Nat → Nat} {n j : Nat} (h : fiE E j = 0) (hj : j < n) (he : E j ≠ 0) : fiE E n = E j := by
  have := fi_stay (E := E) (j := j + 1) (by rw [fi_step h]; exact he) (n - (j + 1))
  rw [show j + 1 + (n - (j + 1)) = n by omega, fi_step h] at this
  exact this
/- numbers -/
def neE (x : Nat → Int) : Nat → Nat := fun i => if x i < 0 then 1 else 0
abbrev nuE (x : Nat → Int) : Nat → Nat := fiE (neE x)
abbrev nuL (x : Nat → Int) : Nat → Nat := cuL (fun i => encL (x i).toNat)
abbrev nuF (x : Nat → Int) : Nat → Bf := cuF (fun i => encL (x i).toNat) (fun i => encF (x i).toNat)
theorem nuL_le (x : Nat → Int) : ∀ j, nuL x j ≤ 9 * j
  | 0 => by simp [nuL, cuL]
  | j + 1 => by have h1 := encL_le (x j).toNat; have h2 : cuL (fun i => encL (x i).toNat) j ≤ 9 * j := nuL_le x j; show cuL (fun i => encL (x i).toNat) j + encL (x j).toNat ≤ 9 * (j + 1); omega
/- two or three by their places -/
def th2 {α : Type} (a b : α) : Nat → α := fun j => if j = 0 then a else b
def th3 {α : Type} (a b c : α) : Nat → α := fun j => if j = 0 then a else if j = 1 then b else c
theorem cu_th3 (L1 L2 L3 : Nat) (F1 F2 F3 : Bf) : cuL (th3 L1 L2 L3) 3 = L1 + L2 + L3 ∧ cuF (th3 L1 L2 L3) (th3 F1 F2 F3) 3 = catF (L1 + L2) (catF L1 F1 F2) F3 := by
  have e1 : cuL (th3 L1 L2 L3) 1 = L1 := by simp [cuL, th3]
  have e2 : cuL (th3 L1 L2 L3) 2 = L1 + L2 := by show cuL (th3 L1 L2 L3) 1 + _ = _; rw [e1]; rfl
  refine ⟨by show cuL (th3 L1 L2 L3) 2 + _ = _; rw [e2]; rfl, ?_⟩
  show catF (cuL (th3 L1 L2 L3) 2) (catF (cuL (th3 L1 L2 L3) 1) (catF 0 nF F1) F2) F3 = _
  rw [e1, e2, catF_zero]
theorem cu_th2 (L1 L2 : Nat) (F1 F2 : Bf) : cuL (th2 L1 L2) 2 = L1 + L2 ∧ cuF (th2 L1 L2) (th2 F1 F2) 2 = catF L1 F1 F2 := by
  have e1 : cuL (th2 L1 L2) 1 = L1 := by simp [cuL, th2]
  refine ⟨by show cuL (th2 L1 L2) 1 + _ = _; rw [e1]; rfl, ?_⟩
  show catF (cuL (th2 L1 L2) 1) (catF 0 nF F1) F2 = _
  rw [e1, catF_zero]
theorem cu_th2_1 (a b : Nat) : cuL (th2 a b) 1 = a := by simp [cuL, th2]
theorem txL_le (T : Nat) : txL T ≤ 9 + T := by have := encL_le T; unfold txL; omega
end Go.Proofs.Ythokiohdeclmhaa.Oct

/-! ## QIn -/
/- A class of worlds, as the quiet walk wants it. Of whatever program. -/
namespace Go.Proofs.Ythokiohdeclmhaa.Oct
open Go.RowKit
theorem quiet_in {P : Program} {ops : Array Oper} {C : World → Prop} {K : Act → Prop} {l : List Oper} {a : Act} (h : wpQuiet P ops (fun w' => ∃ x : In C, w' = x.val) K l a) : wpQuiet P ops C K l a := by rw [In_eq] at h; exact h
end Go.Proofs.Ythokiohdeclmhaa.Oct

/-! ## WiO -/
/- wire's parts taken: what bytes come to as some numbers; a call that leaves what there was, then a store into a cell. -/
namespace Go.Proofs.Ythokiohdeclmhaa.Oct
open Go.ChangeShapes Go.WideShapes Go.ChangeAt Go.RowKit
set_option linter.unusedVariables false

/- some numbers, one behind the other -/
def puO (f : Bf) : Nat → Nat
  | 0 => 0
  | j + 1 => puO f j + tkL (offF f (puO f j))
def puX (f : Bf) (j : Nat) : Nat := tkV (offF f (puO f j))
def puS (n : Nat) (f : Bf) : Nat → Nat := fun j => tkE (n - puO f j) (offF f (puO f j))
abbrev puE (n : Nat) (f : Bf) : Nat → Nat := fiE (puS n f)
theorem puO_le {n : Nat} {f : Bf} : ∀ j, puE n f j = 0 → puO f j ≤ n
  | 0, _ => Nat.zero_le _
  | j + 1, h => by
    have h0 := fi_all h j (by omega)
    have h1 := fi_each h j (by omega)
    have := puO_le j h0
    have := tkL_le h1
    simp only [puO]
    omega
theorem puX_lt {n : Nat} {f : Bf} {j c : Nat} (h : puE n f c = 0) (hj : j < c) : puX f j < 9223372036854775808 := (tk_ok (fi_each h j hj)).2.2.2.2

/- stores -/
/-- a call that leaves what there was, then a store into cell o of block g -/
def Wrt (g o : Nat) (v : Value) (w w' : World) : Prop := ∃ w1, Below w.heap.size w w1 ∧ w' = w1.setCell ⟨g, o, none⟩ v
/-- j of them -/
def Wrts (g o : Nat → Nat) (y : Nat → Int) : Nat → World → World → Prop
  | 0, w, w' => w' = w
  | j + 1, w, w' => ∃ w1, Wrts g o y j w w1 ∧ Wrt (g j) (o j) (.int .i64 (y j)) w1 w'
section
variable {g o : Nat} {v : Value} {w w' : World}
theorem Wrt.size (h : Wrt g o v w w') : w.heap.size ≤ w'.heap.size := by
  obtain ⟨w1, hb, rfl⟩ := h
  have := hb.size
  simp [World.setCell]; omega
theorem Wrt.block (h : Wrt g o v w w') {k : Nat} (hk : k < w.heap.size) (hn : k ≠ g) : w'.heap[k]? = w.heap[k]? := by
  obtain ⟨w1, hb, rfl⟩ := h
  rw [Below.heap_setCell _ _ _ _ hn, hb.block k hk]
theorem Wrt.low (h : Wrt g o v w w') {B : Nat} (hB : B ≤ g) (hw : B ≤ w.heap.size) : Below B w w' := by
  obtain ⟨w1, hb, rfl⟩ := h
  exact (hb.mono hw).setCell hB v
theorem Wrt.row (h : Wrt g o v w w') {c : Array Value} (hr : row w g = some c) : row w' g = some (c.setIfInBounds o v) := by
  obtain ⟨w1, hb, rfl⟩ := h
  have h1 := carry hb hr
  rw [setCell_row h1]
  exact row_setRow h1 _
theorem Wrt.other (h : Wrt g o v w w') {k : Nat} {c : Array Value} (hr : Oct.row w k = some c) (hn : k ≠ g) : Oct.row w' k = some c := by
  rw [row_heap (h.block (row_lt hr) hn)]; exact hr
theorem Wrt.rows (h : Wrt g o v w w') {k : Nat} {c : Array Value} (hr : Oct.row w k = some c) : ∃ c', Oct.row w' k = some c' ∧ c'.size = c.size := by
  by_cases hk : k = g
  · subst hk
    exact ⟨_, h.row hr, by simp⟩
  · exact ⟨c, h.other hr hk, rfl⟩
theorem Wrt.put (h : Wrt g o v w w') {c : Array Value} (hr : Oct.row w g = some c) : Put g (c.setIfInBounds o v) w w' := by
  obtain ⟨w1, hb, rfl⟩ := h
  rw [setCell_row (carry hb hr)]
  exact Put.of hb (row_lt hr) _
theorem Wrt.sl (h : Wrt g o v w w') {A : Option Addr} {n m D : Nat} {b : Bf} (hs : Sl w D A n m b) (hD : D ≤ w.heap.size) (ho : Off g n A) : Sl w' D A n m b :=
  ⟨hs.le, fun hn => by
    obtain ⟨k, q, e, hk, hc⟩ := hs.at_ hn
    refine ⟨k, q, e, hk, fun i hi => ?_⟩
    have hb := h.block (k := k) (by omega) (ho hn _ e)
    rw [show w'.cell? ⟨k, q + i, none⟩ = w.cell? ⟨k, q + i, none⟩ by unfold World.cell?; rw [hb]]
    exact hc i hi⟩
theorem Wrt.slG (h : Wrt g o v w w') {A : Option Addr} {n m D : Nat} {V : Nat → Value} (hs : SlG w D A n m V) (hD : D ≤ w.heap.size) (ho : Off g n A) : SlG w' D A n m V :=
  ⟨hs.le, fun hn => by
    obtain ⟨k, q, e, hk, hc⟩ := hs.at_ hn
    refine ⟨k, q, e, hk, fun i hi => ?_⟩
    have hb := h.block (k := k) (by omega) (ho hn _ e)
    rw [show w'.cell? ⟨k, q + i, none⟩ = w.cell? ⟨k, q + i, none⟩ by unfold World.cell?; rw [hb]]
    exact hc i hi⟩
theorem Own.setCell {base n : Nat} {u : TypeId} {z : Value} {f : Bf} (h : Own w base u z n f) {a : Addr} (ha : a.block < base) (x : Value) : Own (w.setCell a x) base u z n f := ownsRow_setCell_below h ha x
theorem SlG.setCell {D n c base : Nat} {A : Option Addr} {V : Nat → Value} (h : SlG w D A n c V) (hA : A = none ∨ ∃ g, A = some ⟨g, 0, none⟩ ∧ base ≤ g) {a : Addr} (ha : a.block < base) (x : Value) : SlG (w.setCell a x) D A n c V :=
  ⟨h.le, fun hn => by
    obtain ⟨k, q, e, hk, hc⟩ := h.at_ hn
    refine ⟨k, q, e, hk, fun i hi => ?_⟩
    have hb : (w.setCell a x).heap[k]? = w.heap[k]? := Below.heap_setCell _ _ _ _ (fun e2 => by
      rcases hA with h1 | ⟨g, h1, hg⟩
      · rw [h1] at e; cases e
      · rw [h1] at e
        have : g = k := congrArg Addr.block (Option.some.inj e)
        omega)
    rw [show (w.setCell a x).cell? ⟨k, q + i, none⟩ = w.cell? ⟨k, q + i, none⟩ by unfold World.cell?; rw [hb]]
    exact hc i hi⟩
theorem off_base {base n : Nat} {A : Option Addr} (hA : A = none ∨ ∃ g, A = some ⟨g, 0, none⟩ ∧ base ≤ g) {k : Nat} (hk : k < base) : Off k n A := fun hn a ha e => by
  rcases hA with h1 | ⟨g, h1, hg⟩
  · rw [h1] at ha; cases ha
  · rw [h1] at ha
    obtain rfl := Option.some.inj ha
    simp only at e
    omega
theorem off_own {base n : Nat} {u : TypeId} {A : Option Addr} {c : Nat} {f : Bf} (h : Own w base u (.slice A n c) n f) {k : Nat} (hk : k < base) : Off k n A := fun hn a ha e => by
  obtain ⟨A', c', e1, -, -, h1⟩ := h.sl
  obtain ⟨rfl, -, -⟩ : A = A' ∧ n = n ∧ c = c' := by injection e1 with h1 h2 h3; exact ⟨h1, rfl, h3⟩
  rcases h1 with h1 | ⟨g', h1, hg⟩
  · rw [h1] at ha; cases ha
  · rw [h1] at ha
    obtain rfl := Option.some.inj ha
    simp only at e
    omega
end
section
variable {g o : Nat → Nat} {y : Nat → Int}
theorem Wrts.size : ∀ {j : Nat} {w w' : World}, Wrts g o y j w w' → w.heap.size ≤ w'.heap.size
  | 0, w, w', h => by rw [show w' = w from h]; exact Nat.le_refl _
  | j + 1, w, w', ⟨w1, h1, h2⟩ => Nat.le_trans h1.size h2.size
theorem Wrts.block : ∀ {j : Nat} {w w' : World}, Wrts g o y j w w' → ∀ {k : Nat}, k < w.heap.size → (∀ i, i < j → k ≠ g i) → w'.heap[k]? = w.heap[k]?
  | 0, w, w', h, k, hk, hn => by rw [show w' = w from h]
  | j + 1, w, w', ⟨w1, h1, h2⟩, k, hk, hn => by
    rw [h2.block (by have := h1.size; omega) (hn j (by omega)), Wrts.block h1 hk fun i hi => hn i (by omega)]
theorem Wrts.low : ∀ {j : Nat} {w w' : World}, Wrts g o y j w w' → ∀ {B : Nat}, (∀ i, i < j → B ≤ g i) → B ≤ w.heap.size → Below B w w'
  | 0, w, w', h, B, _, _ => by rw [show w' = w from h]; exact Below.refl _ _
  | j + 1, w, w', ⟨w1, h1, h2⟩, B, hB, hw => (Wrts.low h1 (fun i hi => hB i (by omega)) hw).trans (h2.low (hB j (by omega)) (by have := h1.size; omega))
theorem Wrts.rows : ∀ {j : Nat} {w w' : World}, Wrts g o y j w w' → ∀ {k : Nat} {c : Array Value}, row w k = some c → ∃ c', row w' k = some c' ∧ c'.size = c.size
  | 0, w, w', h, k, c, hr => by rw [show w' = w from h]; exact ⟨c, hr, rfl⟩
  | j + 1, w, w', ⟨w1, h1, h2⟩, k, c, hr => by
    obtain ⟨c1, r1, e1⟩ := Wrts.rows h1 hr
    obtain ⟨c2, r2, e2⟩ := h2.rows r1
    exact ⟨c2, r2, by omega⟩
theorem Wrts.other {j : Nat} {w w' : World} (h : Wrts g o y j w w') {k : Nat} {c : Array Value} (hr : row w k = some c) (hn : ∀ i, i < j → k ≠ g i) : row w' k = some c := by
  rw [row_heap (h.block (row_lt hr) hn)]; exact hr
theorem Wrts.slG {j : Nat} {w w' : World} (h : Wrts g o y j w w') {A : Option Addr} {n m D : Nat} {V : Nat → Value} (hs : SlG w D A n m V) (hD : D ≤ w.heap.size) (ho : ∀ i, i < j → Off (g i) n A) : SlG w' D A n m V :=
  ⟨hs.le, fun hn => by
    obtain ⟨k, q, e, hk, hc⟩ := hs.at_ hn
    refine ⟨k, q, e, hk, fun i hi => ?_⟩
    have hb := h.block (k := k) (by omega) (fun i hi => ho i hi hn _ e)
    rw [show w'.cell? ⟨k, q + i, none⟩ = w.cell? ⟨k, q + i, none⟩ by unfold World.cell?; rw [hb]]
    exact hc i hi⟩
theorem Wrts.congr {y' : Nat → Int} : ∀ {j : Nat} {w w' : World}, Wrts g o y j w w' → (∀ i, i < j → y i = y' i) → Wrts g o y' j w w'
  | 0, w, w', h, _ => h
  | j + 1, w, w', ⟨w1, h1, h2⟩, he => ⟨w1, Wrts.congr h1 (fun i hi => he i (by omega)), by rw [← he j (by omega)]; exact h2⟩
end
end Go.Proofs.Ythokiohdeclmhaa.Oct

/-! ## WiS -/
/- What stays while takers store into the blocks of the call's own. Of whatever program. -/
namespace Go.Proofs.Ythokiohdeclmhaa.Oct
open Go.RowKit
set_option linter.unusedVariables false

/-- all that was there ahead of the call is as it was, and of what the call laid all but the hot blocks -/
structure Rs (w W : World) (hot : Nat → Prop) (w' : World) : Prop where
  low : Below w.heap.size w w'
  size : W.heap.size ≤ w'.heap.size
  blk : ∀ k, k < W.heap.size → ¬ hot k → w'.heap[k]? = W.heap[k]?
section
variable {w W w' w2 : World} {hot : Nat → Prop}
theorem Rs.start (h : Below w.heap.size w W) : Rs w W hot W := ⟨h, Nat.le_refl _, fun _ _ _ => rfl⟩
theorem Rs.below (h : Rs w W hot w') (hb : Below w'.heap.size w' w2) : Rs w W hot w2 :=
  ⟨onto h.low h.low.size hb, Nat.le_trans h.size hb.size, fun k hk hn => by rw [hb.block k (by have := h.size; omega)]; exact h.blk k hk hn⟩
theorem Rs.wrt {g o : Nat} {v : Value} (h : Rs w W hot w') (hw : Wrt g o v w' w2) (hg : hot g) (hB : w.heap.size ≤ g) : Rs w W hot w2 :=
  ⟨h.low.trans (hw.low hB h.low.size), Nat.le_trans h.size hw.size, fun k hk hn => by rw [hw.block (by have := h.size; omega) (fun e => hn (by rw [e]; exact hg))]; exact h.blk k hk hn⟩
theorem Rs.wrts {g o : Nat → Nat} {y : Nat → Int} {j : Nat} (h : Rs w W hot w') (hw : Wrts g o y j w' w2) (hg : ∀ i, i < j → hot (g i)) (hB : ∀ i, i < j → w.heap.size ≤ g i) : Rs w W hot w2 :=
  ⟨h.low.trans (hw.low hB h.low.size), Nat.le_trans h.size hw.size, fun k hk hn => by rw [hw.block (by have := h.size; omega) (fun i hi e => hn (by rw [e]; exact hg i hi))]; exact h.blk k hk hn⟩
theorem Rs.row (h : Rs w W hot w') {k : Nat} {c : Array Value} (hr : Oct.row W k = some c) (hn : ¬ hot k) : Oct.row w' k = some c := by
  rw [row_heap (h.blk k (row_lt hr) hn)]; exact hr
/-- a row of the call's own, as a slice, in any such world -/
theorem Rs.slG (h : Rs w W hot w') {k n : Nat} {c : Array Value} {V : Nat → Value} (hr : Oct.row W k = some c) (hn : ¬ hot k) (hc : ∀ i, i < n → c[i]? = some (V i)) : SlG w' w'.heap.size (some ⟨k, 0, none⟩) n n V :=
  slG_row (h.row hr hn) (row_lt (h.row hr hn)) (Nat.le_refl _) hc
end
/- results: a struct's cells and a slot, or two -/
theorem load_row {P : Program} {ty : TypeId} {d : TypeDesc} {w : World} {b : Nat} {c : Array Value} (hr : row w b = some c) (hu : P.underlying ty = some d) (hd : d.isRow = true) (hi : (P.info? ty).map (·.size) = some c.size) : (loadVar ty ⟨b, 0, none⟩).run P w = .ok (.agg c) w := by
  obtain ⟨t', ht⟩ := row_is hr
  have hg : w.rangeAt b 0 (c.extract 0 (0 + c.size)).toList := World.rangeAt_of_block ht 0 c.size
  have hx := run_loadVar_mid (P := P) w b 0 ty _ d hg hu hd (by rw [hi]; simp)
  rw [Array.toArray_toList, Nat.zero_add, Array.extract_size] at hx
  exact hx
theorem res_ct {P : Program} {fn : Func} {p u : Tmp} {ty : TypeId} (h : fn.results = #[.cell p ty, .tmp u]) (tmps : Array Value) (w : World) (b : Nat) (c : Array Value) (d : TypeDesc)
    (hp : tmps.getD p undef = .pointer (some ⟨b, 0, none⟩)) (hr : row w b = some c) (hu : P.underlying ty = some d) (hd : d.isRow = true) (hi : (P.info? ty).map (·.size) = some c.size) :
    (results fn tmps).run P w = .ok (.tuple #[.agg c, tmps.getD u undef]) w := by
  have hp2 : tmps[p]?.getD undef = .pointer (some ⟨b, 0, none⟩) := by simpa using hp
  simp only [results, h]
  simp [hp2, asAddr, load_row hr hu hd hi]
theorem res_ctt {P : Program} {fn : Func} {p u v : Tmp} {ty : TypeId} (h : fn.results = #[.cell p ty, .tmp u, .tmp v]) (tmps : Array Value) (w : World) (b : Nat) (c : Array Value) (d : TypeDesc)
    (hp : tmps.getD p undef = .pointer (some ⟨b, 0, none⟩)) (hr : row w b = some c) (hu : P.underlying ty = some d) (hd : d.isRow = true) (hi : (P.info? ty).map (·.size) = some c.size) :
    (results fn tmps).run P w = .ok (.tuple #[.agg c, tmps.getD u undef, tmps.getD v undef]) w := by
  have hp2 : tmps[p]?.getD undef = .pointer (some ⟨b, 0, none⟩) := by simpa using hp
  simp only [results, h]
  simp [hp2, asAddr, load_row hr hu hd hi]
/- a struct of seven, or four, cells laid cell by cell -/
theorem set7 {w : World} {B : Nat} {a b c d e f g : Value} (h : row w B = some #[a, b, c, d, e, f, g]) (a' b' c' d' e' f' g' : Value) :
    (((((((w.setCell ⟨B, 0, none⟩ a').setCell ⟨B, 1, none⟩ b').setCell ⟨B, 2, none⟩ c').setCell ⟨B, 3, none⟩ d').setCell ⟨B, 4, none⟩ e').setCell ⟨B, 5, none⟩ f').setCell ⟨B, 6, none⟩ g') = w.setRow B #[a', b', c', d', e', f', g'] := by
  rw [setCell_row h, setCell_row (row_setRow h _), setRow_setRow, setCell_row (row_setRow h _), setRow_setRow, setCell_row (row_setRow h _), setRow_setRow, setCell_row (row_setRow h _), setRow_setRow, setCell_row (row_setRow h _), setRow_setRow, setCell_row (row_setRow h _), setRow_setRow]
  rfl
theorem set4 {w : World} {B : Nat} {a b c d : Value} (h : row w B = some #[a, b, c, d]) (a' b' c' d' : Value) :
    ((((w.setCell ⟨B, 0, none⟩ a').setCell ⟨B, 1, none⟩ b').setCell ⟨B, 2, none⟩ c').setCell ⟨B, 3, none⟩ d') = w.setRow B #[a', b', c', d'] := by
  rw [setCell_row h, setCell_row (row_setRow h _), setRow_setRow, setCell_row (row_setRow h _), setRow_setRow, setCell_row (row_setRow h _), setRow_setRow]
  rfl
end Go.Proofs.Ythokiohdeclmhaa.Oct

/-! ## WiP -/
/- Contracts: wire's takers. -/
namespace Go.Proofs.Ythokiohdeclmhaa.Oct
open Go.ChangeShapes Go.WideShapes Go.ChangeAt Go.RowKit
set_option linter.unusedVariables false

/-- what numbersTo's closure ends in -/
def ntP (n : Nat) (f : Bf) (cnt : Nat) (g o : Nat → Nat) (w : World) (e : Ending) (w' : World) : Prop :=
  (puE n f cnt ≠ 0 ∧ e = .returned (.tuple #[.slice none 0 0, .int .i64 (puE n f cnt : Nat)]) ∧ ∃ i y, i ≤ cnt ∧ Wrts g o y i w w') ∨
  (puE n f cnt = 0 ∧ ∃ v, e = .returned (.tuple #[v, .int .i64 0]) ∧ Wrts g o (fun j => puX f j) cnt w w' ∧ Own w' w.heap.size 5 v (n - puO f cnt) (offF f (puO f cnt)))
/-- what textTo's closure ends in -/
def ttoP (n : Nat) (f : Bf) (G O : Nat) (w : World) (e : Ending) (w' : World) : Prop :=
  (ttE n 4096 f ≠ 0 ∧ e = .returned (.tuple #[.slice none 0 0, .int .i64 (ttE n 4096 f : Nat)]) ∧ Wrt G O (.slice none 0 0) w w') ∨
  (ttE n 4096 f = 0 ∧ ∃ A' c' v, e = .returned (.tuple #[v, .int .i64 0]) ∧ Wrt G O (.slice A' (tkV f) c') w w' ∧ Own w' w.heap.size 5 (.slice A' (tkV f) c') (tkV f) (offF f (tkL f)) ∧ Own w' w.heap.size 5 v (n - tkL f - tkV f) (offF f (tkL f + tkV f)))
/-- what listTo's closure ends in -/
def ltoP (n : Nat) (f : Bf) (G O : Nat) (w : World) (e : Ending) (w' : World) : Prop :=
  (tllE n 7 f ≠ 0 ∧ e = .returned (.tuple #[.slice none 0 0, .int .i64 (tllE n 7 f : Nat)]) ∧ Wrt G O (.slice none 0 0) w w') ∨
  (tllE n 7 f = 0 ∧ ∃ A' c' v, e = .returned (.tuple #[v, .int .i64 0]) ∧ Wrt G O (.slice A' (tkV f) c') w w' ∧ SlG w' w'.heap.size A' (tkV f) c' (iV fun i => tlX f i) ∧ c' ≤ maxLen ∧ (A' = none ∨ ∃ g, A' = some ⟨g, 0, none⟩ ∧ w.heap.size ≤ g) ∧ Own w' w.heap.size 5 v (n - tlO f (tkV f)) (offF f (tlO f (tkV f))))
end Go.Proofs.Ythokiohdeclmhaa.Oct

/-! ## WiF -/
/- Contracts: wire's putters, encode. -/
namespace Go.Proofs.Ythokiohdeclmhaa.Oct
open Go.ChangeShapes Go.WideShapes Go.ChangeAt Go.RowKit
set_option linter.unusedVariables false

/-- what a putter ends in -/
def ptP (E N L : Nat) (b F : Bf) (w : World) (e : Ending) (w' : World) : Prop :=
  (E ≠ 0 ∧ e = .returned (.tuple #[.slice none 0 0, .int .i64 (E : Nat)]) ∧ Below w.heap.size w w') ∨
  (E = 0 ∧ ∃ v, e = .returned (.tuple #[v, .int .i64 0]) ∧ Own w' w.heap.size 5 v (N + L) (catF N b F) ∧ Below w.heap.size w w')
/-- a function that is entered when it is called -/
def Entr (g : FuncId) : Prop := ∀ (xs : Array Value) (w : World), (callFunc g xs).run Try.prog w = .ok (.enter g xs) w
theorem entr {f : FuncId} {fn : Func} (hf : Try.prog.funcs[f]? = some fn) (hn : (fn.name == "runtime.NumGoroutine") = false) (hb : fn.body.isSome = true) : Entr f := fun xs w => by
  have h1 : fn.name ≠ "runtime.NumGoroutine" := by simpa using hn
  obtain ⟨c, hc⟩ := Option.isSome_iff_exists.1 hb
  simp [callFunc, hf, h1, hc]
/-- v is a putter, from w on -/
def Puts (W : World) (v : Value) (E L : Nat) (F : Bf) : Prop := ∃ g p, v = .func (.func g) #[] #[p] ∧ Entr g ∧
  ∀ w, Below W.heap.size W w → ∀ N c A b, Sl w w.heap.size A N c b → N ≤ 100000000000000 → Calls Try.prog g #[.slice A N c, p] w (ptP E N L b F w)
theorem Puts.shape {W : World} {v : Value} {E L : Nat} {F : Bf} (h : Puts W v E L F) : ∃ g p, v = .func (.func g) #[] #[p] := by
  obtain ⟨g, p, h, _⟩ := h
  exact ⟨g, p, h⟩
theorem Puts.below {W W' : World} {v : Value} {E L : Nat} {F : Bf} (h : Puts W v E L F) (hb : Below W.heap.size W W') : Puts W' v E L F := by
  obtain ⟨g, p, rfl, he, hc⟩ := h
  exact ⟨g, p, rfl, he, fun w hw => hc w (onto hb hb.size hw)⟩

set_option maxHeartbeats 4000000 in
theorem encode_any (cnt c : Nat) (AP : Option Addr) (V : Nat → Value) (E L : Nat → Nat) (F : Nat → Bf) (w : World) (hs : SlG w w.heap.size AP cnt c V) (hp : ∀ j, j < cnt → Puts w (V j) (E j) (L j) (F j))
    (hL : ∀ j, j < cnt → fiE E j = 0 → cuL L j ≤ 100000000000000) (hcnt : cnt ≤ 100) :
    Calls Try.prog 51 #[.slice AP cnt c] w (ptP (fiE E cnt) 0 (cuL L cnt) nF (cuF L F cnt) w) := by
  have HS := Lib.hid hs
  have HP := Lib.hid hp
  have HL := Lib.hid hL
  clear hs hp hL
  go_enter Try.func51, Try.ntmps51
  go_wp2_with fail
  go_loopw [4, 11] (fun bv iv wr => ∃ j : Nat, j ≤ cnt ∧ iv = .int .i64 (j : Int) ∧ fiE E j = 0 ∧ Own wr w.heap.size 5 bv (cuL L j) (cuF L F j) ∧ Below w.heap.size w wr) (fun _ iv _ => cnt - (intOf iv).toNat)
  case atStart => exact ⟨0, by omega, rfl, rfl, Own.nil _ _ _ _, Below.refl _ _⟩
  case round =>
    obtain ⟨j, hj, rfl, hf, ho, hb⟩ := hrel
    obtain ⟨wo, rfl⟩ : ∃ wo : World, wo = wr := ⟨_, rfl⟩
    have HF := Lib.hid hf
    have HO := Lib.hid ho
    have HB := Lib.hid hb
    obtain ⟨A, cb, hv, hsl, -, -⟩ := ho.sl
    subst hv
    have HSL := Lib.hid hsl
    clear hf ho hb hsl
    by_cases hlt : j < cnt
    · have hd : decide ((j : Int) < (cnt : Int)) = true := by simp; omega
      obtain ⟨g0, o0, hA, hg, hcl⟩ := (HS.out.below HB.out).at_ (by omega)
      have hc0 := hcl j hlt
      subst hA
      obtain ⟨g, p, hV, hen, hcall⟩ := HP.out j hlt
      unfold Entr at hen
      have HC := Lib.hid (hcall wo HB.out (cuL L j) cb A (cuF L F j) HSL.out (HL.out j hlt HF.out))
      rw [hV] at hc0
      clear hcl hcall hV
      go_wp2_with fail
      refine HC.out.mono ?_
      rintro e w2 (⟨hz, rfl, hb⟩ | ⟨hz, v2, rfl, ho, hb⟩)
      · have HE := Lib.hid (show fiE E cnt = E j from fi_first HF.out hlt hz)
        have HZ := Lib.hid hz
        have B2 := Lib.hid (onto HB.out HB.out.size hb)
        obtain ⟨Y, hY⟩ : ∃ Y, Y = E j := ⟨_, rfl⟩
        have hne : ((Y : Int) != 0) = true := by have := HZ.out; rw [← hY] at this; simp; omega
        have hne2 : ((Y : Int) == 0) = false := by have := HZ.out; rw [← hY] at this; simp; omega
        rw [← hY]
        have HY := Lib.hid hY
        clear hz hb HC hY hc0 hen
        go_wp2_with fail
        exact bodyPost_ret (v := .tuple #[.slice none 0 0, .int .i64 Y]) (by simp [results, Try.results51, go_sem]) rfl (.inl ⟨by rw [HE.out]; exact HZ.out, by rw [HE.out, HY.out], B2.out⟩)
      · have HF2 := Lib.hid (show fiE E (j + 1) = 0 by rw [fi_step HF.out]; exact hz)
        have O2 := Lib.hid (show Own w2 w.heap.size 5 v2 (cuL L (j + 1)) (cuF L F (j + 1)) from ho.base HB.out.size)
        have B2 := Lib.hid (onto HB.out HB.out.size hb)
        clear hz ho hb HC hc0 hen HO HSL HB
        go_wp2_with fail
        go_roundw
        case rel => exact ⟨j + 1, by omega, rfl, HF2.out, O2.out, B2.out⟩
        case measure => simp [intOf]; omega
    · have hd : decide ((j : Int) < (cnt : Int)) = false := by simp; omega
      have hjn : j = cnt := by omega
      subst hjn
      go_wp2_with fail
      exact bodyPost_ret (v := .tuple #[.slice A (cuL L j) cb, .int .i64 0]) (by simp [results, Try.results51, go_sem]) rfl (.inr ⟨HF.out, _, rfl, by rw [Nat.zero_add, catF_zero]; exact HO.out, HB.out⟩)
end Go.Proofs.Ythokiohdeclmhaa.Oct

/-! ## WiQ -/
/- Contracts: wire's decode, decodeWhole; those that make takers. -/
namespace Go.Proofs.Ythokiohdeclmhaa.Oct
open Go.ChangeShapes Go.WideShapes Go.ChangeAt Go.RowKit
set_option linter.unusedVariables false

/-- what decode ends in -/
def dcP (cnt n : Nat) (f : Bf) (E off : Nat → Nat) (I : Nat → World → Prop) (J : World → Prop) (Z : Nat → Option Addr → Prop) (e : Ending) (w' : World) : Prop :=
  (fiE E cnt ≠ 0 ∧ e = .returned (.tuple #[.slice none 0 0, .int .i64 (fiE E cnt : Nat)]) ∧ J w') ∨
  (fiE E cnt = 0 ∧ ∃ A c, e = .returned (.tuple #[.slice A (n - off cnt) c, .int .i64 0]) ∧ Sl w' w'.heap.size A (n - off cnt) c (offF f (off cnt)) ∧ Z (n - off cnt) A ∧ I cnt w')
/-- what a part's taker ends in -/
def tkrP (n : Nat) (f : Bf) (E o1 : Nat) (I : World → Prop) (J : World → Prop) (Z : Nat → Option Addr → Prop) (e : Ending) (w' : World) : Prop :=
  (E ≠ 0 ∧ (∃ v, e = .returned (.tuple #[v, .int .i64 (E : Nat)])) ∧ J w') ∨
  (E = 0 ∧ ∃ A c, e = .returned (.tuple #[.slice A (n - o1) c, .int .i64 0]) ∧ Sl w' w'.heap.size A (n - o1) c (offF f o1) ∧ Z (n - o1) A ∧ I w')
/-- v takes a part, from off to o1, in any world of the class I -/
def Takes (v : Value) (n : Nat) (f : Bf) (E o0 o1 : Nat) (I I' : World → Prop) (J : World → Prop) (Z : Nat → Option Addr → Prop) : Prop := ∃ g p, v = .func (.func g) #[] #[p] ∧ Entr g ∧
  ∀ w A c, I w → Sl w w.heap.size A (n - o0) c (offF f o0) → Z (n - o0) A → Calls Try.prog g #[.slice A (n - o0) c, p] w (tkrP n f E o1 I' J Z)
/-- what decodeWhole ends in -/
def dwP (cnt n : Nat) (E off : Nat → Nat) (I : Nat → World → Prop) (J : World → Prop) (e : Ending) (w' : World) : Prop :=
  (fiE E cnt ≠ 0 ∧ e = .returned (.bool false) ∧ J w') ∨ (fiE E cnt = 0 ∧ n - off cnt ≠ 0 ∧ e = .returned (.bool false) ∧ I cnt w') ∨ (fiE E cnt = 0 ∧ n - off cnt = 0 ∧ e = .returned (.bool true) ∧ I cnt w')
end Go.Proofs.Ythokiohdeclmhaa.Oct

/-! ## WiG -/
/- Contracts: wire's numbers, text, list. -/
namespace Go.Proofs.Ythokiohdeclmhaa.Oct
open Go.ChangeShapes Go.WideShapes Go.ChangeAt Go.RowKit
set_option linter.unusedVariables false

set_option maxHeartbeats 4000000 in
theorem nums_any (X N c n c1 : Nat) (A A1 : Option Addr) (b : Bf) (x : Nat → Int) (w : World) (hr : row w X = some #[.slice A1 n c1]) (hl : SlG w w.heap.size A1 n c1 (iV x)) (hx : ∀ i, i < n → -9223372036854775808 ≤ x i ∧ x i < 9223372036854775808)
    (hs : Sl w w.heap.size A N c b) (hN : N ≤ 100000000000000) (hn : n ≤ 100) (h1 : 0 < n) :
    Calls Try.prog 66 #[.slice A N c, .pointer (some ⟨X, 0, none⟩)] w (ptP (nuE x n) N (nuL x n) b (nuF x n) w) := by
  have hcell := box_cell1 hr
  have HS := Lib.hid hs
  have HL := Lib.hid hl
  have HX := Lib.hid hx
  clear hs hl hx hr
  go_enter Try.func66, Try.ntmps66
  go_wp2_with fail
  clear hcell
  go_loopw [0, 11] (fun bv iv wr => ∃ j : Nat, j ≤ n ∧ iv = .int .i64 (j : Int) ∧ nuE x j = 0 ∧ (∃ A' c', bv = .slice A' (N + nuL x j) c' ∧ Sl wr wr.heap.size A' (N + nuL x j) c' (catF N b (nuF x j))) ∧ (0 < j → Own wr w.heap.size 5 bv (N + nuL x j) (catF N b (nuF x j))) ∧ Below w.heap.size w wr) (fun _ iv _ => n - (intOf iv).toNat)
  case atStart => exact ⟨0, by omega, rfl, rfl, ⟨A, c, rfl, HS.out.congr fun i hi => by show b i = catF N b (nuF x 0) i; unfold catF; rw [if_pos (by exact hi)]⟩, fun h => by omega, Below.refl _ _⟩
  case round =>
    clear HS
    obtain ⟨j, hj, rfl, hf, ⟨A', c', hv, hsl⟩, ho, hb⟩ := hrel
    obtain ⟨wo, rfl⟩ : ∃ wo : World, wo = wr := ⟨_, rfl⟩
    subst hv
    have HF := Lib.hid hf
    have HSL := Lib.hid hsl
    have HO := Lib.hid ho
    have HB := Lib.hid hb
    have hz := hb.size
    have hl9 := nuL_le x j
    clear hf hsl ho hb
    by_cases hlt : j < n
    · have hdj : decide ((j : Int) < (n : Int)) = true := by simp; omega
      obtain ⟨g, o, hA1, hg, hcl⟩ := (HL.out.below HB.out).at_ (by omega)
      have hc := hcl j hlt
      unfold iV at hc
      subst hA1
      clear hcl
      obtain ⟨y, hy⟩ : ∃ y, y = x j := ⟨_, rfl⟩
      rw [← hy] at hc
      have hxj := HX.out j hlt
      rw [← hy] at hxj
      have HY := Lib.hid hy
      clear hy
      by_cases hneg : y < 0
      · have H2 := Lib.hid (put_neg y (N + nuL x j) c' A' wo hneg)
        have HE := Lib.hid (show nuE x n = 1 by
          have h1 : neE x j = 1 := by unfold neE; rw [if_pos (by rw [← HY.out]; exact hneg)]
          have := fi_first HF.out hlt (by rw [h1]; omega)
          rw [h1] at this
          exact this)
        clear hneg
        go_wp2_with fail
        refine H2.out.mono ?_
        rintro e w2 ⟨rfl, rfl⟩
        clear H2 hc
        go_wp2_with fail
        exact bodyPost_ret (v := .tuple #[.slice none 0 0, .int .i64 1]) (by simp [results, Try.results66, go_sem]) rfl (.inl ⟨by rw [HE.out]; omega, by rw [HE.out]; rfl, HB.out⟩)
      · obtain ⟨m, rfl⟩ : ∃ m : Nat, y = m := ⟨y.toNat, by omega⟩
        have HM := Lib.hid (show (x j).toNat = m by rw [← HY.out]; rfl)
        have H2 := Lib.hid (put_any m (N + nuL x j) c' A' (catF N b (nuF x j)) wo HSL.out (by omega) (by omega))
        have HF2 := Lib.hid (show nuE x (j + 1) = 0 from (fi_step HF.out).trans (by
          unfold neE
          rw [if_neg (by rw [← HY.out]; omega)]))
        clear hneg
        go_wp2_with fail
        refine H2.out.mono ?_
        rintro e w3 ⟨v3, rfl, ho3, hb3⟩
        have ho4 : Own w3 w.heap.size 5 v3 (N + nuL x (j + 1)) (catF N b (nuF x (j + 1))) := by
          have e1 := cu_cat (fun i => encL (x i).toNat) (fun i => encF (x i).toNat) N j b
          simp only [HM.out] at e1
          rw [show nuL x (j + 1) = nuL x j + encL m by show cuL _ (j + 1) = _; rw [cuL]; simp only [HM.out], ← Nat.add_assoc]
          refine (Own.base ho3 hz).congr fun i _ => ?_
          rw [e1]
        obtain ⟨A4, c4, hv4, hs4, -, -⟩ := ho4.sl
        subst hv4
        have O4 := Lib.hid ho4
        have S4 := Lib.hid hs4
        have B4 := Lib.hid (onto HB.out hz hb3)
        clear H2 hc ho3 hb3 ho4 hs4 HSL HO HB HF
        go_wp2_with fail
        go_roundw
        case rel => exact ⟨j + 1, by omega, rfl, HF2.out, ⟨_, _, rfl, S4.out⟩, fun _ => O4.out, B4.out⟩
        case measure => simp [intOf]; omega
    · have hdj : decide ((j : Int) < (n : Int)) = false := by simp; omega
      have hjn : j = n := by omega
      subst hjn
      go_wp2_with fail
      exact bodyPost_ret (v := .tuple #[.slice A' (N + nuL x j) c', .int .i64 0]) (by simp [results, Try.results66, go_sem]) rfl (.inr ⟨HF.out, _, rfl, HO.out h1, HB.out⟩)

/-- a text's error -/
def txE (T : Nat) : Nat := if 4096 < T then 2 else 0
set_option maxHeartbeats 1000000 in
theorem text1_any (X N c T c1 : Nat) (A A1 : Option Addr) (b t : Bf) (w : World) (hr : row w X = some #[.slice A1 T c1]) (ht : Sl w w.heap.size A1 T c1 t) (hs : Sl w w.heap.size A N c b) (hN : N ≤ 100000000000000) :
    Calls Try.prog 68 #[.slice A N c, .pointer (some ⟨X, 0, none⟩)] w (ptP (txE T) N (txL T) b (txF T t) w) := by
  have hcell := box_cell1 hr
  by_cases hT : 4096 < T
  · have H1 := Lib.hid (putt_long N c T c1 A A1 w hT)
    have HE := Lib.hid (show txE T = 2 by unfold txE; rw [if_pos hT])
    clear hr ht hs hT
    go_enter Try.func68, Try.ntmps68
    go_wp2_with fail
    refine H1.out.mono ?_
    rintro e w1 ⟨rfl, rfl⟩
    clear H1
    go_wp2_with fail
    exact bodyPost_ret (v := .tuple #[.slice none 0 0, .int .i64 2]) (by simp [results, Try.results68, go_sem]) rfl (.inl ⟨by rw [HE.out]; omega, by rw [HE.out]; rfl, Below.refl _ _⟩)
  · have H1 := Lib.hid (putt_any N c T c1 A A1 b t w hs ht (by omega) (by omega))
    have HE := Lib.hid (show txE T = 0 by unfold txE; rw [if_neg hT])
    clear hr ht hs hT
    go_enter Try.func68, Try.ntmps68
    go_wp2_with fail
    refine H1.out.mono ?_
    rintro e w1 ⟨v1, rfl, ho, hb⟩
    have O1 := Lib.hid ho
    have B1 := Lib.hid hb
    clear H1 ho hb
    go_wp2_with fail
    exact bodyPost_ret (v := .tuple #[v1, .int .i64 0]) (by simp [results, Try.results68, go_sem]) rfl (.inr ⟨HE.out, _, rfl, O1.out, B1.out⟩)

theorem nuE_neg {x : Nat → Int} {n : Nat} : nuE x n ≠ 0 → negs x n ∧ nuE x n = 1 := fun h => by
  induction n with
  | zero => exact absurd rfl h
  | succ n ih =>
    by_cases h0 : nuE x n = 0
    · have e : nuE x (n + 1) = neE x n := fi_step h0
      rw [e] at h ⊢
      unfold neE at h ⊢
      split at h
      · rename_i hn
        exact ⟨⟨n, by omega, hn⟩, by rw [if_pos hn]⟩
      · exact absurd rfl h
    · obtain ⟨⟨i, hi, hx⟩, h1⟩ := ih h0
      exact ⟨⟨i, by omega, hx⟩, by
        have := fi_stay (E := neE x) h0 1
        exact this.trans h1⟩
theorem nuE_of_neg {x : Nat → Int} {n : Nat} (h : negs x n) : nuE x n = 1 := by
  rcases Nat.eq_zero_or_pos (nuE x n) with e | e
  · obtain ⟨i, hi, hx⟩ := h
    have := fi_each e i hi
    unfold neE at this
    rw [if_pos hx] at this
    omega
  · exact (nuE_neg (by omega)).2
theorem nuE_of_pos {x : Nat → Int} {n : Nat} (h : ∀ i, i < n → 0 ≤ x i) : nuE x n = 0 := fi_zero fun j hj => by
  unfold neE
  have := h j hj
  rw [if_neg (by omega)]
/- those that make them -/
theorem mknums_any (n c1 : Nat) (A1 : Option Addr) (x : Nat → Int) (w : World) (hl : SlG w w.heap.size A1 n c1 (iV x)) (hx : ∀ i, i < n → -9223372036854775808 ≤ x i ∧ x i < 9223372036854775808) (hn : n ≤ 100) (h1 : 0 < n) :
    Calls Try.prog 52 #[.slice A1 n c1] w fun e w' => ∃ v, e = .returned v ∧ v.oneCell' = true ∧ Puts w' v (nuE x n) (nuL x n) (nuF x n) ∧ Below w.heap.size w w' := by
  have HL := Lib.hid hl
  clear hl
  go_enter Try.func52, Try.ntmps52
  go_wp2_with fail
  go_ret
  refine ⟨_, rfl, rfl, ⟨66, .pointer (some ⟨w.heap.size, 0, none⟩), rfl, entr (fn := Try.f66) (by kernel_rfl) (by kernel_rfl) (by kernel_rfl), fun w' hb N c A b hs hN => ?_⟩, (Below.refl _ _).alloc (Nat.le_refl _) _⟩
  have hb2 : Below w.heap.size w w' := onto ((Below.refl w.heap.size w).alloc (Nat.le_refl _) _) (by simp) hb
  exact nums_any w.heap.size N c n c1 A A1 b x w' (carry hb (row_alloc_at _ _ _ _ rfl)) ((HL.out.below hb2).more hb2.size) hx hs hN hn h1
theorem mktext_any (T c1 : Nat) (A1 : Option Addr) (t : Bf) (w : World) (ht : Sl w w.heap.size A1 T c1 t) :
    Calls Try.prog 53 #[.slice A1 T c1] w fun e w' => ∃ v, e = .returned v ∧ v.oneCell' = true ∧ Puts w' v (txE T) (txL T) (txF T t) ∧ Below w.heap.size w w' := by
  have HL := Lib.hid ht
  clear ht
  go_enter Try.func53, Try.ntmps53
  go_wp2_with fail
  go_ret
  refine ⟨_, rfl, rfl, ⟨68, .pointer (some ⟨w.heap.size, 0, none⟩), rfl, entr (fn := Try.f68) (by kernel_rfl) (by kernel_rfl) (by kernel_rfl), fun w' hb N c A b hs hN => ?_⟩, (Below.refl _ _).alloc (Nat.le_refl _) _⟩
  have hb2 : Below w.heap.size w w' := onto ((Below.refl w.heap.size w).alloc (Nat.le_refl _) _) (by simp) hb
  exact text1_any w.heap.size N c T c1 A A1 b t w' (carry hb (row_alloc_at _ _ _ _ rfl)) ((HL.out.below hb2).more hb2.size) hs hN
end Go.Proofs.Ythokiohdeclmhaa.Oct

/-! ## WiA -/
/- wire's Check: what a command's numbers and lengths must be; contracts of span.has, shapeOf, fits, Check. -/
namespace Go.Proofs.Ythokiohdeclmhaa.Oct
open Go.ChangeShapes Go.WideShapes Go.ChangeAt Go.RowKit
set_option linter.unusedVariables false

/-- from a to b -/
def inB (a b x : Int) : Bool := decide (a ≤ x) && decide (x ≤ b)
/-- the twelve numbers of a kind's shape -/
def shN (k : Int) : List Int :=
  if k = 1 then [0, 0, 0, 0, 0, 0, 0, 0, 0, 0, 0, 0]
  else if k = 2 then [0, 0, 0, 0, 1, 1099511627776, 0, 0, 0, 0, 0, 0]
  else if k = 3 then [1, 1099511627776, 1, 1099511627776, 0, 0, 0, 0, 0, 0, 0, 0]
  else if k = 4 then [1, 1099511627776, 1, 1099511627776, 1, 1099511627776, 0, 0, 0, 0, 0, 0]
  else if k = 5 then [1, 1099511627776, 1, 1099511627776, 1, 1099511627776, 0, 1, 0, 0, 0, 0]
  else if k = 6 then [1, 1099511627776, 1, 1099511627776, 1, 1099511627776, 1, 9223372036854775807, 0, 0, 0, 0]
  else if k = 7 then [1, 1099511627776, 1, 1099511627776, 1, 1099511627776, 0, 0, 0, 64, 0, 32]
  else if k = 8 then [1, 1099511627776, 1, 1099511627776, 0, 0, 0, 0, 0, 128, 0, 32]
  else if k = 9 then [1, 1099511627776, 1, 1099511627776, 0, 0, 0, 0, 0, 128, 0, 32]
  else if k = 10 then [1, 1099511627776, 1, 1099511627776, 0, 0, 0, 0, 1, 64, 0, 0]
  else [0, 0, 0, 0, 0, 0, 0, 0, 0, 0, 0, 0]
def sh (k : Int) (j : Nat) : Int := (shN k).getD j 0
theorem shape_below (w : World) (a b c : Array Value) (t u v : TypeId) : Below w.heap.size w (((w.alloc (.cells a t)).alloc (.cells b u)).alloc (.cells c v)) :=
  (((Below.refl _ _).alloc (by simp) _).alloc (by simp) _).alloc (by simp; omega) _
def kiB (k : Int) : Bool := decide (1 ≤ k) && decide (k ≤ 10)
end Go.Proofs.Ythokiohdeclmhaa.Oct

/-! ## WiJ -/
/- Contract: wire's checkEntry. -/
namespace Go.Proofs.Ythokiohdeclmhaa.Oct
open Go.ChangeShapes Go.WideShapes Go.ChangeAt Go.RowKit
set_option linter.unusedVariables false

theorem cells4 {w : World} {B : Nat} {a b c d : Value} (h : row w B = some #[a, b, c, d]) : w.cell? ⟨B, 0, none⟩ = some a ∧ w.cell? ⟨B, 1, none⟩ = some b ∧ w.cell? ⟨B, 2, none⟩ = some c ∧ w.cell? ⟨B, 3, none⟩ = some d :=
  ⟨cell_row h 0, cell_row h 1, cell_row h 2, cell_row h 3⟩
/-- the error of an entry's check -/
def enE (t k : Int) (x : Nat → Int) (T n : Nat) : Nat :=
  if inB 0 1099511627776 t = false then 1 else if inB 0 2 k = false then 1 else if nuE x n ≠ 0 then 1 else if 4096 < T then 2 else if 7 < n then 2 else 0
abbrev entV (t k : Int) (d m : Value) : Value := .agg #[.int .i64 t, .int .i64 k, d, m]
theorem ent_ok {t k : Int} {x : Nat → Int} {T n : Nat} (h : enE t k x T n = 0) : 0 ≤ t ∧ 0 ≤ k ∧ nuE x n = 0 ∧ T ≤ 4096 ∧ n ≤ 7 := by
  unfold enE at h
  split at h
  · omega
  rename_i h1
  split at h
  · omega
  rename_i h2
  split at h
  · omega
  rename_i h3
  split at h
  · omega
  rename_i h4
  split at h
  · omega
  rename_i h5
  simp [inB] at h1 h2
  exact ⟨h1.1, h2.1, by omega, by omega, by omega⟩
end Go.Proofs.Ythokiohdeclmhaa.Oct

/-! ## WiK -/
/- Contract: wire.Entry. -/
namespace Go.Proofs.Ythokiohdeclmhaa.Oct
open Go.ChangeShapes Go.WideShapes Go.ChangeAt Go.RowKit
set_option linter.unusedVariables false

/-- an entry's writing -/
def entL (t k : Int) (x : Nat → Int) (T n : Nat) : Nat := nuL (th2 t k) 2 + txL T + lsL (natS x) n n
def entF (t k : Int) (x : Nat → Int) (T n : Nat) (f : Bf) : Bf := catF (nuL (th2 t k) 2 + txL T) (catF (nuL (th2 t k) 2) (nuF (th2 t k) 2) (txF T f)) (lsF (natS x) n n)
/-- what such a writer ends in -/
def cmP (E L : Nat) (F : Bf) (w : World) (e : Ending) (w' : World) : Prop :=
  (E ≠ 0 ∧ e = .returned (.tuple #[.slice none 0 0, .int .i64 (E : Nat)]) ∧ Below w.heap.size w w') ∨
  (E = 0 ∧ ∃ v, e = .returned (.tuple #[v, .int .i64 0]) ∧ Own w' w.heap.size 5 v L F ∧ Below w.heap.size w w')
end Go.Proofs.Ythokiohdeclmhaa.Oct

/-! ## WiB -/
/- wire's Check: contracts of fits, Check. -/
namespace Go.Proofs.Ythokiohdeclmhaa.Oct
open Go.ChangeShapes Go.WideShapes Go.ChangeAt Go.RowKit
set_option linter.unusedVariables false

/-- a command's fields as its cells -/
abbrev comV (k s q i n : Int) (d b : Value) : Value := .agg #[.int .i64 k, .int .i64 s, .int .i64 q, .int .i64 i, .int .i64 n, d, b]
def fitB (h : Nat → Int) (s q i n : Int) (T U : Nat) : Bool := inB (h 0) (h 1) s && (inB (h 2) (h 3) q && (inB (h 4) (h 5) i && (inB (h 6) (h 7) n && (inB (h 8) (h 9) T && inB (h 10) (h 11) U))))
theorem cells7 {w : World} {B : Nat} {a b c d e f g : Value} (h : row w B = some #[a, b, c, d, e, f, g]) : w.cell? ⟨B, 0, none⟩ = some a ∧ w.cell? ⟨B, 1, none⟩ = some b ∧ w.cell? ⟨B, 2, none⟩ = some c ∧ w.cell? ⟨B, 3, none⟩ = some d ∧ w.cell? ⟨B, 4, none⟩ = some e ∧ w.cell? ⟨B, 5, none⟩ = some f ∧ w.cell? ⟨B, 6, none⟩ = some g :=
  ⟨cell_row h 0, cell_row h 1, cell_row h 2, cell_row h 3, cell_row h 4, cell_row h 5, cell_row h 6⟩
def chkB (k s q i n : Int) (T U : Nat) : Bool := kiB k && fitB (sh k) s q i n T U
/-- the error of a command's check -/
def chkE (k s q i n : Int) (T U : Nat) : Nat := if chkB k s q i n T U then 0 else 1
end Go.Proofs.Ythokiohdeclmhaa.Oct

/-! ## WiC -/
/- The reference's Check. -/
namespace Go.Proofs.Ythokiohdeclmhaa.Oct
open Go.ChangeShapes Go.WideShapes Go.ChangeAt Go.RowKit
set_option linter.unusedVariables false

/-- which letters a kind has -/
def hS (k : Int) : Bool := decide (3 ≤ k) && decide (k ≤ 10)
def hI (k : Int) : Bool := decide (k = 2) || (decide (4 ≤ k) && decide (k ≤ 7))
def hN (k : Int) : Bool := decide (k = 5) || decide (k = 6)
def hD (k : Int) : Bool := decide (7 ≤ k) && decide (k ≤ 10)
def hB (k : Int) : Bool := decide (7 ≤ k) && decide (k ≤ 9)
def hasS (k : Int) : ByteArray :=
  if k = 1 then ⟨#[]⟩ else if k = 2 then ⟨#[105]⟩ else if k = 3 then ⟨#[115]⟩ else if k = 4 then ⟨#[115, 105]⟩ else if k = 5 then ⟨#[115, 105, 110]⟩ else if k = 6 then ⟨#[115, 105, 110]⟩
  else if k = 7 then ⟨#[115, 105, 100, 98]⟩ else if k = 8 then ⟨#[115, 100, 98]⟩ else if k = 9 then ⟨#[115, 100, 98]⟩ else if k = 10 then ⟨#[115, 100]⟩ else ⟨#[120]⟩
/-- a letter is among the first j -/
def inJ (s : ByteArray) (c : Int) : Nat → Bool
  | 0 => false
  | j + 1 => inJ s c j || decide (((s.data.getD j 0).toNat : Int) = c)
theorem inJ_more (s : ByteArray) (c : Int) (j : Nat) (h : inJ s c j = true) : ∀ d, inJ s c (j + d) = true
  | 0 => h
  | d + 1 => by rw [← Nat.add_assoc, inJ, inJ_more s c j h d]; rfl
theorem inJ_at (s : ByteArray) (c : Int) (j : Nat) (h : j < s.size) : inJ s c (j + 1) = (inJ s c j || decide (((s[j]'h).toNat : Int) = c)) := by
  rw [inJ]
  congr 2
  have : s.data.getD j 0 = s[j]'h := by
    show s.data.getD j 0 = s.data[j]
    have h' : j < s.data.size := h
    simp [Array.getD]
    exact dif_pos h
  rw [this]
theorem has_in (k : Int) : (hasS k).size ≤ 10 ∧ inJ (hasS k) 115 (hasS k).size = hS k ∧ inJ (hasS k) 105 (hasS k).size = hI k ∧ inJ (hasS k) 110 (hasS k).size = hN k ∧ inJ (hasS k) 100 (hasS k).size = hD k ∧ inJ (hasS k) 98 (hasS k).size = hB k := by
  have hcase : k = 1 ∨ k = 2 ∨ k = 3 ∨ k = 4 ∨ k = 5 ∨ k = 6 ∨ k = 7 ∨ k = 8 ∨ k = 9 ∨ k = 10 ∨ k < 1 ∨ 10 < k := by omega
  have key : (k < 1 ∨ 10 < k) → hasS k = ⟨#[120]⟩ ∧ hS k = false ∧ hI k = false ∧ hN k = false ∧ hD k = false ∧ hB k = false := fun h => by
    refine ⟨?_, ?_, ?_, ?_, ?_, ?_⟩
    · unfold hasS; rw [if_neg (by omega), if_neg (by omega), if_neg (by omega), if_neg (by omega), if_neg (by omega), if_neg (by omega), if_neg (by omega), if_neg (by omega), if_neg (by omega), if_neg (by omega)]
    · unfold hS; simp; omega
    · unfold hI; simp; omega
    · unfold hN; simp; omega
    · unfold hD; simp; omega
    · unfold hB; simp; omega
  rcases hcase with rfl | rfl | rfl | rfl | rfl | rfl | rfl | rfl | rfl | rfl | h | h
  all_goals first
    | decide
    | (obtain ⟨h1, h2, h3, h4, h5, h6⟩ := key (by omega)
       rw [h1, h2, h3, h4, h5, h6]
       decide)
end Go.Proofs.Ythokiohdeclmhaa.Oct

/-! ## WiD -/
/- The reference's Check. -/
namespace Go.Proofs.Ythokiohdeclmhaa.Oct
open Go.ChangeShapes Go.WideShapes Go.ChangeAt Go.RowKit
set_option linter.unusedVariables false

def numB (x : Int) (b : Bool) : Bool := if b then inB 1 1099511627776 x else decide (x = 0)
def okN (k n : Int) : Bool := if hN k then (if k = 5 then decide (n = 0) || decide (n = 1) else decide (1 ≤ n)) else decide (n = 0)
def mostD (k : Int) : Int := if hD k then (if k = 8 ∨ k = 9 then 128 else 64) else 0
/-- the reference's check, as it is told -/
def rokB (k s q i n : Int) (T U : Nat) : Bool :=
  (((kiB k && (numB s (hS k) && (numB q (hS k) && numB i (hI k)))) && okN k n) && (decide ((T : Int) ≤ mostD k) && (decide (k ≠ 10) || decide (0 < (T : Int))))) && (decide ((U : Int) = 0) || (hB k && decide ((U : Int) ≤ 32)))
theorem has_x (k : Int) : ((hasS k).toList == [120]) = !kiB k := by
  have hcase : k = 1 ∨ k = 2 ∨ k = 3 ∨ k = 4 ∨ k = 5 ∨ k = 6 ∨ k = 7 ∨ k = 8 ∨ k = 9 ∨ k = 10 ∨ k < 1 ∨ 10 < k := by omega
  have key : (k < 1 ∨ 10 < k) → hasS k = ⟨#[120]⟩ ∧ kiB k = false := fun h => by
    refine ⟨?_, ?_⟩
    · unfold hasS; rw [if_neg (by omega), if_neg (by omega), if_neg (by omega), if_neg (by omega), if_neg (by omega), if_neg (by omega), if_neg (by omega), if_neg (by omega), if_neg (by omega), if_neg (by omega)]
    · unfold kiB; simp; omega
  rcases hcase with rfl | rfl | rfl | rfl | rfl | rfl | rfl | rfl | rfl | rfl | h | h
  all_goals first
    | (decide +kernel; done)
    | (obtain ⟨h1, h2⟩ := key (by omega)
       rw [h1, h2]
       decide +kernel)

end Go.Proofs.Ythokiohdeclmhaa.Oct

/-! ## WiE -/
/- Both checks of a command are the same. -/
namespace Go.Proofs.Ythokiohdeclmhaa.Oct
open Go.ChangeShapes Go.WideShapes Go.ChangeAt Go.RowKit
set_option linter.unusedVariables false

theorem rok_chk (k s q i n : Int) (T U : Nat) (hn : n < 9223372036854775808) : rokB k s q i n T U = chkB k s q i n T U := by
  have hcase : k = 1 ∨ k = 2 ∨ k = 3 ∨ k = 4 ∨ k = 5 ∨ k = 6 ∨ k = 7 ∨ k = 8 ∨ k = 9 ∨ k = 10 ∨ k < 1 ∨ 10 < k := by omega
  have key : (k < 1 ∨ 10 < k) → kiB k = false := fun h => by unfold kiB; simp; omega
  rcases hcase with rfl | rfl | rfl | rfl | rfl | rfl | rfl | rfl | rfl | rfl | h | h
  case inr.inr.inr.inr.inr.inr.inr.inr.inr.inr.inl => unfold rokB chkB; rw [key (.inl h)]; rfl
  case inr.inr.inr.inr.inr.inr.inr.inr.inr.inr.inr => unfold rokB chkB; rw [key (.inr h)]; rfl
  all_goals
    rw [Bool.eq_iff_iff]
    simp [rokB, chkB, kiB, fitB, inB, numB, okN, mostD, hS, hI, hN, hD, hB, sh, shN]
    omega
/-- what a command that may be has: numbers that are not negative, texts that are short -/
theorem chk_ok {k s q i n : Int} {T U : Nat} (h : chkE k s q i n T U = 0) : 0 ≤ k ∧ 0 ≤ s ∧ 0 ≤ q ∧ 0 ≤ i ∧ 0 ≤ n ∧ T ≤ 128 ∧ U ≤ 32 := by
  have h' : chkB k s q i n T U = true := by unfold chkE at h; cases hb : chkB k s q i n T U with
    | true => rfl
    | false => rw [hb] at h; simp at h
  have hk : kiB k = true := by unfold chkB at h'; cases hb : kiB k with
    | true => rfl
    | false => rw [hb] at h'; simp at h'
  have hcase : k = 1 ∨ k = 2 ∨ k = 3 ∨ k = 4 ∨ k = 5 ∨ k = 6 ∨ k = 7 ∨ k = 8 ∨ k = 9 ∨ k = 10 := by unfold kiB at hk; simp at hk; omega
  clear h hk
  rcases hcase with rfl | rfl | rfl | rfl | rfl | rfl | rfl | rfl | rfl | rfl
  all_goals
    simp [chkB, kiB, fitB, inB, sh, shN] at h'
    omega
theorem chk_codes (k s q i n : Int) (T U : Nat) : chkE k s q i n T U = 0 ∨ chkE k s q i n T U = 1 := by unfold chkE; split <;> simp
end Go.Proofs.Ythokiohdeclmhaa.Oct

/-! ## WiH -/
/- Contract: wire.Command. -/
namespace Go.Proofs.Ythokiohdeclmhaa.Oct
open Go.ChangeShapes Go.WideShapes Go.ChangeAt Go.RowKit
set_option linter.unusedVariables false

/-- a command's five numbers -/
def comN (k s q i n : Int) : Nat → Int := fun j => if j = 0 then k else if j = 1 then s else if j = 2 then q else if j = 3 then i else n
/-- its writing -/
def comL (k s q i n : Int) (T U : Nat) : Nat := nuL (comN k s q i n) 5 + txL T + txL U
def comF (k s q i n : Int) (T U : Nat) (f g : Bf) : Bf := catF (nuL (comN k s q i n) 5 + txL T) (catF (nuL (comN k s q i n) 5) (nuF (comN k s q i n) 5) (txF T f)) (txF U g)
end Go.Proofs.Ythokiohdeclmhaa.Oct

/-! ## WiU -/
/- Contract: wire.TakeCommand. -/
namespace Go.Proofs.Ythokiohdeclmhaa.Oct
open Go.ChangeShapes Go.WideShapes Go.ChangeAt Go.RowKit
set_option linter.unusedVariables false

/-- behind a text that begins at o -/
def txO (f : Bf) (o : Nat) : Nat := o + (tkL (offF f o) + tkV (offF f o))
/-- where a command's parts begin -/
def tcO (f : Bf) : Nat → Nat := fun j => if j = 0 then 0 else if j = 1 then puO f 5 else if j = 2 then txO f (puO f 5) else txO f (txO f (puO f 5))
/-- their errors -/
def tcS (n : Nat) (f : Bf) : Nat → Nat := th3 (puE n f 5) (ttE (n - tcO f 1) 4096 (offF f (tcO f 1))) (ttE (n - tcO f 2) 4096 (offF f (tcO f 2)))
/-- its texts -/
def tcT (f : Bf) : Nat := tkV (offF f (tcO f 1))
def tcF (f : Bf) : Bf := offF f (tcO f 1 + tkL (offF f (tcO f 1)))
def tcU (f : Bf) : Nat := tkV (offF f (tcO f 2))
def tcG (f : Bf) : Bf := offF f (tcO f 2 + tkL (offF f (tcO f 2)))
/-- all n bytes are a command -/
def tcK (n : Nat) (f : Bf) : Prop := fiE (tcS n f) 3 = 0 ∧ n - tcO f 3 = 0 ∧ chkE (puX f 0) (puX f 1) (puX f 2) (puX f 3) (puX f 4) (tcT f) (tcU f) = 0
abbrev comZ : Value := comV 0 0 0 0 0 (.slice none 0 0) (.slice none 0 0)
def tcP (n : Nat) (f : Bf) (w : World) (e : Ending) (w' : World) : Prop :=
  (¬ tcK n f ∧ e = .returned (.tuple #[comZ, .int .i64 80]) ∧ Below w.heap.size w w') ∨
  (tcK n f ∧ ∃ A c A' c', e = .returned (.tuple #[comV (puX f 0 : Nat) (puX f 1 : Nat) (puX f 2 : Nat) (puX f 3 : Nat) (puX f 4 : Nat) (.slice A (tcT f) c) (.slice A' (tcU f) c'), .int .i64 0]) ∧ Sl w' w'.heap.size A (tcT f) c (tcF f) ∧ Sl w' w'.heap.size A' (tcU f) c' (tcG f) ∧ Below w.heap.size w w')
section
variable (w W : World) (f : Bf)
abbrev tcR : World → Prop := Rs w W (fun k => k = w.heap.size + 1)
def tcI0 (w' : World) : Prop := tcR w W w' ∧ row w' (w.heap.size + 1) = some #[.int .i64 0, .int .i64 0, .int .i64 0, .int .i64 0, .int .i64 0, .slice none 0 0, .slice none 0 0]
def tcI1 (w' : World) : Prop := tcR w W w' ∧ row w' (w.heap.size + 1) = some #[.int .i64 (puX f 0 : Nat), .int .i64 (puX f 1 : Nat), .int .i64 (puX f 2 : Nat), .int .i64 (puX f 3 : Nat), .int .i64 (puX f 4 : Nat), .slice none 0 0, .slice none 0 0]
def tcI2 (w' : World) : Prop := tcR w W w' ∧ ∃ A c, row w' (w.heap.size + 1) = some #[.int .i64 (puX f 0 : Nat), .int .i64 (puX f 1 : Nat), .int .i64 (puX f 2 : Nat), .int .i64 (puX f 3 : Nat), .int .i64 (puX f 4 : Nat), .slice A (tcT f) c, .slice none 0 0] ∧
  Sl w' w'.heap.size A (tcT f) c (tcF f) ∧ Off w.heap.size (tcT f) A ∧ Off (w.heap.size + 1) (tcT f) A
def tcI3 (w' : World) : Prop := tcR w W w' ∧ ∃ A c A' c', row w' (w.heap.size + 1) = some #[.int .i64 (puX f 0 : Nat), .int .i64 (puX f 1 : Nat), .int .i64 (puX f 2 : Nat), .int .i64 (puX f 3 : Nat), .int .i64 (puX f 4 : Nat), .slice A (tcT f) c, .slice A' (tcU f) c'] ∧
  Sl w' w'.heap.size A (tcT f) c (tcF f) ∧ Off w.heap.size (tcT f) A ∧ Sl w' w'.heap.size A' (tcU f) c' (tcG f) ∧ Off w.heap.size (tcU f) A'
def tcI (j : Nat) : World → Prop := if j = 0 then tcI0 w W else if j = 1 then tcI1 w W f else if j = 2 then tcI2 w W f else tcI3 w W f
end
theorem tcI_rs {w W : World} {f : Bf} {j : Nat} {w' : World} (h : tcI w W f j w') : tcR w W w' := by
  unfold tcI at h
  split at h
  · exact h.1
  · split at h
    · exact h.1
    · split at h
      · exact h.1
      · exact h.1
abbrev tcZ (w : World) : Nat → Option Addr → Prop := fun m A => Off (w.heap.size + 1) m A
end Go.Proofs.Ythokiohdeclmhaa.Oct

/-! ## WiI -/
/- Contract: wire.Reply. -/
namespace Go.Proofs.Ythokiohdeclmhaa.Oct
open Go.ChangeShapes Go.WideShapes Go.ChangeAt Go.RowKit
set_option linter.unusedVariables false

/-- a reply's three numbers -/
def repN (c n m : Int) : Nat → Int := fun j => if j = 0 then c else if j = 1 then n else m
abbrev repV (c n m : Int) (d : Value) : Value := .agg #[.int .i64 c, .int .i64 n, .int .i64 m, d]
/-- its writing -/
def repL (c n m : Int) (T : Nat) : Nat := nuL (repN c n m) 3 + txL T
def repF (c n m : Int) (T : Nat) (f : Bf) : Bf := catF (nuL (repN c n m) 3) (nuF (repN c n m) 3) (txF T f)
def repE (c n m : Int) (T : Nat) : Nat := fiE (th2 (nuE (repN c n m) 3) (txE T)) 2
set_option maxRecDepth 20000 in
set_option maxHeartbeats 8000000 in
theorem reply_any (x n m : Int) (T c : Nat) (A : Option Addr) (f : Bf) (w : World) (hf : Sl w w.heap.size A T c f) (hb : ∀ j, -9223372036854775808 ≤ repN x n m j ∧ repN x n m j < 9223372036854775808) :
    Calls Try.prog 44 #[repV x n m (.slice A T c)] w (ptP (repE x n m T) 0 (repL x n m T) nF (repF x n m T f) w) := by
  have R0 := Lib.hid (show row (w.alloc (.cells #[.int .i64 x, .int .i64 n, .int .i64 m, .slice A T c] 31)) w.heap.size = some #[.int .i64 x, .int .i64 n, .int .i64 m, .slice A T c] from row_alloc_at _ _ _ _ rfl)
  have B0 := Lib.hid (show Below w.heap.size w (w.alloc (.cells #[.int .i64 x, .int .i64 n, .int .i64 m, .slice A T c] 31)) from (Below.refl _ _).alloc (by simp) _)
  have hz0 : w.heap.size ≤ (w.alloc (.cells #[.int .i64 x, .int .i64 n, .int .i64 m, .slice A T c] 31)).heap.size := by simp
  have HF := Lib.hid ((hf.below B0.out).more hz0)
  have HB := Lib.hid hb
  obtain ⟨E, hE⟩ : ∃ E, E = repE x n m T := ⟨_, rfl⟩
  rw [← hE]
  have HE := Lib.hid hE
  clear hf hb hE
  go_enter Try.func44, Try.ntmps44
  go_wp2_with fail
  refine flow_seen [([0, 1, 2, 3, 4, 5, 8, 9], 6, false), ([], 7, false), ([], 10, true), ([], 11, true), ([], 12, true)] [13, 14, 15, 16] (by kernel_rfl) (by kernel_rfl) (fun _ _ _ _ _ h => h) fun Z => ?_
  have R2 := carry Z.below R0.out
  have B2 := Lib.hid (onto B0.out hz0 Z.below)
  have F2 := Lib.hid ((HF.out.below Z.below).more Z.below.size)
  clear R0 B0 hz0 HF
  obtain ⟨w2, hw2⟩ : ∃ w2, w2 = Z.val := ⟨_, rfl⟩
  rw [← hw2] at R2 B2 F2 ⊢
  clear hw2 Z
  have cc := fun x : After w2 => cells4 (After.row R2 x)
  simp only [wpFs, pk, List.getElem?_cons_zero, List.getElem?_cons_succ]
  repeat (go_big_quiet_step (fail))
  refine wpQuiet_nil ?_
  clear cc R2
  go_wp2_with fail
  have bx := (Below.refl w2.heap.size w2).alloc (Nat.le_refl _) (.cells #[.int .i64 x, .int .i64 n, .int .i64 m] 3)
  refine ⟨.inr bx, ?_⟩
  have r3 : row (w2.alloc (.cells #[.int .i64 x, .int .i64 n, .int .i64 m] 3)) w2.heap.size = some #[.int .i64 x, .int .i64 n, .int .i64 m] := row_alloc_at _ _ _ _ rfl
  have hz3 : (w2.alloc (.cells #[.int .i64 x, .int .i64 n, .int .i64 m] 3)).heap.size = w2.heap.size + 1 := by simp
  have F3 := Lib.hid ((F2.out.below bx).more (by omega : w2.heap.size ≤ (w2.alloc (.cells #[.int .i64 x, .int .i64 n, .int .i64 m] 3)).heap.size))
  have B3 := Lib.hid (onto B2.out B2.out.size bx)
  obtain ⟨w3, hw3⟩ : ∃ w3, w3 = w2.alloc (.cells #[.int .i64 x, .int .i64 n, .int .i64 m] 3) := ⟨_, rfl⟩
  rw [← hw3] at r3 hz3 F3 B3 ⊢
  have H3 := Lib.hid (mknums_any 3 3 (some ⟨w2.heap.size, 0, none⟩) (repN x n m) w3 (slG_row r3 (by omega) (Nat.le_refl _) fun j hj => by
    have : j = 0 ∨ j = 1 ∨ j = 2 := by omega
    rcases this with rfl | rfl | rfl <;> rfl) (fun j _ => HB.out j) (by omega) (by omega))
  clear hw3 bx r3 hz3 F2 B2
  show wpQuiet _ _ _ _ _ _
  refine wpQuiet_nil ?_
  go_wp2_with fail
  refine H3.out.mono ?_
  rintro e w4 ⟨v1, rfl, -, hp1, hb4⟩
  obtain ⟨g1, q1, hv1⟩ := hp1.shape
  subst hv1
  have P1 := Lib.hid hp1
  have F4 := Lib.hid ((F3.out.below hb4).more hb4.size)
  have B4 := Lib.hid (onto B3.out B3.out.size hb4)
  go_wp2_with fail
  refine ⟨.inr hb4, ?_⟩
  clear hp1 hb4 H3 F3 B3
  have H4 := Lib.hid (mktext_any T c A f w4 F4.out)
  show wpQuiet _ _ _ _ _ _
  refine wpQuiet_nil ?_
  go_wp2_with fail
  refine H4.out.mono ?_
  rintro e w6 ⟨v2, rfl, -, hp2, hb6⟩
  obtain ⟨g2, q2, hv2⟩ := hp2.shape
  subst hv2
  have P2 := Lib.hid hp2
  have P1' := Lib.hid (P1.out.below hb6)
  have B6 := Lib.hid (onto B4.out B4.out.size hb6)
  go_wp2_with fail
  refine ⟨.inl trivial, ?_⟩
  clear hp2 hb6 H4 F4 B4 P1
  show wpQuiet _ _ _ _ _ _
  refine wpQuiet_nil ?_
  go_wp2_with fail
  have bx := (Below.refl w6.heap.size w6).alloc (Nat.le_refl _) (.cells #[.func (.func g1) #[] #[q1], .func (.func g2) #[] #[q2]] 91)
  refine ⟨.inl trivial, ?_⟩
  have r7 : row (w6.alloc (.cells #[.func (.func g1) #[] #[q1], .func (.func g2) #[] #[q2]] 91)) w6.heap.size = some #[.func (.func g1) #[] #[q1], .func (.func g2) #[] #[q2]] := row_alloc_at _ _ _ _ rfl
  have hz7 : (w6.alloc (.cells #[.func (.func g1) #[] #[q1], .func (.func g2) #[] #[q2]] 91)).heap.size = w6.heap.size + 1 := by simp
  have P1x := P1'.out.below bx
  have P2x := P2.out.below bx
  have B7 := Lib.hid (onto B6.out B6.out.size bx)
  obtain ⟨w7, hw7⟩ : ∃ w7, w7 = w6.alloc (.cells #[.func (.func g1) #[] #[q1], .func (.func g2) #[] #[q2]] 91) := ⟨_, rfl⟩
  rw [← hw7] at r7 hz7 P1x P2x B7 ⊢
  have hL9 := nuL_le (repN x n m) 3
  have H7 := encode_any 2 2 (some ⟨w6.heap.size, 0, none⟩) (th2 (.func (.func g1) #[] #[q1]) (.func (.func g2) #[] #[q2])) (th2 (nuE (repN x n m) 3) (txE T)) (th2 (nuL (repN x n m) 3) (txL T)) (th2 (nuF (repN x n m) 3) (txF T f)) w7
    (slG_row r7 (by omega) (Nat.le_refl _) fun j hj => by
      have : j = 0 ∨ j = 1 := by omega
      rcases this with rfl | rfl <;> rfl)
    (fun j hj => by
      have : j = 0 ∨ j = 1 := by omega
      rcases this with rfl | rfl
      · exact P1x
      · exact P2x)
    (fun j hj _ => by
      have : j = 0 ∨ j = 1 := by omega
      rcases this with rfl | rfl
      · simp [cuL]
      · rw [cu_th2_1]; omega) (by omega)
  obtain ⟨eL, eF⟩ := cu_th2 (nuL (repN x n m) 3) (txL T) (nuF (repN x n m) 3) (txF T f)
  rw [eL, eF] at H7
  have H7' := Lib.hid (show Calls Try.prog 51 #[.slice (some ⟨w6.heap.size, 0, none⟩) 2 2] w7 (ptP (repE x n m T) 0 (repL x n m T) nF (repF x n m T f) w7) from H7)
  clear hw7 bx r7 hz7 P1x P2x P1' P2 B6 H7 eL eF hL9
  rw [← HE.out] at H7'
  show wpQuiet _ _ _ _ _ _
  refine wpQuiet_nil ?_
  go_wp2_with fail
  refine H7'.out.mono ?_
  rintro e w8 (⟨hz, rfl, hb8⟩ | ⟨hz, v8, rfl, ho, hb8⟩)
  · have HZ := Lib.hid hz
    have B8 := Lib.hid (onto B7.out B7.out.size hb8)
    go_wp2_with fail
    refine ⟨.inl trivial, ?_⟩
    clear hz hb8 H7'
    show wpQuiet _ _ _ _ _ _
    repeat (go_big_quiet_step (fail))
    refine wpQuiet_nil ?_
    go_wp2_with fail
    exact bodyPost_ret (v := .tuple #[.slice none 0 0, .int .i64 E]) (by simp [results, Try.results44, go_sem]) rfl (.inl ⟨HZ.out, rfl, B8.out⟩)
  · have HZ := Lib.hid hz
    have O8 := Lib.hid ho
    have B8 := Lib.hid (onto B7.out B7.out.size hb8)
    go_wp2_with fail
    refine ⟨.inl trivial, ?_⟩
    clear hz ho hb8 H7'
    show wpQuiet _ _ _ _ _ _
    repeat (go_big_quiet_step (fail))
    refine wpQuiet_nil ?_
    go_wp2_with fail
    exact bodyPost_ret (v := .tuple #[v8, .int .i64 0]) (by simp [results, Try.results44, go_sem]) rfl (.inr ⟨HZ.out, _, rfl, O8.out.base B7.out.size, B8.out⟩)
end Go.Proofs.Ythokiohdeclmhaa.Oct

/-! ## WiV -/
/- Contract: wire.TakeReply. -/
namespace Go.Proofs.Ythokiohdeclmhaa.Oct
open Go.ChangeShapes Go.WideShapes Go.ChangeAt Go.RowKit
set_option linter.unusedVariables false

/-- where a reply's parts begin -/
def trO (f : Bf) : Nat → Nat := fun j => if j = 0 then 0 else if j = 1 then puO f 3 else txO f (puO f 3)
/-- their errors -/
def trS (n : Nat) (f : Bf) : Nat → Nat := th2 (puE n f 3) (ttE (n - trO f 1) 4096 (offF f (trO f 1)))
def trE (n : Nat) (f : Bf) : Nat := fiE (trS n f) 2
/-- its text -/
def trT (f : Bf) : Nat := tkV (offF f (trO f 1))
def trF (f : Bf) : Bf := offF f (trO f 1 + tkL (offF f (trO f 1)))
abbrev repZ : Value := repV 0 0 0 (.slice none 0 0)
def trP (n : Nat) (f : Bf) (w : World) (e : Ending) (w' : World) : Prop :=
  (trE n f ≠ 0 ∧ e = .returned (.tuple #[repZ, .slice none 0 0, .int .i64 (trE n f : Nat)]) ∧ Below w.heap.size w w') ∨
  (trE n f = 0 ∧ ∃ A c A' c', e = .returned (.tuple #[repV (puX f 0 : Nat) (puX f 1 : Nat) (puX f 2 : Nat) (.slice A (trT f) c), .slice A' (n - trO f 2) c', .int .i64 0]) ∧ Sl w' w'.heap.size A (trT f) c (trF f) ∧ Sl w' w'.heap.size A' (n - trO f 2) c' (offF f (trO f 2)) ∧ Below w.heap.size w w')
section
variable (w W : World) (f : Bf)
abbrev trR : World → Prop := Rs w W (fun k => k = w.heap.size ∨ k = w.heap.size + 1)
def trJ (w' : World) : Prop := trR w W w' ∧ ∃ cs, row w' w.heap.size = some cs ∧ cs.size = 4
def trI0 (w' : World) : Prop := trR w W w' ∧ row w' w.heap.size = some #[.int .i64 0, .int .i64 0, .int .i64 0, .slice none 0 0] ∧ row w' (w.heap.size + 1) = some #[.int .i64 0]
def trI1 (w' : World) : Prop := trR w W w' ∧ row w' w.heap.size = some #[.int .i64 0, .int .i64 (puX f 1 : Nat), .int .i64 (puX f 2 : Nat), .slice none 0 0] ∧ row w' (w.heap.size + 1) = some #[.int .i64 (puX f 0 : Nat)]
def trI2 (w' : World) : Prop := trR w W w' ∧ ∃ A c, row w' w.heap.size = some #[.int .i64 0, .int .i64 (puX f 1 : Nat), .int .i64 (puX f 2 : Nat), .slice A (trT f) c] ∧ row w' (w.heap.size + 1) = some #[.int .i64 (puX f 0 : Nat)] ∧
  Sl w' w'.heap.size A (trT f) c (trF f) ∧ Off w.heap.size (trT f) A
def trI (j : Nat) : World → Prop := if j = 0 then trI0 w W else if j = 1 then trI1 w W f else trI2 w W f
end
theorem trI_rs {w W : World} {f : Bf} {j : Nat} {w' : World} (h : trI w W f j w') : trR w W w' := by
  unfold trI at h
  split at h
  · exact h.1
  · split at h
    · exact h.1
    · exact h.1
abbrev trZ (w : World) : Nat → Option Addr → Prop := fun m A => Off w.heap.size m A ∧ Off (w.heap.size + 1) m A
theorem size4 {cs : Array Value} (h : cs.size = 4) : ∃ a b c d, cs = #[a, b, c, d] := by
  obtain ⟨l⟩ := cs
  rcases l with _ | ⟨a, _ | ⟨b, _ | ⟨c, _ | ⟨d, _ | ⟨x, r⟩⟩⟩⟩⟩
  all_goals first | (simp at h; done) | skip
  exact ⟨a, b, c, d, rfl⟩
end Go.Proofs.Ythokiohdeclmhaa.Oct

/-! ## WiX -/
/- Contract: wire.TakeEntry. -/
namespace Go.Proofs.Ythokiohdeclmhaa.Oct
open Go.ChangeShapes Go.WideShapes Go.ChangeAt Go.RowKit
set_option linter.unusedVariables false

/-- where an entry's parts begin -/
def teO (f : Bf) : Nat → Nat := fun j => if j = 0 then 0 else if j = 1 then puO f 2 else if j = 2 then txO f (puO f 2) else txO f (puO f 2) + tlO (offF f (txO f (puO f 2))) (tkV (offF f (txO f (puO f 2))))
/-- their errors -/
def teS (n : Nat) (f : Bf) : Nat → Nat := th3 (puE n f 2) (ttE (n - teO f 1) 4096 (offF f (teO f 1))) (tllE (n - teO f 2) 7 (offF f (teO f 2)))
/-- its text, its members -/
def teT (f : Bf) : Nat := tkV (offF f (teO f 1))
def teF (f : Bf) : Bf := offF f (teO f 1 + tkL (offF f (teO f 1)))
def teM (f : Bf) : Nat := tkV (offF f (teO f 2))
def teX (f : Bf) : Nat → Int := fun i => tlX (offF f (teO f 2)) i
/-- all n bytes are an entry -/
def teK (n : Nat) (f : Bf) : Prop := fiE (teS n f) 3 = 0 ∧ n - teO f 3 = 0 ∧ enE (puX f 0 : Nat) (puX f 1 : Nat) (teX f) (teT f) (teM f) = 0
abbrev entZ : Value := entV 0 0 (.slice none 0 0) (.slice none 0 0)
/-- bytes that are in no block below N -/
def Nw (N n : Nat) (A : Option Addr) : Prop := ∀ k, k < N → Off k n A
/-- the same, with where the text and the members lie -/
def teR (n : Nat) (f : Bf) (w : World) (e : Ending) (w' : World) : Prop :=
  (¬ teK n f ∧ e = .returned (.tuple #[entZ, .int .i64 80]) ∧ Below w.heap.size w w') ∨
  (teK n f ∧ ∃ A c A' c', e = .returned (.tuple #[entV (puX f 0 : Nat) (puX f 1 : Nat) (.slice A (teT f) c) (.slice A' (teM f) c'), .int .i64 0]) ∧ Sl w' w'.heap.size A (teT f) c (teF f) ∧ SlG w' w'.heap.size A' (teM f) c' (iV (teX f)) ∧ Below w.heap.size w w' ∧ Nw w.heap.size (teT f) A ∧ (∀ a, A' = some a → w.heap.size ≤ a.block))
def teP (n : Nat) (f : Bf) (w : World) (e : Ending) (w' : World) : Prop :=
  (¬ teK n f ∧ e = .returned (.tuple #[entZ, .int .i64 80]) ∧ Below w.heap.size w w') ∨
  (teK n f ∧ ∃ A c A' c', e = .returned (.tuple #[entV (puX f 0 : Nat) (puX f 1 : Nat) (.slice A (teT f) c) (.slice A' (teM f) c'), .int .i64 0]) ∧ Sl w' w'.heap.size A (teT f) c (teF f) ∧ SlG w' w'.heap.size A' (teM f) c' (iV (teX f)) ∧ Below w.heap.size w w')
section
variable (w W : World) (f : Bf)
def teI0 (w' : World) : Prop := tcR w W w' ∧ row w' (w.heap.size + 1) = some #[.int .i64 0, .int .i64 0, .slice none 0 0, .slice none 0 0]
def teI1 (w' : World) : Prop := tcR w W w' ∧ row w' (w.heap.size + 1) = some #[.int .i64 (puX f 0 : Nat), .int .i64 (puX f 1 : Nat), .slice none 0 0, .slice none 0 0]
def teI2 (w' : World) : Prop := tcR w W w' ∧ ∃ A c, row w' (w.heap.size + 1) = some #[.int .i64 (puX f 0 : Nat), .int .i64 (puX f 1 : Nat), .slice A (teT f) c, .slice none 0 0] ∧
  Sl w' w'.heap.size A (teT f) c (teF f) ∧ Nw (w.heap.size + 1 + 1) (teT f) A
def teI3 (w' : World) : Prop := tcR w W w' ∧ ∃ A c A' c', row w' (w.heap.size + 1) = some #[.int .i64 (puX f 0 : Nat), .int .i64 (puX f 1 : Nat), .slice A (teT f) c, .slice A' (teM f) c'] ∧
  Sl w' w'.heap.size A (teT f) c (teF f) ∧ Nw (w.heap.size + 1) (teT f) A ∧ SlG w' w'.heap.size A' (teM f) c' (iV (teX f)) ∧ (∀ a, A' = some a → w.heap.size < a.block)
def teI (j : Nat) : World → Prop := if j = 0 then teI0 w W else if j = 1 then teI1 w W f else if j = 2 then teI2 w W f else teI3 w W f
end
theorem teI_rs {w W : World} {f : Bf} {j : Nat} {w' : World} (h : teI w W f j w') : tcR w W w' := by
  unfold teI at h
  split at h
  · exact h.1
  · split at h
    · exact h.1
    · split at h
      · exact h.1
      · exact h.1
end Go.Proofs.Ythokiohdeclmhaa.Oct

/-! ## WiR -/
/- Contracts: the reference's Command, Reply. -/
namespace Go.Proofs.Ythokiohdeclmhaa.Oct
open Go.ChangeShapes Go.WideShapes Go.ChangeAt Go.RowKit
set_option linter.unusedVariables false

theorem repE_neg {x n m : Int} {T : Nat} (h : x < 0 ∨ n < 0 ∨ m < 0) : repE x n m T = 1 := by
  have h1 : nuE (repN x n m) 3 = 1 := nuE_of_neg (by
    rcases h with h | h | h
    · exact ⟨0, by omega, h⟩
    · exact ⟨1, by omega, h⟩
    · exact ⟨2, by omega, h⟩)
  unfold repE
  have e := fi_first (E := th2 (nuE (repN x n m) 3) (txE T)) (n := 2) (j := 0) rfl (by omega) (by show nuE (repN x n m) 3 ≠ 0; omega)
  rw [e]
  exact h1
theorem repE_pos {x n m : Int} {T : Nat} (h0 : 0 ≤ x) (h1 : 0 ≤ n) (h2 : 0 ≤ m) : repE x n m T = txE T := by
  have h1 : nuE (repN x n m) 3 = 0 := nuE_of_pos fun j hj => by
    have : j = 0 ∨ j = 1 ∨ j = 2 := by omega
    rcases this with rfl | rfl | rfl
    · exact h0
    · exact h1
    · exact h2
  unfold repE
  exact fi_step (E := th2 (nuE (repN x n m) 3) (txE T)) (j := 1) ((fi_step (E := th2 (nuE (repN x n m) 3) (txE T)) (j := 0) rfl).trans h1)
set_option maxRecDepth 20000 in
set_option maxHeartbeats 8000000 in
theorem rreply_any (x n m : Int) (T c : Nat) (A : Option Addr) (f : Bf) (w : World) (hf : Sl w w.heap.size A T c f) (hb : ∀ j, -9223372036854775808 ≤ repN x n m j ∧ repN x n m j < 9223372036854775808) :
    Calls Try.prog 37 #[repV x n m (.slice A T c)] w (ptP (repE x n m T) 0 (repL x n m T) nF (repF x n m T f) w) := by
  have R0 := Lib.hid (show row (w.alloc (.cells #[.int .i64 x, .int .i64 n, .int .i64 m, .slice A T c] 31)) w.heap.size = some #[.int .i64 x, .int .i64 n, .int .i64 m, .slice A T c] from row_alloc_at _ _ _ _ rfl)
  have B0 := Lib.hid (show Below w.heap.size w (w.alloc (.cells #[.int .i64 x, .int .i64 n, .int .i64 m, .slice A T c] 31)) from (Below.refl _ _).alloc (by simp) _)
  have hz0 : w.heap.size ≤ (w.alloc (.cells #[.int .i64 x, .int .i64 n, .int .i64 m, .slice A T c] 31)).heap.size := by simp
  have HF := Lib.hid ((hf.below B0.out).more hz0)
  obtain ⟨E, hE⟩ : ∃ E, E = repE x n m T := ⟨_, rfl⟩
  rw [← hE]
  have HE := Lib.hid hE
  have HB0 := Lib.hid (hb 0)
  have HB1 := Lib.hid (hb 1)
  have HB2 := Lib.hid (hb 2)
  clear hf hb hE
  go_enter Try.func37, Try.ntmps37
  by_cases h0 : x < 0
  · have hd : decide (x < 0) = true := by simp; omega
    have F := Lib.hid (show E = 1 by rw [HE.out]; exact repE_neg (.inl h0))
    clear h0
    go_wp2_with fail
    exact bodyPost_ret (v := .tuple #[.slice none 0 0, .int .i64 1]) (by simp [results, Try.results37, go_sem]) rfl (.inl ⟨by rw [F.out]; omega, by rw [F.out]; rfl, B0.out⟩)
  · have hd : decide (x < 0) = false := by simp; omega
    by_cases h1 : n < 0
    · have hd1 : decide (n < 0) = true := by simp; omega
      have F := Lib.hid (show E = 1 by rw [HE.out]; exact repE_neg (.inr (.inl h1)))
      clear h0 h1
      go_wp2_with fail
      exact bodyPost_ret (v := .tuple #[.slice none 0 0, .int .i64 1]) (by simp [results, Try.results37, go_sem]) rfl (.inl ⟨by rw [F.out]; omega, by rw [F.out]; rfl, B0.out⟩)
    · have hd1 : decide (n < 0) = false := by simp; omega
      by_cases h2 : m < 0
      · have hd2 : decide (m < 0) = true := by simp; omega
        have F := Lib.hid (show E = 1 by rw [HE.out]; exact repE_neg (.inr (.inr h2)))
        clear h0 h1 h2
        go_wp2_with fail
        exact bodyPost_ret (v := .tuple #[.slice none 0 0, .int .i64 1]) (by simp [results, Try.results37, go_sem]) rfl (.inl ⟨by rw [F.out]; omega, by rw [F.out]; rfl, B0.out⟩)
      · have hd2 : decide (m < 0) = false := by simp; omega
        have HE2 := Lib.hid (show E = txE T by rw [HE.out]; exact repE_pos (by omega) (by omega) (by omega))
        by_cases hT : 4096 < T
        · have hdT : decide (4096 < (T : Int)) = true := by simp; omega
          have F := Lib.hid (show E = 2 by rw [HE2.out]; unfold txE; rw [if_pos hT])
          clear h0 h1 h2 hT
          go_wp2_with fail
          exact bodyPost_ret (v := .tuple #[.slice none 0 0, .int .i64 2]) (by simp [results, Try.results37, go_sem]) rfl (.inl ⟨by rw [F.out]; omega, by rw [F.out]; rfl, B0.out⟩)
        · have hdT : decide (4096 < (T : Int)) = false := by simp; omega
          have F := Lib.hid (show E = 0 by rw [HE2.out]; unfold txE; rw [if_neg hT])
          obtain ⟨a, rfl⟩ : ∃ a : Nat, x = a := ⟨x.toNat, by omega⟩
          obtain ⟨b, rfl⟩ : ∃ a : Nat, n = a := ⟨n.toNat, by omega⟩
          obtain ⟨d, rfl⟩ : ∃ a : Nat, m = a := ⟨m.toNat, by omega⟩
          have ha : a < 9223372036854775808 := by have := HB0.out.2; unfold repN at this; simp at this; omega
          have hb : b < 9223372036854775808 := by have := HB1.out.2; unfold repN at this; simp at this; omega
          have hdd : d < 9223372036854775808 := by have := HB2.out.2; unfold repN at this; simp at this; omega
          have hT4 : T ≤ 4096 := by omega
          clear h0 h1 h2 hT HB0 HB1 HB2 HE HE2 hd hd1 hd2
          have na : decide ((a : Int) < 0) = false := by simp
          have nb : decide ((b : Int) < 0) = false := by simp
          have nd : decide ((d : Int) < 0) = false := by simp
          have H1 := Lib.hid (rput_any a 0 0 none nF (w.alloc (.cells #[.int .i64 a, .int .i64 b, .int .i64 d, .slice A T c] 31)) (Sl.nothing _ _ _ _ _) (by omega) ha)
          go_wp2_with fail
          refine H1.out.mono ?_
          rintro e w1 ⟨v1, rfl, ho, hb1⟩
          rw [Nat.zero_add, catF_zero] at ho
          obtain ⟨A1, c1', hv1, hs1, -, -⟩ := ho.sl
          subst hv1
          have B1 := Lib.hid (onto B0.out hz0 hb1)
          have R1 := Lib.hid (carry hb1 R0.out)
          have F1 := Lib.hid ((HF.out.below hb1).more hb1.size)
          have hla := encL_le a
          have H2 := Lib.hid (rput_any b (encL a) c1' A1 (encF a) w1 hs1 (by omega) hb)
          clear ho hs1 hb1 H1 B0 R0 HF
          obtain ⟨c0, c1, c2, c3⟩ := cells4 R1.out
          go_wp2_with fail
          refine H2.out.mono ?_
          rintro e w2 ⟨v2, rfl, ho, hb2⟩
          obtain ⟨A2, c2', hv2, hs2, -, -⟩ := ho.sl
          subst hv2
          have B2 := Lib.hid (onto B1.out B1.out.size hb2)
          have R2 := Lib.hid (carry hb2 R1.out)
          have F2 := Lib.hid ((F1.out.below hb2).more hb2.size)
          have hlb := encL_le b
          have H3 := Lib.hid (rput_any d (encL a + encL b) c2' A2 _ w2 hs2 (by omega) hdd)
          clear ho hs2 hb2 H2 B1 R1 F1 c0 c1 c2 c3
          obtain ⟨c0, c1, c2, c3⟩ := cells4 R2.out
          go_wp2_with fail
          refine H3.out.mono ?_
          rintro e w3 ⟨v3, rfl, ho, hb3⟩
          obtain ⟨A3, c3', hv3, hs3, -, -⟩ := ho.sl
          subst hv3
          have B3 := Lib.hid (onto B2.out B2.out.size hb3)
          have R3 := Lib.hid (carry hb3 R2.out)
          have F3 := Lib.hid ((F2.out.below hb3).more hb3.size)
          have hld := encL_le d
          have H4 := Lib.hid (rputt_any (encL a + encL b + encL d) c3' T c A3 A _ f w3 hs3 F3.out (by omega) hT4)
          clear ho hs3 hb3 H3 B2 R2 F2 c0 c1 c2 c3
          obtain ⟨c0, c1, c2, c3⟩ := cells4 R3.out
          go_wp2_with fail
          refine H4.out.mono ?_
          rintro e w4 ⟨v4, rfl, ho, hb4⟩
          have B4 := Lib.hid (onto B3.out B3.out.size hb4)
          have O4 := Lib.hid (ho.base B3.out.size)
          clear ho hb4 H4 c0 c1 c2 c3
          go_wp2_with fail
          refine bodyPost_ret (v := .tuple #[v4, .int .i64 0]) (by simp [results, Try.results37, go_sem]) rfl (.inr ⟨F.out, _, rfl, ?_, B4.out⟩)
          rw [Nat.zero_add, catF_zero]
          have o := O4.out
          have e1 : nuL (repN (a : Int) b d) 3 = encL a + encL b + encL d := by
            show ((0 + encL (a : Int).toNat) + encL (b : Int).toNat) + encL (d : Int).toNat = _
            simp
          have e2 : nuF (repN (a : Int) b d) 3 = catF (encL a + encL b) (catF (encL a) (encF a) (encF b)) (encF d) := by
            show catF ((0 + encL (a : Int).toNat) + encL (b : Int).toNat) (catF (0 + encL (a : Int).toNat) (catF 0 nF (encF (a : Int).toNat)) (encF (b : Int).toNat)) (encF (d : Int).toNat) = _
            simp only [Int.toNat_natCast, Nat.zero_add, catF_zero]
          unfold repL repF
          rw [e1, e2]
          exact o
end Go.Proofs.Ythokiohdeclmhaa.Oct

/-! ## WiT -/
/- Contract: the reference's Entry. -/
namespace Go.Proofs.Ythokiohdeclmhaa.Oct
open Go.ChangeShapes Go.WideShapes Go.ChangeAt Go.RowKit
set_option linter.unusedVariables false

end Go.Proofs.Ythokiohdeclmhaa.Oct

/-! ## WiY -/
/- Contracts: the reference's TakeReply. -/
namespace Go.Proofs.Ythokiohdeclmhaa.Oct
open Go.ChangeShapes Go.WideShapes Go.ChangeAt Go.RowKit
set_option linter.unusedVariables false

/-- the j-th number that the reference takes -/
def rtkP (n : Nat) (f : Bf) (j : Nat) (w : World) (e : Ending) (w' : World) : Prop :=
  (puS n f j ≠ 0 ∧ e = .returned (.tuple #[.int .i64 0, .slice none 0 0, .int .i64 (puS n f j : Nat)]) ∧ Below w.heap.size w w') ∨
  (puS n f j = 0 ∧ ∃ A' c', e = .returned (.tuple #[.int .i64 (puX f j : Nat), .slice A' (n - puO f (j + 1)) c', .int .i64 0]) ∧ Sl w' w'.heap.size A' (n - puO f (j + 1)) c' (offF f (puO f (j + 1))) ∧ Below w.heap.size w w')
/-- a text at o that the reference takes -/
def rttP (n : Nat) (f : Bf) (o : Nat) (w : World) (e : Ending) (w' : World) : Prop :=
  (ttE (n - o) 4096 (offF f o) ≠ 0 ∧ e = .returned (.tuple #[.slice none 0 0, .slice none 0 0, .int .i64 (ttE (n - o) 4096 (offF f o) : Nat)]) ∧ Below w.heap.size w w') ∨
  (ttE (n - o) 4096 (offF f o) = 0 ∧ ∃ A c A' c', e = .returned (.tuple #[.slice A (tkV (offF f o)) c, .slice A' (n - txO f o) c', .int .i64 0]) ∧ Sl w' w'.heap.size A (tkV (offF f o)) c (offF f (o + tkL (offF f o))) ∧ (∀ k, k < w.heap.size → Off k (tkV (offF f o)) A) ∧ Sl w' w'.heap.size A' (n - txO f o) c' (offF f (txO f o)) ∧ (∀ k, k < w.heap.size → Off k (n - txO f o) A') ∧ Below w.heap.size w w')
end Go.Proofs.Ythokiohdeclmhaa.Oct

/-! ## WiN -/
/- What is written is read as it was, and what is read is written as it was: commands, replies, entries. -/
namespace Go.Proofs.Ythokiohdeclmhaa.Oct
open Go.ChangeShapes Go.WideShapes Go.ChangeAt Go.RowKit
set_option linter.unusedVariables false

theorem cuL_congr {L L' : Nat → Nat} : ∀ {j : Nat}, (∀ i, i < j → L i = L' i) → cuL L j = cuL L' j
  | 0, _ => rfl
  | j + 1, h => by simp only [cuL]; rw [cuL_congr (j := j) fun i hi => h i (by omega), h j (by omega)]
theorem cuF_congr {L L' : Nat → Nat} {F F' : Nat → Bf} : ∀ {j : Nat}, (∀ i, i < j → L i = L' i) → (∀ i, i < j → F i = F' i) → cuF L F j = cuF L' F' j
  | 0, _, _ => rfl
  | j + 1, h, h' => by simp only [cuF]; rw [cuL_congr (j := j) fun i hi => h i (by omega), cuF_congr (j := j) (fun i hi => h i (by omega)) (fun i hi => h' i (by omega)), h' j (by omega)]
theorem nuL_congr {x y : Nat → Int} {j : Nat} (h : ∀ i, i < j → x i = y i) : nuL x j = nuL y j := cuL_congr fun i hi => by rw [h i hi]
theorem nuF_congr {x y : Nat → Int} {j : Nat} (h : ∀ i, i < j → x i = y i) : nuF x j = nuF y j := cuF_congr (fun i hi => by rw [h i hi]) (fun i hi => by rw [h i hi])
theorem cat_pre {a b : Nat} {F G f : Bf} (h1 : ∀ i, i < a → F i = f i) (h2 : ∀ i, i < b → G i = offF f a i) : ∀ i, i < a + b → catF a F G i = f i := fun i hi => by
  unfold catF
  by_cases h : i < a
  · rw [if_pos h, h1 i h]
  · rw [if_neg h, h2 (i - a) (by omega)]
    unfold offF
    rw [show a + (i - a) = i by omega]
/- what is read, written -/
theorem once_nu {n : Nat} {f : Bf} : ∀ j, puE n f j = 0 → nuL (fun i => (puX f i : Nat)) j = puO f j ∧ ∀ i, i < puO f j → nuF (fun i => (puX f i : Nat)) j i = f i
  | 0, _ => ⟨rfl, fun i hi => by simp [puO] at hi⟩
  | j + 1, h => by
    obtain ⟨e1, e2⟩ := once_nu j (fi_all h j (by omega))
    obtain ⟨e3, e4⟩ := enc_tk (n := n - puO f j) (f := offF f (puO f j)) (fi_each h j (by omega))
    have k1 : nuL (fun i => (puX f i : Nat)) (j + 1) = puO f j + tkL (offF f (puO f j)) := by
      show cuL _ j + encL ((puX f j : Nat) : Int).toNat = _
      rw [show cuL (fun i => encL ((fun i => ((puX f i : Nat) : Int)) i).toNat) j = puO f j from e1, Int.toNat_natCast]
      exact congrArg (puO f j + ·) e3
    refine ⟨k1, ?_⟩
    show ∀ i, i < puO f j + tkL (offF f (puO f j)) → catF (cuL _ j) (cuF _ _ j) (encF ((puX f j : Nat) : Int).toNat) i = f i
    rw [show cuL (fun i => encL ((fun i => ((puX f i : Nat) : Int)) i).toNat) j = puO f j from e1, Int.toNat_natCast]
    exact cat_pre e2 fun i hi => e4 i hi
theorem once_tx {n : Nat} {m : Int} {f : Bf} (h : ttE n m f = 0) : txL (tkV f) = tkL f + tkV f ∧ ∀ i, i < tkL f + tkV f → txF (tkV f) (offF f (tkL f)) i = f i := by
  obtain ⟨h0, _, _⟩ := tt_le h
  obtain ⟨e3, e4⟩ := enc_tk h0
  refine ⟨by unfold txL; rw [e3], ?_⟩
  unfold txF
  rw [e3]
  exact cat_pre e4 fun i hi => rfl
theorem once_ls' {n : Nat} {m : Int} {f : Bf} (h : tllE n m f = 0) : lsL (natS fun i => (tlX f i : Nat)) (tkV f) (tkV f) = tlO f (tkV f) ∧ ∀ i, i < tlO f (tkV f) → lsF (natS fun i => (tlX f i : Nat)) (tkV f) (tkV f) i = f i := by
  obtain ⟨h0, _, h2⟩ := tll_ok h
  have e : (natS fun i => ((tlX f i : Nat) : Int)) = tlX f := by funext i; unfold natS; exact Int.toNat_natCast _
  rw [e]
  exact once_ls h0 (tkV f) h2
/-- the five numbers as they were read -/
theorem comN_pu (f : Bf) (j : Nat) (hj : j < 5) : comN (puX f 0 : Nat) (puX f 1 : Nat) (puX f 2 : Nat) (puX f 3 : Nat) (puX f 4 : Nat) j = (puX f j : Nat) := by
  have : j = 0 ∨ j = 1 ∨ j = 2 ∨ j = 3 ∨ j = 4 := by omega
  rcases this with rfl | rfl | rfl | rfl | rfl <;> rfl
theorem repN_pu (f : Bf) (j : Nat) (hj : j < 3) : repN (puX f 0 : Nat) (puX f 1 : Nat) (puX f 2 : Nat) j = (puX f j : Nat) := by
  have : j = 0 ∨ j = 1 ∨ j = 2 := by omega
  rcases this with rfl | rfl | rfl <;> rfl
theorem entN_pu (f : Bf) (j : Nat) (hj : j < 2) : th2 ((puX f 0 : Nat) : Int) (puX f 1 : Nat) j = (puX f j : Nat) := by
  have : j = 0 ∨ j = 1 := by omega
  rcases this with rfl | rfl <;> rfl
theorem once_com {n : Nat} {f : Bf} (h : fiE (tcS n f) 3 = 0) : comL (puX f 0 : Nat) (puX f 1 : Nat) (puX f 2 : Nat) (puX f 3 : Nat) (puX f 4 : Nat) (tcT f) (tcU f) = tcO f 3 ∧
    (∀ i, i < tcO f 3 → comF (puX f 0 : Nat) (puX f 1 : Nat) (puX f 2 : Nat) (puX f 3 : Nat) (puX f 4 : Nat) (tcT f) (tcU f) (tcF f) (tcG f) i = f i) ∧ tcO f 3 ≤ n := by
  have q0 : puE n f 5 = 0 := fi_each h 0 (by omega)
  have q1 : ttE (n - tcO f 1) 4096 (offF f (tcO f 1)) = 0 := fi_each h 1 (by omega)
  have q2 : ttE (n - tcO f 2) 4096 (offF f (tcO f 2)) = 0 := fi_each h 2 (by omega)
  obtain ⟨a1, a2⟩ := once_nu 5 q0
  obtain ⟨b1, b2⟩ := once_tx q1
  obtain ⟨c1, c2⟩ := once_tx q2
  have l0 := puO_le 5 q0
  have l1 := (tt_le q1).2.2
  have l2 := (tt_le q2).2.2
  rw [← nuL_congr fun j hj => comN_pu f j hj] at a1
  rw [← nuF_congr fun j hj => comN_pu f j hj] at a2
  have o1 : tcO f 1 = puO f 5 := rfl
  have o2 : tcO f 2 = tcO f 1 + (tkL (offF f (tcO f 1)) + tkV (offF f (tcO f 1))) := rfl
  have o3 : tcO f 3 = tcO f 2 + (tkL (offF f (tcO f 2)) + tkV (offF f (tcO f 2))) := rfl
  rw [offF_offF] at b2 c2
  have e2 := cat_pre (F := nuF (comN (puX f 0 : Nat) (puX f 1 : Nat) (puX f 2 : Nat) (puX f 3 : Nat) (puX f 4 : Nat)) 5) a2 (fun i hi => b2 i hi)
  have e3 := cat_pre e2 (fun i hi => c2 i hi)
  unfold comL comF tcT tcU tcF tcG
  rw [a1, b1, c1]
  refine ⟨by omega, ?_, by omega⟩
  intro i hi
  exact e3 i (by omega)
theorem once_rep {n : Nat} {f : Bf} (h : trE n f = 0) : repL (puX f 0 : Nat) (puX f 1 : Nat) (puX f 2 : Nat) (trT f) = trO f 2 ∧
    (∀ i, i < trO f 2 → repF (puX f 0 : Nat) (puX f 1 : Nat) (puX f 2 : Nat) (trT f) (trF f) i = f i) ∧ trO f 2 ≤ n := by
  have q0 : puE n f 3 = 0 := fi_each h 0 (by omega)
  have q1 : ttE (n - trO f 1) 4096 (offF f (trO f 1)) = 0 := fi_each h 1 (by omega)
  obtain ⟨a1, a2⟩ := once_nu 3 q0
  obtain ⟨b1, b2⟩ := once_tx q1
  have l0 := puO_le 3 q0
  have l1 := (tt_le q1).2.2
  rw [← nuL_congr fun j hj => repN_pu f j hj] at a1
  rw [← nuF_congr fun j hj => repN_pu f j hj] at a2
  have o1 : trO f 1 = puO f 3 := rfl
  have o2 : trO f 2 = trO f 1 + (tkL (offF f (trO f 1)) + tkV (offF f (trO f 1))) := rfl
  rw [offF_offF] at b2
  have e2 := cat_pre (F := nuF (repN (puX f 0 : Nat) (puX f 1 : Nat) (puX f 2 : Nat)) 3) a2 (fun i hi => b2 i hi)
  unfold repL repF trT trF
  rw [a1, b1]
  refine ⟨by omega, ?_, by omega⟩
  intro i hi
  exact e2 i (by omega)
theorem once_ent {n : Nat} {f : Bf} (h : fiE (teS n f) 3 = 0) : entL (puX f 0 : Nat) (puX f 1 : Nat) (teX f) (teT f) (teM f) = teO f 3 ∧
    (∀ i, i < teO f 3 → entF (puX f 0 : Nat) (puX f 1 : Nat) (teX f) (teT f) (teM f) (teF f) i = f i) ∧ teO f 3 ≤ n := by
  have q0 : puE n f 2 = 0 := fi_each h 0 (by omega)
  have q1 : ttE (n - teO f 1) 4096 (offF f (teO f 1)) = 0 := fi_each h 1 (by omega)
  have q2 : tllE (n - teO f 2) 7 (offF f (teO f 2)) = 0 := fi_each h 2 (by omega)
  obtain ⟨a1, a2⟩ := once_nu 2 q0
  obtain ⟨b1, b2⟩ := once_tx q1
  obtain ⟨c1, c2⟩ := once_ls' q2
  have l0 := puO_le 2 q0
  have l1 := (tt_le q1).2.2
  have l2 := tlO_le (tll_ok q2).1 _ (tll_ok q2).2.2
  rw [← nuL_congr fun j hj => entN_pu f j hj] at a1
  rw [← nuF_congr fun j hj => entN_pu f j hj] at a2
  have o1 : teO f 1 = puO f 2 := rfl
  have o2 : teO f 2 = teO f 1 + (tkL (offF f (teO f 1)) + tkV (offF f (teO f 1))) := rfl
  have o3 : teO f 3 = teO f 2 + tlO (offF f (teO f 2)) (tkV (offF f (teO f 2))) := rfl
  rw [offF_offF] at b2
  have e2 := cat_pre (F := nuF (th2 ((puX f 0 : Nat) : Int) (puX f 1 : Nat)) 2) a2 (fun i hi => b2 i hi)
  have e3 := cat_pre e2 (fun i hi => c2 i hi)
  unfold entL entF teT teF teM teX
  rw [a1, b1, c1]
  refine ⟨by omega, ?_, by omega⟩
  intro i hi
  exact e3 i (by omega)
/- what is written, read -/
theorem back_nu {x : Nat → Int} {n c : Nat} {f : Bf} (hn : nuL x c ≤ n) (hx : ∀ i, i < c → 0 ≤ x i ∧ x i < 9223372036854775808) (hf : ∀ i, i < nuL x c → f i = nuF x c i) :
    ∀ j, j ≤ c → puE n f j = 0 ∧ puO f j = nuL x j ∧ ∀ i, i < j → ((puX f i : Nat) : Int) = x i := by
  intro j
  induction j with
  | zero => exact fun _ => ⟨rfl, rfl, fun i hi => by omega⟩
  | succ j ih =>
    intro hj
    obtain ⟨i1, i2, i3⟩ := ih (by omega)
    have hm : nuL x (j + 1) ≤ nuL x c := by
      have h := cu_mono (fun i => encL (x i).toNat) (j + 1) (c - (j + 1))
      rw [show j + 1 + (c - (j + 1)) = c by omega] at h
      exact h
    have hstep : nuL x (j + 1) = nuL x j + encL (x j).toNat := rfl
    obtain ⟨q1, q2, q3⟩ := tk_enc (x j).toNat (by have := hx j (by omega); omega) (n - nuL x j) (offF f (nuL x j)) (by omega) (fun i hi => by
      unfold offF
      rw [hf _ (by omega)]
      exact cu_block (fun i => encL (x i).toNat) (fun i => encF (x i).toNat) j c i (by omega) hi)
    rw [← i2] at q1 q2 q3
    refine ⟨(fi_step i1).trans q1, ?_, fun i hi => ?_⟩
    · show puO f j + tkL (offF f (puO f j)) = _
      rw [q3, i2, hstep]
    · by_cases h : i = j
      · subst h
        have hb := hx i (by omega)
        show ((tkV (offF f (puO f i)) : Nat) : Int) = _
        rw [q2]
        omega
      · exact i3 i (by omega)
theorem back_tx {T n : Nat} {t f : Bf} (hn : txL T ≤ n) (hT : T ≤ 4096) (hf : ∀ i, i < txL T → f i = txF T t i) : ttE n 4096 f = 0 ∧ tkV f = T ∧ tkL f = encL T ∧ ∀ i, i < T → offF f (tkL f) i = t i := by
  unfold txL at hn hf
  obtain ⟨q1, q2, q3⟩ := tk_enc T (by omega) n f (by omega) (fun i hi => by rw [hf i (by omega)]; unfold txF catF; rw [if_pos hi])
  refine ⟨?_, q2, q3, fun i hi => ?_⟩
  · unfold ttE
    rw [if_neg (fun h => h q1), q2, q3, if_neg (by omega), if_neg (by omega)]
  · rw [q3]
    unfold offF
    rw [hf _ (by omega)]
    unfold txF catF
    rw [if_neg (by omega), show encL T + i - encL T = i by omega]
theorem cat_left {a : Nat} {F G f : Bf} {b : Nat} (h : ∀ i, i < a + b → f i = catF a F G i) : ∀ i, i < a → f i = F i := fun i hi => by rw [h i (by omega)]; unfold catF; rw [if_pos hi]
theorem cat_right {a : Nat} {F G f : Bf} {b : Nat} (h : ∀ i, i < a + b → f i = catF a F G i) : ∀ i, i < b → offF f a i = G i := fun i hi => by
  unfold offF
  rw [h _ (by omega)]
  unfold catF
  rw [if_neg (by omega), show a + i - a = i by omega]
theorem back_com {k s q i n : Int} {T U m : Nat} {d b f : Bf} (hc : chkE k s q i n T U = 0) (hb : ∀ j, -9223372036854775808 ≤ comN k s q i n j ∧ comN k s q i n j < 9223372036854775808) (hm : comL k s q i n T U = m) (hf : ∀ j, j < m → f j = comF k s q i n T U d b j) :
    tcK m f ∧ ((puX f 0 : Nat) : Int) = k ∧ ((puX f 1 : Nat) : Int) = s ∧ ((puX f 2 : Nat) : Int) = q ∧ ((puX f 3 : Nat) : Int) = i ∧ ((puX f 4 : Nat) : Int) = n ∧ tcT f = T ∧ tcU f = U ∧ (∀ j, j < T → tcF f j = d j) ∧ ∀ j, j < U → tcG f j = b j := by
  obtain ⟨p0, p1, p2, p3, p4, pT, pU⟩ := chk_ok hc
  unfold comL at hm
  unfold comF at hf
  rw [← hm] at hf
  have f1 := cat_left hf
  have f3 := cat_right hf
  have f2 := cat_right f1
  have f0 := cat_left f1
  obtain ⟨e1, e2, e3⟩ := back_nu (n := m) (by omega) (fun j hj => by
    refine ⟨?_, (hb j).2⟩
    have : j = 0 ∨ j = 1 ∨ j = 2 ∨ j = 3 ∨ j = 4 := by omega
    rcases this with rfl | rfl | rfl | rfl | rfl
    · exact p0
    · exact p1
    · exact p2
    · exact p3
    · exact p4) f0 5 (Nat.le_refl _)
  have o1 : tcO f 1 = nuL (comN k s q i n) 5 := e2
  rw [← o1] at f2 f3 hm
  obtain ⟨g1, g2, g3, g4⟩ := back_tx (n := m - tcO f 1) (by omega) (by omega) f2
  have o2 : tcO f 2 = tcO f 1 + txL T := by
    show tcO f 1 + (tkL (offF f (tcO f 1)) + tkV (offF f (tcO f 1))) = _
    rw [g2, g3]; rfl
  rw [← o2] at f3 hm
  obtain ⟨h1, h2, h3, h4⟩ := back_tx (n := m - tcO f 2) (by omega) (by omega) f3
  have o3 : tcO f 3 = tcO f 2 + txL U := by
    show tcO f 2 + (tkL (offF f (tcO f 2)) + tkV (offF f (tcO f 2))) = _
    rw [h2, h3]; rfl
  have x0 : ((puX f 0 : Nat) : Int) = k := e3 0 (by omega)
  have x1 : ((puX f 1 : Nat) : Int) = s := e3 1 (by omega)
  have x2 : ((puX f 2 : Nat) : Int) = q := e3 2 (by omega)
  have x3 : ((puX f 3 : Nat) : Int) = i := e3 3 (by omega)
  have x4 : ((puX f 4 : Nat) : Int) = n := e3 4 (by omega)
  have xT : tcT f = T := g2
  have xU : tcU f = U := h2
  refine ⟨⟨fi_zero fun j hj => ?_, by omega, by rw [x0, x1, x2, x3, x4, xT, xU]; exact hc⟩, x0, x1, x2, x3, x4, xT, xU, fun j hj => ?_, fun j hj => ?_⟩
  · have : j = 0 ∨ j = 1 ∨ j = 2 := by omega
    rcases this with rfl | rfl | rfl
    · exact e1
    · exact g1
    · exact h1
  · have := g4 j hj
    rw [offF_offF] at this
    exact this
  · have := h4 j hj
    rw [offF_offF] at this
    exact this
theorem back_rep {x n m : Int} {T M : Nat} {d f : Bf} (hc : repE x n m T = 0) (hb : ∀ j, -9223372036854775808 ≤ repN x n m j ∧ repN x n m j < 9223372036854775808) (hM : repL x n m T ≤ M) (hf : ∀ j, j < repL x n m T → f j = repF x n m T d j) :
    trE M f = 0 ∧ ((puX f 0 : Nat) : Int) = x ∧ ((puX f 1 : Nat) : Int) = n ∧ ((puX f 2 : Nat) : Int) = m ∧ trT f = T ∧ (∀ j, j < T → trF f j = d j) ∧ trO f 2 = repL x n m T := by
  have c0 : nuE (repN x n m) 3 = 0 := fi_each (E := th2 (nuE (repN x n m) 3) (txE T)) hc 0 (by omega)
  have c1 : txE T = 0 := fi_each (E := th2 (nuE (repN x n m) 3) (txE T)) hc 1 (by omega)
  have hT : T ≤ 4096 := by
    unfold txE at c1
    split at c1
    · omega
    · omega
  have hp : ∀ j, j < 3 → 0 ≤ repN x n m j := fun j hj => by
    have := fi_each c0 j hj
    unfold neE at this
    split at this
    · omega
    · omega
  unfold repL at hM hf ⊢
  unfold repF at hf
  have f0 := cat_left hf
  have f1 := cat_right hf
  obtain ⟨e1, e2, e3⟩ := back_nu (n := M) (by omega) (fun j hj => ⟨hp j hj, (hb j).2⟩) f0 3 (Nat.le_refl _)
  have o1 : trO f 1 = nuL (repN x n m) 3 := e2
  rw [← o1] at f1 hM ⊢
  obtain ⟨g1, g2, g3, g4⟩ := back_tx (n := M - trO f 1) (by omega) hT f1
  have o2 : trO f 2 = trO f 1 + txL T := by
    show trO f 1 + (tkL (offF f (trO f 1)) + tkV (offF f (trO f 1))) = _
    rw [g2, g3]; rfl
  refine ⟨fi_zero fun j hj => ?_, e3 0 (by omega), e3 1 (by omega), e3 2 (by omega), g2, fun j hj => ?_, o2⟩
  · have : j = 0 ∨ j = 1 := by omega
    rcases this with rfl | rfl
    · exact e1
    · exact g1
  · have := g4 j hj
    rw [offF_offF] at this
    exact this
theorem back_ent {t k : Int} {x : Nat → Int} {T n m : Nat} {d f : Bf} (hc : enE t k x T n = 0) (hb : ∀ j, -9223372036854775808 ≤ th2 t k j ∧ th2 t k j < 9223372036854775808) (hx : ∀ i, i < n → -9223372036854775808 ≤ x i ∧ x i < 9223372036854775808) (hm : entL t k x T n = m) (hf : ∀ j, j < m → f j = entF t k x T n d j) :
    teK m f ∧ ((puX f 0 : Nat) : Int) = t ∧ ((puX f 1 : Nat) : Int) = k ∧ teT f = T ∧ teM f = n ∧ (∀ j, j < T → teF f j = d j) ∧ ∀ j, j < n → teX f j = x j := by
  obtain ⟨p0, p1, p2, pT, pn⟩ := ent_ok hc
  have hp : ∀ j, j < n → 0 ≤ x j := fun j hj => by
    have := fi_each p2 j hj
    unfold neE at this
    split at this
    · omega
    · omega
  unfold entL at hm
  unfold entF at hf
  rw [← hm] at hf
  have f1 := cat_left hf
  have f3 := cat_right hf
  have f2 := cat_right f1
  have f0 := cat_left f1
  obtain ⟨e1, e2, e3⟩ := back_nu (n := m) (by omega) (fun j hj => by
    refine ⟨?_, (hb j).2⟩
    have : j = 0 ∨ j = 1 := by omega
    rcases this with rfl | rfl
    · exact p0
    · exact p1) f0 2 (Nat.le_refl _)
  have o1 : teO f 1 = nuL (th2 t k) 2 := e2
  rw [← o1] at f2 f3 hm
  obtain ⟨g1, g2, g3, g4⟩ := back_tx (n := m - teO f 1) (by omega) (by omega) f2
  have o2 : teO f 2 = teO f 1 + txL T := by
    show teO f 1 + (tkL (offF f (teO f 1)) + tkV (offF f (teO f 1))) = _
    rw [g2, g3]; rfl
  rw [← o2] at f3 hm
  have hxn : ∀ i, i < n → natS x i < 9223372036854775808 := fun i hi => by have := hx i hi; have := hp i hi; unfold natS; omega
  obtain ⟨h1, h2, h3⟩ := back_list (x := natS x) (c := n) (n := m - teO f 2) (f := offF f (teO f 2)) (by omega) (by omega) hxn f3
  obtain ⟨h4, h5, h6⟩ := h3 n (Nat.le_refl _)
  have o3 : teO f 3 = teO f 2 + lsL (natS x) n n := by
    show teO f 2 + tlO (offF f (teO f 2)) (tkV (offF f (teO f 2))) = _
    rw [h2, h5]
  have x0 : ((puX f 0 : Nat) : Int) = t := e3 0 (by omega)
  have x1 : ((puX f 1 : Nat) : Int) = k := e3 1 (by omega)
  have xT : teT f = T := g2
  have xn : teM f = n := h2
  have xX : ∀ j, j < n → teX f j = x j := fun j hj => by
    show ((tlX (offF f (teO f 2)) j : Nat) : Int) = x j
    rw [h6 j hj]
    have := hp j hj
    unfold natS
    omega
  have q2 : tllE (m - teO f 2) 7 (offF f (teO f 2)) = 0 := by
    unfold tllE
    rw [if_neg (fun h => h h1), h2, if_neg (by omega)]
    exact h4
  have xE : nuE (teX f) n = 0 := nuE_of_pos fun j hj => by rw [xX j hj]; exact hp j hj
  refine ⟨⟨fi_zero fun j hj => ?_, by omega, ?_⟩, x0, x1, xT, xn, fun j hj => ?_, xX⟩
  · have : j = 0 ∨ j = 1 ∨ j = 2 := by omega
    rcases this with rfl | rfl | rfl
    · exact e1
    · exact g1
    · exact q2
  · rw [x0, x1, xT, xn]
    unfold enE at hc ⊢
    rw [xE]
    rw [p2] at hc
    exact hc
  · have := g4 j hj
    rw [offF_offF] at this
    exact this
end Go.Proofs.Ythokiohdeclmhaa.Oct

/-! ## WiZ -/
/- Contract: the reference's TakeEntry. -/
namespace Go.Proofs.Ythokiohdeclmhaa.Oct
open Go.ChangeShapes Go.WideShapes Go.ChangeAt Go.RowKit
set_option linter.unusedVariables false

theorem str_eqN {n m : Nat} {p q : Bf} (h : n ≠ m) : strOf n p ≠ strOf m q := fun e => h (by
  have := congrArg ByteArray.size e
  rw [str_size, str_size] at this
  exact this)
theorem str_nelN {n m : Nat} {p q : Bf} (h : n ≠ m) : ((strOf n p).toList == (strOf m q).toList) = false := by
  rw [beq_eq_false_iff_ne]
  intro e
  rw [ByteArray.toList_eq, ByteArray.toList_eq] at e
  refine str_eqN h ?_ (p := p) (q := q)
  generalize strOf n p = x at e
  generalize strOf m q = y at e
  cases x; cases y
  simp_all
end Go.Proofs.Ythokiohdeclmhaa.Oct

/-! ## Wia -/
/- Contract: the reference's TakeCommand. -/
namespace Go.Proofs.Ythokiohdeclmhaa.Oct
open Go.ChangeShapes Go.WideShapes Go.ChangeAt Go.RowKit
set_option linter.unusedVariables false

/-- the first j numbers, as a list of values -/
def puL (f : Bf) (j : Nat) : List Value := (List.range j).map fun i => .int .i64 (puX f i : Nat)
theorem puL_step (f : Bf) (j : Nat) : puL f j ++ [.int .i64 (puX f j : Nat)] = puL f (j + 1) := by unfold puL; rw [List.range_succ, List.map_append]; rfl
theorem puL_nth (f : Bf) (j i : Nat) (h : i < j) : nth (puL f j) i = .int .i64 (puX f i : Nat) := by unfold nth puL; simp [h]
/-- what the reference's TakeCommand knows on its way -/
structure RcI (n : Nat) (f : Bf) (w : World) (j : Nat) (v r : Value) (wr : World) : Prop where
  b : Below w.heap.size w wr
  ok : puE n f j = 0
  rb : row wr w.heap.size = some #[.int .i64 0, .int .i64 0, .int .i64 0, .int .i64 0, .int .i64 0, .slice none 0 0, .slice none 0 0]
  rz : row wr (w.heap.size + 1) = some #[.int .i64 0, .int .i64 0, .int .i64 0, .int .i64 0, .int .i64 0, .slice none 0 0, .slice none 0 0]
  x : ∃ A c, r = .slice A (n - puO f j) c ∧ Sl wr wr.heap.size A (n - puO f j) c (offF f (puO f j))
  l : wr.ownsRow (w.heap.size + 1 + 1) 3 1 v j (puL f j)
end Go.Proofs.Ythokiohdeclmhaa.Oct

/-! ## Wib -/
/- Contracts: SameCommand, SameReply, SameEntry. -/
namespace Go.Proofs.Ythokiohdeclmhaa.Oct
open Go.ChangeShapes Go.WideShapes Go.ChangeAt Go.RowKit
set_option linter.unusedVariables false

/-- two texts are the same, as strings -/
def teqB (T T' : Nat) (d d' : Bf) : Bool := (strOf T d).toList == (strOf T' d').toList
theorem teq_iff {T T' : Nat} {d d' : Bf} : teqB T T' d d' = true ↔ T = T' ∧ ∀ i, i < T → d i = d' i := by
  by_cases h : T = T'
  · subst h
    unfold teqB
    rw [beq_iff_eq]
    constructor
    · intro e
      rw [ByteArray.toList_eq, ByteArray.toList_eq] at e
      refine ⟨rfl, str_inj ?_⟩
      generalize strOf T d = x at e ⊢
      generalize strOf T d' = y at e ⊢
      cases x; cases y
      simp_all
    · intro e
      rw [str_congr e.2]
  · constructor
    · intro e
      unfold teqB at e
      rw [str_nelN h] at e
      cases e
    · intro e
      exact absurd e.1 h
def comS (k s q i n k' s' q' i' n' : Int) (T U T' U' : Nat) (d b d' b' : Bf) : Bool := (k == k') && ((s == s') && ((q == q') && ((i == i') && ((n == n') && (teqB T T' d d' && teqB U U' b b')))))
def repS (x n m x' n' m' : Int) (T T' : Nat) (d d' : Bf) : Bool := (x == x') && ((n == n') && ((m == m') && teqB T T' d d'))
set_option maxRecDepth 20000 in
set_option maxHeartbeats 8000000 in
theorem samerep_any (x n m x' n' m' : Int) (T T' c1 c3 : Nat) (A1 A3 : Option Addr) (d d' : Bf) (w : World) (hd : Sl w w.heap.size A1 T c1 d) (hd' : Sl w w.heap.size A3 T' c3 d') :
    Calls Try.prog 18 #[repV x n m (.slice A1 T c1), repV x' n' m' (.slice A3 T' c3)] w fun e w' => e = .returned (.bool (repS x n m x' n' m' T T' d d')) ∧ Below w.heap.size w w' := by
  obtain ⟨w1, hw1⟩ : ∃ w1, w1 = (w.alloc (.cells #[.int .i64 x, .int .i64 n, .int .i64 m, .slice A1 T c1] 31)).alloc (.cells #[.int .i64 x', .int .i64 n', .int .i64 m', .slice A3 T' c3] 31) := ⟨_, rfl⟩
  have bw : Below w.heap.size w w1 := by rw [hw1]; exact ((Below.refl _ _).alloc (by simp) _).alloc (by simp) _
  have B1 := Lib.hid bw
  have R1 := Lib.hid (show row w1 w.heap.size = some #[.int .i64 x, .int .i64 n, .int .i64 m, .slice A1 T c1] by rw [hw1]; exact row_alloc (row_alloc_at _ _ _ _ rfl) _)
  have R2 := Lib.hid (show row w1 (w.heap.size + 1) = some #[.int .i64 x', .int .i64 n', .int .i64 m', .slice A3 T' c3] by rw [hw1]; exact row_alloc_at _ _ _ _ (by simp))
  have cv1 := conv_sl (hd.below bw)
  have cv3 := conv_sl (hd'.below bw)
  obtain ⟨E, hE⟩ : ∃ E, E = repS x n m x' n' m' T T' d d' := ⟨_, rfl⟩
  rw [← hE]
  unfold repS at hE
  obtain ⟨e0, he0⟩ : ∃ y, y = (x == x') := ⟨_, rfl⟩
  obtain ⟨e1, he1⟩ : ∃ x, x = (n == n') := ⟨_, rfl⟩
  obtain ⟨e2, he2⟩ : ∃ x, x = (m == m') := ⟨_, rfl⟩
  obtain ⟨e3, he3⟩ : ∃ x, x = teqB T T' d d' := ⟨_, rfl⟩
  rw [← he0, ← he1, ← he2, ← he3] at hE
  have HE := Lib.hid hE
  unfold teqB at he3
  obtain ⟨S1, hS1⟩ : ∃ x, x = strOf T d := ⟨_, rfl⟩
  obtain ⟨S3, hS3⟩ : ∃ x, x = strOf T' d' := ⟨_, rfl⟩
  rw [← hS1] at cv1 he3
  rw [← hS3] at cv3 he3
  have g0 := he0.symm
  have g1 := he1.symm
  have g2 := he2.symm
  have g3 := he3.symm
  clear hE he0 he1 he2 he3 hS1 hS3 bw hd hd'
  go_enter Try.func18, Try.ntmps18
  go_upto_region 1 with fail
  rw [← hw1]
  clear hw1
  obtain ⟨a0, a1, a2, a3⟩ := cells4 R1.out
  obtain ⟨b0, b1, b2, b3⟩ := cells4 R2.out
  cases e0 with
  | false =>
    have F := Lib.hid (show E = false from HE.out)
    go_wp2_with fail
    go_ret
    exact ⟨by rw [F.out]; rfl, B1.out⟩
  | true =>
    cases e1 with
    | false =>
      have F := Lib.hid (show E = false from HE.out)
      go_wp2_with fail
      go_ret
      exact ⟨by rw [F.out]; rfl, B1.out⟩
    | true =>
      cases e2 with
      | false =>
        have F := Lib.hid (show E = false from HE.out)
        go_wp2_with fail
        go_ret
        exact ⟨by rw [F.out]; rfl, B1.out⟩
      | true =>
        have F := Lib.hid (show E = e3 from HE.out)
        go_wp2_with fail
        go_ret
        exact ⟨by rw [F.out]; rfl, B1.out⟩
end Go.Proofs.Ythokiohdeclmhaa.Oct

/-! ## Wic -/
/- The document's examples at the head of each statement of layer 9. -/
namespace Go.Proofs.Ythokiohdeclmhaa.Oct
open Go.ChangeShapes Go.WideShapes Go.ChangeAt Go.RowKit
set_option linter.unusedVariables false

theorem comN_bd {k s q i n : Int} (h0 : i64B k) (h1 : i64B s) (h2 : i64B q) (h3 : i64B i) (h4 : i64B n) : ∀ j, -9223372036854775808 ≤ comN k s q i n j ∧ comN k s q i n j < 9223372036854775808 := fun j => by
  unfold comN
  repeat' split
  all_goals assumption
theorem repN_bd {c n m : Int} (h0 : i64B c) (h1 : i64B n) (h2 : i64B m) : ∀ j, -9223372036854775808 ≤ repN c n m j ∧ repN c n m j < 9223372036854775808 := fun j => by
  unfold repN
  repeat' split
  all_goals assumption
theorem th2_bd {t k : Int} (h0 : i64B t) (h1 : i64B k) : ∀ j, -9223372036854775808 ≤ th2 t k j ∧ th2 t k j < 9223372036854775808 := fun j => by
  unfold th2
  split
  all_goals assumption
/-- the bytes of {CmdOpen} -/
def openF : Bf := comF 1 0 0 0 0 0 0 nF nF
theorem open_len : comL 1 0 0 0 0 0 0 = 8 := by decide +kernel
theorem open_str : strOf 8 openF = ⟨#[1, 1, 0, 0, 0, 0, 0, 0]⟩ := str_lit (l := [1, 1, 0, 0, 0, 0, 0, 0]) (by decide +kernel)
theorem open_K : tcK 8 openF ∧ ((puX openF 0 : Nat) : Int) = 1 := by
  obtain ⟨h, h1, -⟩ := back_com (k := 1) (s := 0) (q := 0) (i := 0) (n := 0) (T := 0) (U := 0) (m := 8) (d := nF) (b := nF) (f := openF) (by decide +kernel) (comN_bd (by omega) (by omega) (by omega) (by omega) (by omega)) open_len (fun j _ => rfl)
  exact ⟨h, h1⟩
theorem nil_K (f : Bf) : ¬ tcK 0 f := fun h => by
  have h1 : puS 0 f 0 = 0 := fi_each (fi_each h.1 0 (by omega)) 0 (by omega)
  have h2 : puS 0 f 0 = 3 := rfl
  omega
theorem more_K : ¬ tcK 9 (catF 8 openF fun _ => 0#8) := fun h => by
  have h1 : tcO (catF 8 openF fun _ => 0#8) 3 = 8 := by decide +kernel
  have h2 := h.2.1
  omega
theorem tcP.bad {n : Nat} {f : Bf} {w : World} {e : Ending} {w' : World} (h : tcP n f w e w') (hk : ¬ tcK n f) : e = .returned (.tuple #[comZ, .int .i64 80]) ∧ Below w.heap.size w w' := by
  rcases h with ⟨_, h1, h2⟩ | ⟨h0, _⟩
  · exact ⟨h1, h2⟩
  · exact absurd h0 hk
theorem tcP.ok {n : Nat} {f : Bf} {w : World} {e : Ending} {w' : World} (h : tcP n f w e w') (hk : tcK n f) : ∃ A c A' c', e = .returned (.tuple #[comV (puX f 0 : Nat) (puX f 1 : Nat) (puX f 2 : Nat) (puX f 3 : Nat) (puX f 4 : Nat) (.slice A (tcT f) c) (.slice A' (tcU f) c'), .int .i64 0]) ∧ Sl w' w'.heap.size A (tcT f) c (tcF f) ∧ Sl w' w'.heap.size A' (tcU f) c' (tcG f) ∧ Below w.heap.size w w' := by
  rcases h with ⟨h0, _⟩ | ⟨_, h⟩
  · exact absurd hk h0
  · exact h
theorem cmP.ok {E L : Nat} {F : Bf} {w : World} {e : Ending} {w' : World} (h : cmP E L F w e w') (hk : E = 0) : ∃ v, e = .returned (.tuple #[v, .int .i64 0]) ∧ Own w' w.heap.size 5 v L F ∧ Below w.heap.size w w' := by
  rcases h with ⟨h0, _⟩ | ⟨_, h⟩
  · exact absurd hk h0
  · exact h
theorem cmP.bad {E L : Nat} {F : Bf} {w : World} {e : Ending} {w' : World} (h : cmP E L F w e w') (hk : E ≠ 0) : e = .returned (.tuple #[.slice none 0 0, .int .i64 (E : Nat)]) ∧ Below w.heap.size w w' := by
  rcases h with ⟨_, h1, h2⟩ | ⟨h0, _⟩
  · exact ⟨h1, h2⟩
  · exact absurd h0 hk
end Go.Proofs.Ythokiohdeclmhaa.Oct

/-! ## Wid -/
/- The struct types Command, Reply, Entry: what came in is of their form. -/
namespace Go.Proofs.Ythokiohdeclmhaa.Oct
open Go.ChangeShapes Go.WideShapes Go.ChangeAt Go.RowKit
set_option linter.unusedVariables false

section
variable {H : Type} {enc : TypeId × Value → H} {P : Program} {w : World} {base : Nat} {spare : Nat → Bool} {held : Bool}
/-- a field that is a slice of ints -/
theorem fld_ints {t e : TypeId} (ht : P.underlying t = some (.slice e)) (he : P.underlying e = some (.int .i64)) (h1 : P.cellsOf e = 1) {fuel : Nat} {cs : List Value} {x : DataW H × List MemPlace}
    (h : DataW.trod enc P w base spare held fuel t cs = some x) : ∃ A n c x, cs = [.slice A n c] ∧ SlG w w.heap.size A n c (iV x) ∧ c ≤ maxLen ∧ ∀ i, i < n → -9223372036854775808 ≤ x i ∧ x i < 9223372036854775808 := by
  rcases Deep.open_slice1 ht h1 h with ⟨hcs, _⟩ | ⟨a, len, cap, m, n, V, D, Pl, hcs, _, hl, hm, hmm, _, hx⟩
  · exact ⟨none, 0, 0, fun _ => 0, hcs, ⟨Nat.le_refl _, fun e => by omega⟩, Nat.zero_le _, fun i hi => by omega⟩
  · have hlen : len ≤ m := by rw [hmm]; split <;> omega
    have hb : ∀ i : Nat, ∃ x : Int, i < len → V i = .int .i64 x ∧ -9223372036854775808 ≤ x ∧ x < 9223372036854775808 := fun i => by
      by_cases hi : i < len
      · obtain ⟨x, ex, _, hw⟩ := DataW.trod_int (k := .i64) he (hx i (by omega)).2
        simp only [Lit.wf, IntKind.min, IntKind.max, IntKind.signed, IntKind.bits, Bool.and_eq_true, decide_eq_true_eq, if_true] at hw
        exact ⟨x, fun _ => ⟨by simpa using ex, by omega, by omega⟩⟩
      · exact ⟨0, fun e => absurd e hi⟩
    obtain ⟨x, hX⟩ := Classical.axiomOfChoice hb
    refine ⟨some a, len, cap, x, hcs, ⟨hl, fun hn => ?_⟩, hm, fun i hi => (hX i hi).2⟩
    have hc0 := (hx 0 (by omega)).1
    rw [show a.add 0 = a from rfl] at hc0
    have hs := World.cell?_spot hc0
    obtain ⟨g, o, s⟩ := a
    simp only at hs
    subst hs
    refine ⟨g, o, rfl, World.block_lt_of_cell? w _ hc0, fun i hi => ?_⟩
    have hci := (hx i (by omega)).1
    rw [add_mid, (hX i hi).1] at hci
    exact hci
end
theorem size7 {cs : Array Value} (h : cs.size = 7) : ∃ a b c d e f g, cs = #[a, b, c, d, e, f, g] := by
  obtain ⟨l⟩ := cs
  rcases l with _ | ⟨a, _ | ⟨b, _ | ⟨c, _ | ⟨d, _ | ⟨e, _ | ⟨f, _ | ⟨g, _ | ⟨x, r⟩⟩⟩⟩⟩⟩⟩⟩
  all_goals first | (simp at h; done) | skip
  exact ⟨a, b, c, d, e, f, g, rfl⟩
section
variable {H : Type} {enc : TypeId × Value → H} {w : World} {base : Nat} {spare : Nat → Bool} {held : Bool}
set_option maxRecDepth 20000 in
theorem open_rep {r : Reach} {b : Nat} {v : Value} {d : DataW H} {p : List MemPlace} (hv : Value.okWide Try.prog w r b 31 v) (h : DataW.Trod enc Try.prog w base spare held 31 v d p) :
    ∃ x n m A T c f, v = repV x n m (.slice A T c) ∧ Sl w w.heap.size A T c f ∧ c ≤ maxLen ∧ i64B x ∧ i64B n ∧ i64B m := by
  obtain ⟨cs, rfl, hs, fu, hall⟩ := open_struct Try.underlying31 hv h
  have hc : Try.prog.cellsOf 31 = 4 := by kernel_rfl
  have h1 : Try.prog.cellsOf 5 = 1 := by kernel_rfl
  have h4 : cs.size = 4 := by rw [hs, hc]
  clear hs hc
  obtain ⟨a0, a1, a2, a3, rfl⟩ := size4 h4
  obtain ⟨y0, e0⟩ := hall 0 _ rfl
  obtain ⟨y1, e1⟩ := hall 1 _ rfl
  obtain ⟨y2, e2⟩ := hall 2 _ rfl
  obtain ⟨y3, e3⟩ := hall 3 _ rfl
  obtain ⟨x, ex, _, hx⟩ := DataW.trod_int (k := .i64) (by kernel_rfl) e0
  obtain ⟨n, en, _, hn⟩ := DataW.trod_int (k := .i64) (by kernel_rfl) e1
  obtain ⟨m, em, _, hm⟩ := DataW.trod_int (k := .i64) (by kernel_rfl) e2
  obtain ⟨A, T, c, f, ef, hf, hmm⟩ := fld_sl sli_u u8_u h1 e3
  have ex' : a0 = .int .i64 x := List.head_eq_of_cons_eq (show [a0] = [.int .i64 x] from ex)
  have en' : a1 = .int .i64 n := List.head_eq_of_cons_eq (show [a1] = [.int .i64 n] from en)
  have em' : a2 = .int .i64 m := List.head_eq_of_cons_eq (show [a2] = [.int .i64 m] from em)
  have ef' : a3 = .slice A T c := List.head_eq_of_cons_eq (show [a3] = [.slice A T c] from ef)
  subst ex' en' em' ef'
  exact ⟨x, n, m, A, T, c, f, rfl, hf, hmm, wf_bd hx, wf_bd hn, wf_bd hm⟩
end
end Go.Proofs.Ythokiohdeclmhaa.Oct

/-! ## Wie -/
/- What the statements of layer 9 share: each answer in one form, error or not. -/
namespace Go.Proofs.Ythokiohdeclmhaa.Oct
open Go.ChangeShapes Go.WideShapes Go.ChangeAt Go.RowKit
set_option linter.unusedVariables false

/-- a value reads as the string S in all worlds from w on -/
def Cv (w : World) (v : Value) (S : ByteArray) : Prop := ∀ y, Below w.heap.size w y → (convert 29 9 v).run Try.prog y = .ok (.string S) y
theorem Cv.below {w w' : World} {v : Value} {S : ByteArray} (h : Cv w v S) (hb : Below w.heap.size w w') : Cv w' v S := fun y hy => h y (onto hb hb.size hy)
theorem Cv.self {w : World} {v : Value} {S : ByteArray} (h : Cv w v S) : (convert 29 9 v).run Try.prog w = .ok (.string S) w := h w (Below.refl _ _)
theorem Cv.own {w : World} {b n : Nat} {v : Value} {f : Bf} (h : Own w b 5 v n f) : Cv w v (strOf n f) := fun y hy => conv_own (h.below hy (Nat.le_refl _))
theorem Cv.sl {w : World} {n c : Nat} {A : Option Addr} {f : Bf} (h : Sl w w.heap.size A n c f) : Cv w (.slice A n c) (strOf n f) := fun y hy => conv_sl (h.below hy)
theorem Cv.nil (w : World) : Cv w (.slice none 0 0) (strOf 0 nF) := fun y _ => conv_nil y
/-- what a writer answers, as a string -/
def wrS (E L : Nat) (F : Bf) : ByteArray := if E = 0 then strOf L F else strOf 0 nF
theorem cmP.uni {E L : Nat} {F : Bf} {w : World} {e : Ending} {w' : World} (h : cmP E L F w e w') : ∃ v, e = .returned (.tuple #[v, .int .i64 (E : Nat)]) ∧ Cv w' v (wrS E L F) ∧ Below w.heap.size w w' := by
  rcases h with ⟨h0, h1, h2⟩ | ⟨h0, v, h1, h2, h3⟩
  · exact ⟨_, h1, by unfold wrS; rw [if_neg h0]; exact Cv.nil _, h2⟩
  · subst h0
    exact ⟨v, h1, by unfold wrS; rw [if_pos rfl]; exact Cv.own h2, h3⟩
theorem ptP.uni {E L : Nat} {F : Bf} {w : World} {e : Ending} {w' : World} (h : ptP E 0 L nF F w e w') : ∃ v, e = .returned (.tuple #[v, .int .i64 (E : Nat)]) ∧ Cv w' v (wrS E L F) ∧ Below w.heap.size w w' := by
  rcases h with ⟨h0, h1, h2⟩ | ⟨h0, v, h1, h2, h3⟩
  · exact ⟨_, h1, by unfold wrS; rw [if_neg h0]; exact Cv.nil _, h2⟩
  · subst h0
    rw [Nat.zero_add, catF_zero] at h2
    exact ⟨v, h1, by unfold wrS; rw [if_pos rfl]; exact Cv.own h2, h3⟩
theorem tcP_uni (n : Nat) (f : Bf) : ∃ (k s q i m : Int) (T U : Nat) (F G : Bf) (E : Nat), ∀ w e w', tcP n f w e w' → ∃ A c A' c', e = .returned (.tuple #[comV k s q i m (.slice A T c) (.slice A' U c'), .int .i64 (E : Nat)]) ∧ Sl w' w'.heap.size A T c F ∧ Sl w' w'.heap.size A' U c' G ∧ Below w.heap.size w w' := by
  by_cases hk : tcK n f
  · refine ⟨(puX f 0 : Nat), (puX f 1 : Nat), (puX f 2 : Nat), (puX f 3 : Nat), (puX f 4 : Nat), tcT f, tcU f, tcF f, tcG f, 0, fun w e w' h => ?_⟩
    exact h.ok hk
  · refine ⟨0, 0, 0, 0, 0, 0, 0, nF, nF, 80, fun w e w' h => ?_⟩
    obtain ⟨h1, h2⟩ := h.bad hk
    exact ⟨none, 0, none, 0, h1, Sl.nothing _ _ _ _ _, Sl.nothing _ _ _ _ _, h2⟩
theorem trP_uni (n : Nat) (f : Bf) : ∃ (x a m : Int) (T M : Nat) (F R : Bf) (E : Nat), ∀ w e w', trP n f w e w' → ∃ A c A' c', e = .returned (.tuple #[repV x a m (.slice A T c), .slice A' M c', .int .i64 (E : Nat)]) ∧ Sl w' w'.heap.size A T c F ∧ Sl w' w'.heap.size A' M c' R ∧ Below w.heap.size w w' := by
  by_cases hk : trE n f = 0
  · refine ⟨(puX f 0 : Nat), (puX f 1 : Nat), (puX f 2 : Nat), trT f, n - trO f 2, trF f, offF f (trO f 2), 0, fun w e w' h => ?_⟩
    rcases h with ⟨h0, _⟩ | ⟨_, h⟩
    · exact absurd hk h0
    · exact h
  · refine ⟨0, 0, 0, 0, 0, nF, nF, trE n f, fun w e w' h => ?_⟩
    rcases h with ⟨_, h1, h2⟩ | ⟨h0, _⟩
    · exact ⟨none, 0, none, 0, h1, Sl.nothing _ _ _ _ _, Sl.nothing _ _ _ _ _, h2⟩
    · exact absurd h0 hk
theorem teP.bad {n : Nat} {f : Bf} {w : World} {e : Ending} {w' : World} (h : teP n f w e w') (hk : ¬ teK n f) : e = .returned (.tuple #[entZ, .int .i64 80]) ∧ Below w.heap.size w w' := by
  rcases h with ⟨_, h1, h2⟩ | ⟨h0, _⟩
  · exact ⟨h1, h2⟩
  · exact absurd h0 hk
theorem teP.ok {n : Nat} {f : Bf} {w : World} {e : Ending} {w' : World} (h : teP n f w e w') (hk : teK n f) : ∃ A c A' c', e = .returned (.tuple #[entV (puX f 0 : Nat) (puX f 1 : Nat) (.slice A (teT f) c) (.slice A' (teM f) c'), .int .i64 0]) ∧ Sl w' w'.heap.size A (teT f) c (teF f) ∧ SlG w' w'.heap.size A' (teM f) c' (iV (teX f)) ∧ Below w.heap.size w w' := by
  rcases h with ⟨h0, _⟩ | ⟨_, h⟩
  · exact absurd hk h0
  · exact h
theorem teK_len {n : Nat} {f : Bf} (h : teK n f) : teM f ≤ 7 := (ent_ok h.2.2).2.2.2.2
theorem teP_uni (n : Nat) (f : Bf) : ∃ (t k : Int) (T M : Nat) (F : Bf) (x : Nat → Int) (E : Nat), M ≤ 7 ∧ ∀ w e w', teP n f w e w' → ∃ A c A' c', e = .returned (.tuple #[entV t k (.slice A T c) (.slice A' M c'), .int .i64 (E : Nat)]) ∧ Sl w' w'.heap.size A T c F ∧ SlG w' w'.heap.size A' M c' (iV x) ∧ Below w.heap.size w w' := by
  by_cases hk : teK n f
  · exact ⟨(puX f 0 : Nat), (puX f 1 : Nat), teT f, teM f, teF f, teX f, 0, teK_len hk, fun w e w' h => h.ok hk⟩
  · refine ⟨0, 0, 0, 0, nF, fun _ => 0, 80, by omega, fun w e w' h => ?_⟩
    obtain ⟨h1, h2⟩ := h.bad hk
    exact ⟨none, 0, none, 0, h1, Sl.nothing _ _ _ _ _, ⟨Nat.le_refl _, fun e => by omega⟩, h2⟩
theorem teq_refl (T : Nat) (d : Bf) : teqB T T d d = true := teq_iff.2 ⟨rfl, fun _ _ => rfl⟩
theorem comS_refl (k s q i n : Int) (T U : Nat) (d b : Bf) : comS k s q i n k s q i n T U T U d b d b = true := by unfold comS; simp [teq_refl]
theorem repS_refl (x n m : Int) (T : Nat) (d : Bf) : repS x n m x n m T T d d = true := by unfold repS; simp [teq_refl]
end Go.Proofs.Ythokiohdeclmhaa.Oct

/-! ## Wif -/
/- What the laws back, once and apart share: written, taken, compared; taken, written. -/
namespace Go.Proofs.Ythokiohdeclmhaa.Oct
open Go.ChangeShapes Go.WideShapes Go.ChangeAt Go.RowKit
set_option linter.unusedVariables false

/- written, taken -/
theorem comL_le {k s q i n : Int} {T U : Nat} (h : chkE k s q i n T U = 0) : comL k s q i n T U ≤ 5000 := by
  obtain ⟨_, _, _, _, _, hT, hU⟩ := chk_ok h
  have h1 := nuL_le (comN k s q i n) 5
  have h2 := txL_le T
  have h3 := txL_le U
  unfold comL
  omega
theorem rep_zero {x n m : Int} {T : Nat} (h : repE x n m T = 0) : T ≤ 4096 := by
  have c1 : txE T = 0 := fi_each (E := th2 (nuE (repN x n m) 3) (txE T)) h 1 (by omega)
  unfold txE at c1
  split at c1
  · omega
  · omega
theorem repL_le {x n m : Int} {T : Nat} (h : repE x n m T = 0) : repL x n m T ≤ 5000 := by
  have hT := rep_zero h
  have h1 := nuL_le (repN x n m) 3
  have h2 := txL_le T
  unfold repL
  omega
theorem entL_le {t k : Int} {x : Nat → Int} {T n : Nat} (h : enE t k x T n = 0) : entL t k x T n ≤ 5000 := by
  obtain ⟨_, _, _, hT, hn⟩ := ent_ok h
  have h1 := nuL_le (th2 t k) 2
  have h2 := txL_le T
  have h3 := lsL_le (natS x) n n
  unfold entL
  omega
/- taken, written -/
theorem reponce_any {N : Nat} {f : Bf} (hK : trE N f = 0) {A1 : Option Addr} {c1 : Nat} {w : World} (h1 : Sl w w.heap.size A1 (trT f) c1 (trF f)) :
    Calls Try.prog 44 #[repV (puX f 0 : Nat) (puX f 1 : Nat) (puX f 2 : Nat) (.slice A1 (trT f) c1)] w fun e w' => ∃ v, e = .returned (.tuple #[v, .int .i64 0]) ∧ Cv w' v (strOf (trO f 2) f) ∧ Below w.heap.size w w' := by
  obtain ⟨l1, l2, l3⟩ := once_rep hK
  have q0 : puE N f 3 = 0 := fi_each (E := trS N f) hK 0 (by omega)
  have q1 : ttE (N - trO f 1) 4096 (offF f (trO f 1)) = 0 := fi_each (E := trS N f) hK 1 (by omega)
  have hb : ∀ j, j < 3 → i64B ((puX f j : Nat) : Int) := fun j hj => by have := puX_lt q0 hj; exact ⟨by omega, by omega⟩
  have hT := (tt_le q1).2.1
  have hE : repE (puX f 0 : Nat) (puX f 1 : Nat) (puX f 2 : Nat) (trT f) = 0 := by
    unfold repE
    refine fi_zero fun j hj => ?_
    have : j = 0 ∨ j = 1 := by omega
    rcases this with rfl | rfl
    · exact nuE_of_pos fun i hi => by
        have : i = 0 ∨ i = 1 ∨ i = 2 := by omega
        rcases this with rfl | rfl | rfl <;> exact Int.natCast_nonneg _
    · show txE (trT f) = 0
      unfold txE trT
      rw [if_neg (by omega)]
  refine (reply_any _ _ _ _ c1 A1 _ w h1 (repN_bd (hb 0 (by omega)) (hb 1 (by omega)) (hb 2 (by omega)))).mono ?_
  intro e w' h
  obtain ⟨v, he, hc, hb'⟩ := h.uni
  rw [hE] at he hc
  refine ⟨v, he, ?_, hb'⟩
  unfold wrS at hc
  rw [if_pos rfl, l1, str_congr l2] at hc
  exact hc
theorem rep_parts {N : Nat} {f : Bf} (hK : trE N f = 0) : strOf (trO f 2) f ++ strOf (N - trO f 2) (offF f (trO f 2)) = strOf N f :=
  str_split (once_rep hK).2.2 fun _ _ => rfl

/- apart -/
theorem bytes_of_list {a b : ByteArray} (h : a.toList = b.toList) : a = b := by
  rw [ByteArray.toList_eq, ByteArray.toList_eq] at h
  cases a
  cases b
  simp_all
theorem com_apart {k s q i n k' s' q' i' n' : Int} {T U T' U' : Nat} {d b d' b' : Bf} (h : chkE k s q i n T U = 0) (h' : chkE k' s' q' i' n' T' U' = 0)
    (hb : ∀ j, -9223372036854775808 ≤ comN k s q i n j ∧ comN k s q i n j < 9223372036854775808) (hb' : ∀ j, -9223372036854775808 ≤ comN k' s' q' i' n' j ∧ comN k' s' q' i' n' j < 9223372036854775808) :
    ((strOf (comL k s q i n T U) (comF k s q i n T U d b)).toList == (strOf (comL k' s' q' i' n' T' U') (comF k' s' q' i' n' T' U' d' b')).toList) = comS k s q i n k' s' q' i' n' T U T' U' d b d' b' := by
  by_cases e : strOf (comL k s q i n T U) (comF k s q i n T U d b) = strOf (comL k' s' q' i' n' T' U') (comF k' s' q' i' n' T' U' d' b')
  · have eL : comL k s q i n T U = comL k' s' q' i' n' T' U' := by
      have := congrArg ByteArray.size e
      rw [str_size, str_size] at this
      exact this
    have eF := str_inj (e.trans (by rw [eL]))
    obtain ⟨_, a0, a1, a2, a3, a4, a5, a6, a7, a8⟩ := back_com (d := d) (b := b) h hb rfl (fun j _ => rfl)
    obtain ⟨_, b0, b1, b2, b3, b4, b5, b6, b7, b8⟩ := back_com (d := d') (b := b') (f := comF k s q i n T U d b) h' hb' eL.symm eF
    have hS : comS k s q i n k' s' q' i' n' T U T' U' d b d' b' = true := by
      unfold comS
      rw [teq_iff.2 ⟨a5.symm.trans b5, fun j hj => (a7 j hj).symm.trans (b7 j (by omega))⟩, teq_iff.2 ⟨a6.symm.trans b6, fun j hj => (a8 j hj).symm.trans (b8 j (by omega))⟩,
        beq_iff_eq.2 (a0.symm.trans b0), beq_iff_eq.2 (a1.symm.trans b1), beq_iff_eq.2 (a2.symm.trans b2), beq_iff_eq.2 (a3.symm.trans b3), beq_iff_eq.2 (a4.symm.trans b4)]
      rfl
    rw [hS, e, beq_self_eq_true]
  · have hS : comS k s q i n k' s' q' i' n' T U T' U' d b d' b' = false := by
      cases hS : comS k s q i n k' s' q' i' n' T U T' U' d b d' b' with
      | false => rfl
      | true =>
        refine absurd ?_ e
        unfold comS at hS
        simp only [Bool.and_eq_true, beq_iff_eq, teq_iff] at hS
        obtain ⟨rfl, rfl, rfl, rfl, rfl, ⟨rfl, h1⟩, rfl, h2⟩ := hS
        refine str_congr fun j hj => ?_
        unfold comL at hj
        unfold comF catF
        split
        · split
          · rfl
          · unfold txF catF
            split
            · rfl
            · exact h1 _ (by unfold txL at *; omega)
        · unfold txF catF
          split
          · rfl
          · exact h2 _ (by unfold txL at *; omega)
    rw [hS]
    exact beq_eq_false_iff_ne.2 fun h => e (bytes_of_list h)

/- one form, for the walks -/
theorem s3_lit : (#[.int .u8 1, .int .u8 2, .int .u8 3] : Array Value) = ba 3 (litF [1#8, 2#8, 3#8]) := by unfold ba; kernel_rfl
theorem s3_str : strOf 3 (litF [1#8, 2#8, 3#8]) = ⟨#[1, 2, 3]⟩ := str_lit (l := [1, 2, 3]) (by decide +kernel)
theorem trP.two {N : Nat} {f : Bf} {w : World} {e : Ending} {w' : World} (h : trP N f w e w') : ∃ (x n m : Int) (T M c c' E : Nat) (A A' : Option Addr) (S R : ByteArray), e = .returned (.tuple #[repV x n m (.slice A T c), .slice A' M c', .int .i64 (E : Nat)]) ∧ Below w.heap.size w w' ∧ Cv w' (.slice A' M c') R ∧
    (E = 0 → S ++ R = strOf N f ∧ ∀ y, Below w'.heap.size w' y → Calls Try.prog 44 #[repV x n m (.slice A T c)] y fun e y' => ∃ v, e = .returned (.tuple #[v, .int .i64 0]) ∧ Cv y' v S ∧ Below y.heap.size y y') := by
  by_cases hk : trE N f = 0
  · rcases h with ⟨h', _⟩ | ⟨_, A, c, A', c', he, h1, h2, hb⟩
    · exact absurd hk h'
    exact ⟨_, _, _, _, _, c, c', 0, A, A', strOf (trO f 2) f, strOf (N - trO f 2) (offF f (trO f 2)), he, hb, Cv.sl h2, fun _ => ⟨rep_parts hk, fun y hy => reponce_any hk ((h1.below hy).more hy.size)⟩⟩
  · rcases h with ⟨_, he, hb⟩ | ⟨h', _⟩
    · exact ⟨_, _, _, _, _, 0, 0, trE N f, none, none, ⟨#[]⟩, strOf 0 nF, he, hb, Cv.nil _, fun h => absurd h hk⟩
    · exact absurd h' hk
end Go.Proofs.Ythokiohdeclmhaa.Oct
