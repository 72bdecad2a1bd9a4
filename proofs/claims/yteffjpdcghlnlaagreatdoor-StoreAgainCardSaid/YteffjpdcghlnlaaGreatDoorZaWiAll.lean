import Derived.Test.YteffjpdcghlnlaaGreatDoorZaPkAll
import Derived.Test.YteffjpdcghlnlaaGreatDoorZaLib
import Derived.Deep.DeepCutAuto
set_option linter.unusedSimpArgs false
/-! ## WiM -/
/- wire's math: parts one behind the other. Of whatever program. -/
namespace Go.Proofs.YteffjpdcghlnlaaGreatDoor.Oct
open Go.ChangeShapes Go.WideShapes Go.ChangeAt Go.RowKit
set_option linter.unusedVariables false

/-- lengths and bytes of the first j parts -/
def cuL (L : Nat → Nat) : Nat → Nat
  | 0 => 0
  | j + 1 => cuL L j + L j
def cuF (L : Nat → Nat) (F : Nat → Bf) : Nat → Bf
  | 0 => nF
  | j + 1 => catF (cuL L j) (cuF L F j) (F j)
theorem cu_mono (L : Nat → Nat) (j : Nat) : ∀ d, cuL L j ≤ cuL L (j + d)
  | 0 => Nat.le_refl _
  | d + 1 => by have := cu_mono L j d; rw [← Nat.add_assoc, cuL]; omega
theorem cu_cat (L : Nat → Nat) (F : Nat → Bf) (N j : Nat) (b : Bf) : catF (N + cuL L j) (catF N b (cuF L F j)) (F j) = catF N b (cuF L F (j + 1)) := by rw [catF_assoc]; rfl
/-- the first error of some -/
def fiE (E : Nat → Nat) : Nat → Nat
  | 0 => 0
  | j + 1 => if fiE E j ≠ 0 then fiE E j else E j
theorem fi_stay {E : Nat → Nat} {j : Nat} (h : fiE E j ≠ 0) : ∀ d, fiE E (j + d) = fiE E j
  | 0 => rfl
  | d + 1 => by
    have := fi_stay h d
    rw [← Nat.add_assoc, fiE, if_pos (by rw [this]; exact h), this]
theorem fi_step {E : Nat → Nat} {j : Nat} (h : fiE E j = 0) : fiE E (j + 1) = E j := by rw [fiE, if_neg (fun e => e h)]
theorem fi_zero {E : Nat → Nat} : ∀ {n : Nat}, (∀ j, j < n → E j = 0) → fiE E n = 0
  | 0, _ => rfl
  | n + 1, h => by rw [fi_step (fi_zero (n := n) fun j hj => h j (by omega))]; exact h n (by omega)
theorem fi_first {E : Nat → Nat} {n j : Nat} (h : fiE E j = 0) (hj : j < n) (he : E j ≠ 0) : fiE E n = E j := by
  have := fi_stay (E := E) (j := j + 1) (by rw [fi_step h]; exact he) (n - (j + 1))
  rw [show j + 1 + (n - (j + 1)) = n by omega, fi_step h] at this
  exact this
/- numbers -/
def neE (x : Nat → Int) : Nat → Nat := fun i => if x i < 0 then 1 else 0
abbrev nuE (x : Nat → Int) : Nat → Nat := fiE (neE x)
abbrev nuL (x : Nat → Int) : Nat → Nat := cuL (fun i => encL (x i).toNat)
abbrev nuF (x : Nat → Int) : Nat → Bf := cuF (fun i => encL (x i).toNat) (fun i => encF (x i).toNat)
theorem nuL_le (x : Nat → Int) : ∀ j, nuL x j ≤ 9 * j
  | 0 => by simp [nuL, cuL]
  | j + 1 => by have h1 := encL_le (x j).toNat; have h2 : cuL (fun i => encL (x i).toNat) j ≤ 9 * j := nuL_le x j; show cuL (fun i => encL (x i).toNat) j + encL (x j).toNat ≤ 9 * (j + 1); omega
/- two or three by their places -/
def th2 {α : Type} (a b : α) : Nat → α := fun j => if j = 0 then a else b
theorem cu_th2 (L1 L2 : Nat) (F1 F2 : Bf) : cuL (th2 L1 L2) 2 = L1 + L2 ∧ cuF (th2 L1 L2) (th2 F1 F2) 2 = catF L1 F1 F2 := by
  have e1 : cuL (th2 L1 L2) 1 = L1 := by simp [cuL, th2]
  refine ⟨by show cuL (th2 L1 L2) 1 + _ = _; rw [e1]; rfl, ?_⟩
  show catF (cuL (th2 L1 L2) 1) (catF 0 nF F1) F2 = _
  rw [e1, catF_zero]
theorem cu_th2_1 (a b : Nat) : cuL (th2 a b) 1 = a := by simp [cuL, th2]
theorem txL_le (T : Nat) : txL T ≤ 9 + T := by have := encL_le T; unfold txL; omega
end Go.Proofs.YteffjpdcghlnlaaGreatDoor.Oct

/-! ## QIn -/
/- A class of worlds, as the quiet walk wants it. Of whatever program. -/
namespace Go.Proofs.YteffjpdcghlnlaaGreatDoor.Oct
open Go.RowKit
theorem quiet_in {P : Program} {ops : Array Oper} {C : World → Prop} {K : Act → Prop} {l : List Oper} {a : Act} (h : wpQuiet P ops (fun w' => ∃ x : In C, w' = x.val) K l a) : wpQuiet P ops C K l a := by rw [In_eq] at h; exact h
end Go.Proofs.YteffjpdcghlnlaaGreatDoor.Oct

/-! ## WiO -/
/- wire's parts taken: what bytes come to as some numbers; a call that leaves what there was, then a store into a cell. -/
namespace Go.Proofs.YteffjpdcghlnlaaGreatDoor.Oct
open Go.ChangeShapes Go.WideShapes Go.ChangeAt Go.RowKit
set_option linter.unusedVariables false

/- some numbers, one behind the other -/
def puO (f : Bf) : Nat → Nat
  | 0 => 0
  | j + 1 => puO f j + tkL (offF f (puO f j))
def puX (f : Bf) (j : Nat) : Nat := tkV (offF f (puO f j))
def puS (n : Nat) (f : Bf) : Nat → Nat := fun j => tkE (n - puO f j) (offF f (puO f j))
abbrev puE (n : Nat) (f : Bf) : Nat → Nat := fiE (puS n f)
/- stores -/
/-- a call that leaves what there was, then a store into cell o of block g -/
def Wrt (g o : Nat) (v : Value) (w w' : World) : Prop := ∃ w1, Below w.heap.size w w1 ∧ w' = w1.setCell ⟨g, o, none⟩ v
/-- j of them -/
def Wrts (g o : Nat → Nat) (y : Nat → Int) : Nat → World → World → Prop
  | 0, w, w' => w' = w
  | j + 1, w, w' => ∃ w1, Wrts g o y j w w1 ∧ Wrt (g j) (o j) (.int .i64 (y j)) w1 w'
section
variable {g o : Nat} {v : Value} {w w' : World}
theorem Wrt.size (h : Wrt g o v w w') : w.heap.size ≤ w'.heap.size := by
  obtain ⟨w1, hb, rfl⟩ := h
  have := hb.size
  simp [World.setCell]; omega
theorem Wrt.block (h : Wrt g o v w w') {k : Nat} (hk : k < w.heap.size) (hn : k ≠ g) : w'.heap[k]? = w.heap[k]? := by
  obtain ⟨w1, hb, rfl⟩ := h
  rw [Below.heap_setCell _ _ _ _ hn, hb.block k hk]
theorem Wrt.low (h : Wrt g o v w w') {B : Nat} (hB : B ≤ g) (hw : B ≤ w.heap.size) : Below B w w' := by
  obtain ⟨w1, hb, rfl⟩ := h
  exact (hb.mono hw).setCell hB v
theorem Wrt.row (h : Wrt g o v w w') {c : Array Value} (hr : row w g = some c) : row w' g = some (c.setIfInBounds o v) := by
  obtain ⟨w1, hb, rfl⟩ := h
  have h1 := carry hb hr
  rw [setCell_row h1]
  exact row_setRow h1 _
theorem Wrt.other (h : Wrt g o v w w') {k : Nat} {c : Array Value} (hr : Oct.row w k = some c) (hn : k ≠ g) : Oct.row w' k = some c := by
  rw [row_heap (h.block (row_lt hr) hn)]; exact hr
theorem Wrt.rows (h : Wrt g o v w w') {k : Nat} {c : Array Value} (hr : Oct.row w k = some c) : ∃ c', Oct.row w' k = some c' ∧ c'.size = c.size := by
  by_cases hk : k = g
  · subst hk
    exact ⟨_, h.row hr, by simp⟩
  · exact ⟨c, h.other hr hk, rfl⟩
theorem Wrt.put (h : Wrt g o v w w') {c : Array Value} (hr : Oct.row w g = some c) : Put g (c.setIfInBounds o v) w w' := by
  obtain ⟨w1, hb, rfl⟩ := h
  rw [setCell_row (carry hb hr)]
  exact Put.of hb (row_lt hr) _
theorem Wrt.sl (h : Wrt g o v w w') {A : Option Addr} {n m D : Nat} {b : Bf} (hs : Sl w D A n m b) (hD : D ≤ w.heap.size) (ho : Off g n A) : Sl w' D A n m b :=
  ⟨hs.le, fun hn => by
    obtain ⟨k, q, e, hk, hc⟩ := hs.at_ hn
    refine ⟨k, q, e, hk, fun i hi => ?_⟩
    have hb := h.block (k := k) (by omega) (ho hn _ e)
    rw [show w'.cell? ⟨k, q + i, none⟩ = w.cell? ⟨k, q + i, none⟩ by unfold World.cell?; rw [hb]]
    exact hc i hi⟩
theorem Wrt.slG (h : Wrt g o v w w') {A : Option Addr} {n m D : Nat} {V : Nat → Value} (hs : SlG w D A n m V) (hD : D ≤ w.heap.size) (ho : Off g n A) : SlG w' D A n m V :=
  ⟨hs.le, fun hn => by
    obtain ⟨k, q, e, hk, hc⟩ := hs.at_ hn
    refine ⟨k, q, e, hk, fun i hi => ?_⟩
    have hb := h.block (k := k) (by omega) (ho hn _ e)
    rw [show w'.cell? ⟨k, q + i, none⟩ = w.cell? ⟨k, q + i, none⟩ by unfold World.cell?; rw [hb]]
    exact hc i hi⟩
theorem Own.setCell {base n : Nat} {u : TypeId} {z : Value} {f : Bf} (h : Own w base u z n f) {a : Addr} (ha : a.block < base) (x : Value) : Own (w.setCell a x) base u z n f := ownsRow_setCell_below h ha x
theorem SlG.setCell {D n c base : Nat} {A : Option Addr} {V : Nat → Value} (h : SlG w D A n c V) (hA : A = none ∨ ∃ g, A = some ⟨g, 0, none⟩ ∧ base ≤ g) {a : Addr} (ha : a.block < base) (x : Value) : SlG (w.setCell a x) D A n c V :=
  ⟨h.le, fun hn => by
    obtain ⟨k, q, e, hk, hc⟩ := h.at_ hn
    refine ⟨k, q, e, hk, fun i hi => ?_⟩
    have hb : (w.setCell a x).heap[k]? = w.heap[k]? := Below.heap_setCell _ _ _ _ (fun e2 => by
      rcases hA with h1 | ⟨g, h1, hg⟩
      · rw [h1] at e; cases e
      · rw [h1] at e
        have : g = k := congrArg Addr.block (Option.some.inj e)
        omega)
    rw [show (w.setCell a x).cell? ⟨k, q + i, none⟩ = w.cell? ⟨k, q + i, none⟩ by unfold World.cell?; rw [hb]]
    exact hc i hi⟩
end
section
variable {g o : Nat → Nat} {y : Nat → Int}
theorem Wrts.size : ∀ {j : Nat} {w w' : World}, Wrts g o y j w w' → w.heap.size ≤ w'.heap.size
  | 0, w, w', h => by rw [show w' = w from h]; exact Nat.le_refl _
  | j + 1, w, w', ⟨w1, h1, h2⟩ => Nat.le_trans h1.size h2.size
theorem Wrts.block : ∀ {j : Nat} {w w' : World}, Wrts g o y j w w' → ∀ {k : Nat}, k < w.heap.size → (∀ i, i < j → k ≠ g i) → w'.heap[k]? = w.heap[k]?
  | 0, w, w', h, k, hk, hn => by rw [show w' = w from h]
  | j + 1, w, w', ⟨w1, h1, h2⟩, k, hk, hn => by
    rw [h2.block (by have := h1.size; omega) (hn j (by omega)), Wrts.block h1 hk fun i hi => hn i (by omega)]
theorem Wrts.low : ∀ {j : Nat} {w w' : World}, Wrts g o y j w w' → ∀ {B : Nat}, (∀ i, i < j → B ≤ g i) → B ≤ w.heap.size → Below B w w'
  | 0, w, w', h, B, _, _ => by rw [show w' = w from h]; exact Below.refl _ _
  | j + 1, w, w', ⟨w1, h1, h2⟩, B, hB, hw => (Wrts.low h1 (fun i hi => hB i (by omega)) hw).trans (h2.low (hB j (by omega)) (by have := h1.size; omega))
theorem Wrts.rows : ∀ {j : Nat} {w w' : World}, Wrts g o y j w w' → ∀ {k : Nat} {c : Array Value}, row w k = some c → ∃ c', row w' k = some c' ∧ c'.size = c.size
  | 0, w, w', h, k, c, hr => by rw [show w' = w from h]; exact ⟨c, hr, rfl⟩
  | j + 1, w, w', ⟨w1, h1, h2⟩, k, c, hr => by
    obtain ⟨c1, r1, e1⟩ := Wrts.rows h1 hr
    obtain ⟨c2, r2, e2⟩ := h2.rows r1
    exact ⟨c2, r2, by omega⟩
theorem Wrts.other {j : Nat} {w w' : World} (h : Wrts g o y j w w') {k : Nat} {c : Array Value} (hr : row w k = some c) (hn : ∀ i, i < j → k ≠ g i) : row w' k = some c := by
  rw [row_heap (h.block (row_lt hr) hn)]; exact hr
theorem Wrts.slG {j : Nat} {w w' : World} (h : Wrts g o y j w w') {A : Option Addr} {n m D : Nat} {V : Nat → Value} (hs : SlG w D A n m V) (hD : D ≤ w.heap.size) (ho : ∀ i, i < j → Off (g i) n A) : SlG w' D A n m V :=
  ⟨hs.le, fun hn => by
    obtain ⟨k, q, e, hk, hc⟩ := hs.at_ hn
    refine ⟨k, q, e, hk, fun i hi => ?_⟩
    have hb := h.block (k := k) (by omega) (fun i hi => ho i hi hn _ e)
    rw [show w'.cell? ⟨k, q + i, none⟩ = w.cell? ⟨k, q + i, none⟩ by unfold World.cell?; rw [hb]]
    exact hc i hi⟩
theorem Wrts.congr {y' : Nat → Int} : ∀ {j : Nat} {w w' : World}, Wrts g o y j w w' → (∀ i, i < j → y i = y' i) → Wrts g o y' j w w'
  | 0, w, w', h, _ => h
  | j + 1, w, w', ⟨w1, h1, h2⟩, he => ⟨w1, Wrts.congr h1 (fun i hi => he i (by omega)), by rw [← he j (by omega)]; exact h2⟩
end
end Go.Proofs.YteffjpdcghlnlaaGreatDoor.Oct

/-! ## WiS -/
/- What stays while takers store into the blocks of the call's own. Of whatever program. -/
namespace Go.Proofs.YteffjpdcghlnlaaGreatDoor.Oct
open Go.RowKit
set_option linter.unusedVariables false

section
variable {w W w' w2 : World} {hot : Nat → Prop}
end
/- results: a struct's cells and a slot, or two -/
theorem load_row {P : Program} {ty : TypeId} {d : TypeDesc} {w : World} {b : Nat} {c : Array Value} (hr : row w b = some c) (hu : P.underlying ty = some d) (hd : d.isRow = true) (hi : (P.info? ty).map (·.size) = some c.size) : (loadVar ty ⟨b, 0, none⟩).run P w = .ok (.agg c) w := by
  obtain ⟨t', ht⟩ := row_is hr
  have hg : w.rangeAt b 0 (c.extract 0 (0 + c.size)).toList := World.rangeAt_of_block ht 0 c.size
  have hx := run_loadVar_mid (P := P) w b 0 ty _ d hg hu hd (by rw [hi]; simp)
  rw [Array.toArray_toList, Nat.zero_add, Array.extract_size] at hx
  exact hx
theorem res_ctt {P : Program} {fn : Func} {p u v : Tmp} {ty : TypeId} (h : fn.results = #[.cell p ty, .tmp u, .tmp v]) (tmps : Array Value) (w : World) (b : Nat) (c : Array Value) (d : TypeDesc)
    (hp : tmps.getD p undef = .pointer (some ⟨b, 0, none⟩)) (hr : row w b = some c) (hu : P.underlying ty = some d) (hd : d.isRow = true) (hi : (P.info? ty).map (·.size) = some c.size) :
    (results fn tmps).run P w = .ok (.tuple #[.agg c, tmps.getD u undef, tmps.getD v undef]) w := by
  have hp2 : tmps[p]?.getD undef = .pointer (some ⟨b, 0, none⟩) := by simpa using hp
  simp only [results, h]
  simp [hp2, asAddr, load_row hr hu hd hi]
/- a struct of seven, or four, cells laid cell by cell -/
end Go.Proofs.YteffjpdcghlnlaaGreatDoor.Oct

/-! ## WiP -/
/- Contracts: wire's takers. -/
namespace Go.Proofs.YteffjpdcghlnlaaGreatDoor.Oct
open Go.ChangeShapes Go.WideShapes Go.ChangeAt Go.RowKit
set_option linter.unusedVariables false

/-- what numbersTo's closure ends in -/
def ntP (n : Nat) (f : Bf) (cnt : Nat) (g o : Nat → Nat) (w : World) (e : Ending) (w' : World) : Prop :=
  (puE n f cnt ≠ 0 ∧ e = .returned (.tuple #[.slice none 0 0, .int .i64 (puE n f cnt : Nat)]) ∧ ∃ i y, i ≤ cnt ∧ Wrts g o y i w w') ∨
  (puE n f cnt = 0 ∧ ∃ v, e = .returned (.tuple #[v, .int .i64 0]) ∧ Wrts g o (fun j => puX f j) cnt w w' ∧ Own w' w.heap.size 5 v (n - puO f cnt) (offF f (puO f cnt)))
set_option maxHeartbeats 8000000 in
theorem nto_any (X n c cnt cz : Nat) (A AZ : Option Addr) (f : Bf) (g o : Nat → Nat) (w : World) (hr : row w X = some #[.slice AZ cnt cz]) (hz : SlG w w.heap.size AZ cnt cz (fun j => .pointer (some ⟨g j, o j, none⟩)))
    (hzg : ∀ j, j < cnt → Off (g j) cnt AZ) (hg : ∀ j, j < cnt → g j < w.heap.size ∧ ∃ cs, row w (g j) = some cs ∧ o j < cs.size) (hs : Sl w w.heap.size A n c f) (hoff : ∀ j, j < cnt → Off (g j) n A) (hn : n ≤ 140737488355328) (h1 : 0 < cnt) (hcnt : cnt ≤ 100) :
    Calls Tryz.prog 202 #[.slice A n c, .pointer (some ⟨X, 0, none⟩)] w (ntP n f cnt g o w) := by
  have hcell := box_cell1 hr
  have HZ := Lib.hid hz
  have HZG := Lib.hid hzg
  have HG := Lib.hid hg
  have HS := Lib.hid hs
  have HOF := Lib.hid hoff
  clear hs hz hzg hg hoff hr
  go_enter Tryz.func202, Tryz.ntmps202
  go_wp2_with fail
  clear hcell
  go_loopw [3, 10] (fun rv iv wr => ∃ j : Nat, j ≤ cnt ∧ iv = .int .i64 (j : Int) ∧ puE n f j = 0 ∧ Wrts g o (fun j => puX f j) j w wr ∧ (∃ A' c', rv = .slice A' (n - puO f j) c' ∧ Sl wr wr.heap.size A' (n - puO f j) c' (offF f (puO f j))) ∧ (0 < j → Own wr w.heap.size 5 rv (n - puO f j) (offF f (puO f j)))) (fun _ iv _ => cnt - (intOf iv).toNat)
  case atStart => exact ⟨0, by omega, rfl, rfl, rfl, ⟨A, c, rfl, by rw [show puO f 0 = 0 from rfl, Nat.sub_zero, offF_zero]; exact HS.out⟩, fun h => by omega⟩
  case round =>
    obtain ⟨j, hj, rfl, hf, hw, ⟨A', c', hv, hsl⟩, ho⟩ := hrel
    obtain ⟨wo, rfl⟩ : ∃ wo : World, wo = wr := ⟨_, rfl⟩
    subst hv
    have HF := Lib.hid hf
    have HW := Lib.hid hw
    have HSL := Lib.hid hsl
    have HO := Lib.hid ho
    have hsz := hw.size
    clear hf hw hsl ho
    by_cases hlt : j < cnt
    · have hdj : decide ((j : Int) < (cnt : Int)) = true := by simp; omega
      obtain ⟨k0, q0, hA0, hk0, hcl⟩ := (HW.out.slG HZ.out (Nat.le_refl _) fun i hi => HZG.out i (by omega)).at_ (by omega)
      have hc := hcl j hlt
      subst hA0
      clear hcl
      have H2 := Lib.hid (take_num (n - puO f j) c' A' (offF f (puO f j)) wo HSL.out (by omega))
      obtain ⟨hgj, cs, hcs, hos⟩ := HG.out j hlt
      obtain ⟨cs1, hr1, hs1⟩ := HW.out.rows hcs
      obtain ⟨G, hG⟩ : ∃ G, G = g j := ⟨_, rfl⟩
      obtain ⟨O, hO⟩ : ∃ O, O = o j := ⟨_, rfl⟩
      rw [← hG] at hc hr1 hgj
      rw [← hO] at hc hos
      have HGG := Lib.hid hG
      have HOO := Lib.hid hO
      have R1 := Lib.hid hr1
      clear hcs hG hO hr1
      go_wp2_with fail
      refine H2.out.mono ?_
      rintro e w2 (⟨hz, rfl, hb⟩ | ⟨hz, v2, rfl, ho2, hb⟩)
      · have HE := Lib.hid (show puE n f cnt = tkE (n - puO f j) (offF f (puO f j)) from fi_first HF.out hlt hz)
        have HZ2 := Lib.hid hz
        have r2 := carry hb R1.out
        have hcell : w2.cell? ⟨G, O, none⟩ = some cs1[O] := by rw [cell_row r2]; exact Array.getElem?_eq_getElem (by omega)
        have hfz := froz_row r2 O
        have HW2 := Lib.hid (show Wrts g o (fun i => if i = j then 0 else puX f i) (j + 1) w (w2.setCell ⟨G, O, none⟩ (.int .i64 0)) from ⟨wo, HW.out.congr fun i hi => by rw [if_neg (by omega)], w2, hb, by rw [← HGG.out, ← HOO.out]; simp⟩)
        clear hz hb H2 hc r2
        obtain ⟨Y, hY⟩ : ∃ Y, Y = tkE (n - puO f j) (offF f (puO f j)) := ⟨_, rfl⟩
        have hne : ((Y : Int) != 0) = true := by have := HZ2.out; rw [← hY] at this; simp; omega
        rw [← hY]
        have HY := Lib.hid hY
        clear hY
        go_wp2_with fail
        exact bodyPost_ret (v := .tuple #[.slice none 0 0, .int .i64 Y]) (by simp [results, Tryz.results202, go_sem]) rfl (.inl ⟨by rw [HE.out]; exact HZ2.out, by rw [HE.out, HY.out], j + 1, _, by omega, HW2.out⟩)
      · have HF2 := Lib.hid (show puE n f (j + 1) = 0 from (fi_step HF.out).trans hz)
        have r2 := carry hb R1.out
        have hcell : w2.cell? ⟨G, O, none⟩ = some cs1[O] := by rw [cell_row r2]; exact Array.getElem?_eq_getElem (by omega)
        have hfz := froz_row r2 O
        have HW2 := Lib.hid (show Wrts g o (fun i => puX f i) (j + 1) w (w2.setCell ⟨G, O, none⟩ (.int .i64 (puX f j : Nat))) from ⟨wo, HW.out, w2, hb, by rw [← HGG.out, ← HOO.out]⟩)
        have ho4 : Own (w2.setCell ⟨G, O, none⟩ (.int .i64 (puX f j : Nat))) w.heap.size 5 v2 (n - puO f (j + 1)) (offF f (puO f (j + 1))) := by
          rw [offF_offF, Nat.sub_sub] at ho2
          exact ((ho2.setCell (by show G < wo.heap.size; omega) _).base hsz)
        obtain ⟨A4, c4, hv4, hs4, -, -⟩ := ho4.sl
        subst hv4
        have O4 := Lib.hid ho4
        have S4 := Lib.hid hs4
        clear hz hb H2 hc r2 ho2 ho4 hs4 HSL HO HW HF
        obtain ⟨Y, hY⟩ : ∃ Y, Y = puX f j := ⟨_, rfl⟩
        rw [show tkV (offF f (puO f j)) = Y from hY.symm]
        rw [← hY] at HW2 O4 S4
        clear hY
        go_wp2_with fail
        go_roundw
        case rel => exact ⟨j + 1, by omega, rfl, HF2.out, HW2.out, ⟨_, _, rfl, S4.out⟩, fun _ => O4.out⟩
        case measure => simp [intOf]; omega
    · have hdj : decide ((j : Int) < (cnt : Int)) = false := by simp; omega
      have hjn : j = cnt := by omega
      subst hjn
      go_wp2_with fail
      exact bodyPost_ret (v := .tuple #[.slice A' (n - puO f j) c', .int .i64 0]) (by simp [results, Tryz.results202, go_sem]) rfl (.inr ⟨HF.out, _, rfl, HW.out, HO.out h1⟩)

end Go.Proofs.YteffjpdcghlnlaaGreatDoor.Oct

/-! ## WiF -/
/- Contracts: wire's putters, encode. -/
namespace Go.Proofs.YteffjpdcghlnlaaGreatDoor.Oct
open Go.ChangeShapes Go.WideShapes Go.ChangeAt Go.RowKit
set_option linter.unusedVariables false

/-- what a putter ends in -/
def ptP (E N L : Nat) (b F : Bf) (w : World) (e : Ending) (w' : World) : Prop :=
  (E ≠ 0 ∧ e = .returned (.tuple #[.slice none 0 0, .int .i64 (E : Nat)]) ∧ Below w.heap.size w w') ∨
  (E = 0 ∧ ∃ v, e = .returned (.tuple #[v, .int .i64 0]) ∧ Own w' w.heap.size 5 v (N + L) (catF N b F) ∧ Below w.heap.size w w')
/-- a function that is entered when it is called -/
def Entr (g : FuncId) : Prop := ∀ (xs : Array Value) (w : World), (callFunc g xs).run Tryz.prog w = .ok (.enter g xs) w
theorem entr {f : FuncId} {fn : Func} (hf : Tryz.prog.funcs[f]? = some fn) (hn : (fn.name == "runtime.NumGoroutine") = false) (hb : fn.body.isSome = true) : Entr f := fun xs w => by
  have h1 : fn.name ≠ "runtime.NumGoroutine" := by simpa using hn
  obtain ⟨c, hc⟩ := Option.isSome_iff_exists.1 hb
  simp [callFunc, hf, h1, hc]
/-- v is a putter, from w on -/
def Puts (W : World) (v : Value) (E L : Nat) (F : Bf) : Prop := ∃ g p, v = .func (.func g) #[] #[p] ∧ Entr g ∧
  ∀ w, Below W.heap.size W w → ∀ N c A b, Sl w w.heap.size A N c b → N ≤ 100000000000000 → Calls Tryz.prog g #[.slice A N c, p] w (ptP E N L b F w)
theorem Puts.shape {W : World} {v : Value} {E L : Nat} {F : Bf} (h : Puts W v E L F) : ∃ g p, v = .func (.func g) #[] #[p] := by
  obtain ⟨g, p, h, _⟩ := h
  exact ⟨g, p, h⟩
theorem Puts.below {W W' : World} {v : Value} {E L : Nat} {F : Bf} (h : Puts W v E L F) (hb : Below W.heap.size W W') : Puts W' v E L F := by
  obtain ⟨g, p, rfl, he, hc⟩ := h
  exact ⟨g, p, rfl, he, fun w hw => hc w (onto hb hb.size hw)⟩

set_option maxHeartbeats 4000000 in
theorem encode_any (cnt c : Nat) (AP : Option Addr) (V : Nat → Value) (E L : Nat → Nat) (F : Nat → Bf) (w : World) (hs : SlG w w.heap.size AP cnt c V) (hp : ∀ j, j < cnt → Puts w (V j) (E j) (L j) (F j))
    (hL : ∀ j, j < cnt → fiE E j = 0 → cuL L j ≤ 100000000000000) (hcnt : cnt ≤ 100) :
    Calls Tryz.prog 169 #[.slice AP cnt c] w (ptP (fiE E cnt) 0 (cuL L cnt) nF (cuF L F cnt) w) := by
  have HS := Lib.hid hs
  have HP := Lib.hid hp
  have HL := Lib.hid hL
  clear hs hp hL
  go_enter Tryz.func169, Tryz.ntmps169
  go_wp2_with fail
  go_loopw [4, 11] (fun bv iv wr => ∃ j : Nat, j ≤ cnt ∧ iv = .int .i64 (j : Int) ∧ fiE E j = 0 ∧ Own wr w.heap.size 5 bv (cuL L j) (cuF L F j) ∧ Below w.heap.size w wr) (fun _ iv _ => cnt - (intOf iv).toNat)
  case atStart => exact ⟨0, by omega, rfl, rfl, Own.nil _ _ _ _, Below.refl _ _⟩
  case round =>
    obtain ⟨j, hj, rfl, hf, ho, hb⟩ := hrel
    obtain ⟨wo, rfl⟩ : ∃ wo : World, wo = wr := ⟨_, rfl⟩
    have HF := Lib.hid hf
    have HO := Lib.hid ho
    have HB := Lib.hid hb
    obtain ⟨A, cb, hv, hsl, -, -⟩ := ho.sl
    subst hv
    have HSL := Lib.hid hsl
    clear hf ho hb hsl
    by_cases hlt : j < cnt
    · have hd : decide ((j : Int) < (cnt : Int)) = true := by simp; omega
      obtain ⟨g0, o0, hA, hg, hcl⟩ := (HS.out.below HB.out).at_ (by omega)
      have hc0 := hcl j hlt
      subst hA
      obtain ⟨g, p, hV, hen, hcall⟩ := HP.out j hlt
      unfold Entr at hen
      have HC := Lib.hid (hcall wo HB.out (cuL L j) cb A (cuF L F j) HSL.out (HL.out j hlt HF.out))
      rw [hV] at hc0
      clear hcl hcall hV
      go_wp2_with fail
      refine HC.out.mono ?_
      rintro e w2 (⟨hz, rfl, hb⟩ | ⟨hz, v2, rfl, ho, hb⟩)
      · have HE := Lib.hid (show fiE E cnt = E j from fi_first HF.out hlt hz)
        have HZ := Lib.hid hz
        have B2 := Lib.hid (onto HB.out HB.out.size hb)
        obtain ⟨Y, hY⟩ : ∃ Y, Y = E j := ⟨_, rfl⟩
        have hne : ((Y : Int) != 0) = true := by have := HZ.out; rw [← hY] at this; simp; omega
        have hne2 : ((Y : Int) == 0) = false := by have := HZ.out; rw [← hY] at this; simp; omega
        rw [← hY]
        have HY := Lib.hid hY
        clear hz hb HC hY hc0 hen
        go_wp2_with fail
        exact bodyPost_ret (v := .tuple #[.slice none 0 0, .int .i64 Y]) (by simp [results, Tryz.results169, go_sem]) rfl (.inl ⟨by rw [HE.out]; exact HZ.out, by rw [HE.out, HY.out], B2.out⟩)
      · have HF2 := Lib.hid (show fiE E (j + 1) = 0 by rw [fi_step HF.out]; exact hz)
        have O2 := Lib.hid (show Own w2 w.heap.size 5 v2 (cuL L (j + 1)) (cuF L F (j + 1)) from ho.base HB.out.size)
        have B2 := Lib.hid (onto HB.out HB.out.size hb)
        clear hz ho hb HC hc0 hen HO HSL HB
        go_wp2_with fail
        go_roundw
        case rel => exact ⟨j + 1, by omega, rfl, HF2.out, O2.out, B2.out⟩
        case measure => simp [intOf]; omega
    · have hd : decide ((j : Int) < (cnt : Int)) = false := by simp; omega
      have hjn : j = cnt := by omega
      subst hjn
      go_wp2_with fail
      exact bodyPost_ret (v := .tuple #[.slice A (cuL L j) cb, .int .i64 0]) (by simp [results, Tryz.results169, go_sem]) rfl (.inr ⟨HF.out, _, rfl, by rw [Nat.zero_add, catF_zero]; exact HO.out, HB.out⟩)
end Go.Proofs.YteffjpdcghlnlaaGreatDoor.Oct

/-! ## WiQ -/
/- Contracts: wire's decode, decodeWhole; those that make takers. -/
namespace Go.Proofs.YteffjpdcghlnlaaGreatDoor.Oct
open Go.ChangeShapes Go.WideShapes Go.ChangeAt Go.RowKit
set_option linter.unusedVariables false

end Go.Proofs.YteffjpdcghlnlaaGreatDoor.Oct

/-! ## WiG -/
/- Contracts: wire's numbers, text, list. -/
namespace Go.Proofs.YteffjpdcghlnlaaGreatDoor.Oct
open Go.ChangeShapes Go.WideShapes Go.ChangeAt Go.RowKit
set_option linter.unusedVariables false

set_option maxHeartbeats 4000000 in
theorem nums_any (X N c n c1 : Nat) (A A1 : Option Addr) (b : Bf) (x : Nat → Int) (w : World) (hr : row w X = some #[.slice A1 n c1]) (hl : SlG w w.heap.size A1 n c1 (iV x)) (hx : ∀ i, i < n → -9223372036854775808 ≤ x i ∧ x i < 9223372036854775808)
    (hs : Sl w w.heap.size A N c b) (hN : N ≤ 100000000000000) (hn : n ≤ 100) (h1 : 0 < n) :
    Calls Tryz.prog 207 #[.slice A N c, .pointer (some ⟨X, 0, none⟩)] w (ptP (nuE x n) N (nuL x n) b (nuF x n) w) := by
  have hcell := box_cell1 hr
  have HS := Lib.hid hs
  have HL := Lib.hid hl
  have HX := Lib.hid hx
  clear hs hl hx hr
  go_enter Tryz.func207, Tryz.ntmps207
  go_wp2_with fail
  clear hcell
  go_loopw [0, 11] (fun bv iv wr => ∃ j : Nat, j ≤ n ∧ iv = .int .i64 (j : Int) ∧ nuE x j = 0 ∧ (∃ A' c', bv = .slice A' (N + nuL x j) c' ∧ Sl wr wr.heap.size A' (N + nuL x j) c' (catF N b (nuF x j))) ∧ (0 < j → Own wr w.heap.size 5 bv (N + nuL x j) (catF N b (nuF x j))) ∧ Below w.heap.size w wr) (fun _ iv _ => n - (intOf iv).toNat)
  case atStart => exact ⟨0, by omega, rfl, rfl, ⟨A, c, rfl, HS.out.congr fun i hi => by show b i = catF N b (nuF x 0) i; unfold catF; rw [if_pos (by exact hi)]⟩, fun h => by omega, Below.refl _ _⟩
  case round =>
    clear HS
    obtain ⟨j, hj, rfl, hf, ⟨A', c', hv, hsl⟩, ho, hb⟩ := hrel
    obtain ⟨wo, rfl⟩ : ∃ wo : World, wo = wr := ⟨_, rfl⟩
    subst hv
    have HF := Lib.hid hf
    have HSL := Lib.hid hsl
    have HO := Lib.hid ho
    have HB := Lib.hid hb
    have hz := hb.size
    have hl9 := nuL_le x j
    clear hf hsl ho hb
    by_cases hlt : j < n
    · have hdj : decide ((j : Int) < (n : Int)) = true := by simp; omega
      obtain ⟨g, o, hA1, hg, hcl⟩ := (HL.out.below HB.out).at_ (by omega)
      have hc := hcl j hlt
      unfold iV at hc
      subst hA1
      clear hcl
      obtain ⟨y, hy⟩ : ∃ y, y = x j := ⟨_, rfl⟩
      rw [← hy] at hc
      have hxj := HX.out j hlt
      rw [← hy] at hxj
      have HY := Lib.hid hy
      clear hy
      by_cases hneg : y < 0
      · have H2 := Lib.hid (put_neg y (N + nuL x j) c' A' wo hneg)
        have HE := Lib.hid (show nuE x n = 1 by
          have h1 : neE x j = 1 := by unfold neE; rw [if_pos (by rw [← HY.out]; exact hneg)]
          have := fi_first HF.out hlt (by rw [h1]; omega)
          rw [h1] at this
          exact this)
        clear hneg
        go_wp2_with fail
        refine H2.out.mono ?_
        rintro e w2 ⟨rfl, rfl⟩
        clear H2 hc
        go_wp2_with fail
        exact bodyPost_ret (v := .tuple #[.slice none 0 0, .int .i64 1]) (by simp [results, Tryz.results207, go_sem]) rfl (.inl ⟨by rw [HE.out]; omega, by rw [HE.out]; rfl, HB.out⟩)
      · obtain ⟨m, rfl⟩ : ∃ m : Nat, y = m := ⟨y.toNat, by omega⟩
        have HM := Lib.hid (show (x j).toNat = m by rw [← HY.out]; rfl)
        have H2 := Lib.hid (put_any m (N + nuL x j) c' A' (catF N b (nuF x j)) wo HSL.out (by omega) (by omega))
        have HF2 := Lib.hid (show nuE x (j + 1) = 0 from (fi_step HF.out).trans (by
          unfold neE
          rw [if_neg (by rw [← HY.out]; omega)]))
        clear hneg
        go_wp2_with fail
        refine H2.out.mono ?_
        rintro e w3 ⟨v3, rfl, ho3, hb3⟩
        have ho4 : Own w3 w.heap.size 5 v3 (N + nuL x (j + 1)) (catF N b (nuF x (j + 1))) := by
          have e1 := cu_cat (fun i => encL (x i).toNat) (fun i => encF (x i).toNat) N j b
          simp only [HM.out] at e1
          rw [show nuL x (j + 1) = nuL x j + encL m by show cuL _ (j + 1) = _; rw [cuL]; simp only [HM.out], ← Nat.add_assoc]
          refine (Own.base ho3 hz).congr fun i _ => ?_
          rw [e1]
        obtain ⟨A4, c4, hv4, hs4, -, -⟩ := ho4.sl
        subst hv4
        have O4 := Lib.hid ho4
        have S4 := Lib.hid hs4
        have B4 := Lib.hid (onto HB.out hz hb3)
        clear H2 hc ho3 hb3 ho4 hs4 HSL HO HB HF
        go_wp2_with fail
        go_roundw
        case rel => exact ⟨j + 1, by omega, rfl, HF2.out, ⟨_, _, rfl, S4.out⟩, fun _ => O4.out, B4.out⟩
        case measure => simp [intOf]; omega
    · have hdj : decide ((j : Int) < (n : Int)) = false := by simp; omega
      have hjn : j = n := by omega
      subst hjn
      go_wp2_with fail
      exact bodyPost_ret (v := .tuple #[.slice A' (N + nuL x j) c', .int .i64 0]) (by simp [results, Tryz.results207, go_sem]) rfl (.inr ⟨HF.out, _, rfl, HO.out h1, HB.out⟩)

/-- a text's error -/
def txE (T : Nat) : Nat := if 4096 < T then 2 else 0
set_option maxHeartbeats 1000000 in
theorem text1_any (X N c T c1 : Nat) (A A1 : Option Addr) (b t : Bf) (w : World) (hr : row w X = some #[.slice A1 T c1]) (ht : Sl w w.heap.size A1 T c1 t) (hs : Sl w w.heap.size A N c b) (hN : N ≤ 100000000000000) :
    Calls Tryz.prog 208 #[.slice A N c, .pointer (some ⟨X, 0, none⟩)] w (ptP (txE T) N (txL T) b (txF T t) w) := by
  have hcell := box_cell1 hr
  by_cases hT : 4096 < T
  · have H1 := Lib.hid (putt_long N c T c1 A A1 w hT)
    have HE := Lib.hid (show txE T = 2 by unfold txE; rw [if_pos hT])
    clear hr ht hs hT
    go_enter Tryz.func208, Tryz.ntmps208
    go_wp2_with fail
    refine H1.out.mono ?_
    rintro e w1 ⟨rfl, rfl⟩
    clear H1
    go_wp2_with fail
    exact bodyPost_ret (v := .tuple #[.slice none 0 0, .int .i64 2]) (by simp [results, Tryz.results208, go_sem]) rfl (.inl ⟨by rw [HE.out]; omega, by rw [HE.out]; rfl, Below.refl _ _⟩)
  · have H1 := Lib.hid (putt_any N c T c1 A A1 b t w hs ht (by omega) (by omega))
    have HE := Lib.hid (show txE T = 0 by unfold txE; rw [if_neg hT])
    clear hr ht hs hT
    go_enter Tryz.func208, Tryz.ntmps208
    go_wp2_with fail
    refine H1.out.mono ?_
    rintro e w1 ⟨v1, rfl, ho, hb⟩
    have O1 := Lib.hid ho
    have B1 := Lib.hid hb
    clear H1 ho hb
    go_wp2_with fail
    exact bodyPost_ret (v := .tuple #[v1, .int .i64 0]) (by simp [results, Tryz.results208, go_sem]) rfl (.inr ⟨HE.out, _, rfl, O1.out, B1.out⟩)

/- those that make them -/
theorem mknums_any (n c1 : Nat) (A1 : Option Addr) (x : Nat → Int) (w : World) (hl : SlG w w.heap.size A1 n c1 (iV x)) (hx : ∀ i, i < n → -9223372036854775808 ≤ x i ∧ x i < 9223372036854775808) (hn : n ≤ 100) (h1 : 0 < n) :
    Calls Tryz.prog 170 #[.slice A1 n c1] w fun e w' => ∃ v, e = .returned v ∧ v.oneCell' = true ∧ Puts w' v (nuE x n) (nuL x n) (nuF x n) ∧ Below w.heap.size w w' := by
  have HL := Lib.hid hl
  clear hl
  go_enter Tryz.func170, Tryz.ntmps170
  go_wp2_with fail
  go_ret
  refine ⟨_, rfl, rfl, ⟨207, .pointer (some ⟨w.heap.size, 0, none⟩), rfl, entr (fn := Tryz.f207) (by kernel_rfl) (by kernel_rfl) (by kernel_rfl), fun w' hb N c A b hs hN => ?_⟩, (Below.refl _ _).alloc (Nat.le_refl _) _⟩
  have hb2 : Below w.heap.size w w' := onto ((Below.refl w.heap.size w).alloc (Nat.le_refl _) _) (by simp) hb
  exact nums_any w.heap.size N c n c1 A A1 b x w' (carry hb (row_alloc_at _ _ _ _ rfl)) ((HL.out.below hb2).more hb2.size) hx hs hN hn h1
theorem mktext_any (T c1 : Nat) (A1 : Option Addr) (t : Bf) (w : World) (ht : Sl w w.heap.size A1 T c1 t) :
    Calls Tryz.prog 171 #[.slice A1 T c1] w fun e w' => ∃ v, e = .returned v ∧ v.oneCell' = true ∧ Puts w' v (txE T) (txL T) (txF T t) ∧ Below w.heap.size w w' := by
  have HL := Lib.hid ht
  clear ht
  go_enter Tryz.func171, Tryz.ntmps171
  go_wp2_with fail
  go_ret
  refine ⟨_, rfl, rfl, ⟨208, .pointer (some ⟨w.heap.size, 0, none⟩), rfl, entr (fn := Tryz.f208) (by kernel_rfl) (by kernel_rfl) (by kernel_rfl), fun w' hb N c A b hs hN => ?_⟩, (Below.refl _ _).alloc (Nat.le_refl _) _⟩
  have hb2 : Below w.heap.size w w' := onto ((Below.refl w.heap.size w).alloc (Nat.le_refl _) _) (by simp) hb
  exact text1_any w.heap.size N c T c1 A A1 b t w' (carry hb (row_alloc_at _ _ _ _ rfl)) ((HL.out.below hb2).more hb2.size) hs hN
end Go.Proofs.YteffjpdcghlnlaaGreatDoor.Oct

/-! ## WiA -/
/- wire's Check: what a command's numbers and lengths must be; contracts of span.has, shapeOf, fits, Check. -/
namespace Go.Proofs.YteffjpdcghlnlaaGreatDoor.Oct
open Go.ChangeShapes Go.WideShapes Go.ChangeAt Go.RowKit
set_option linter.unusedVariables false

/-- from a to b -/
def inB (a b x : Int) : Bool := decide (a ≤ x) && decide (x ≤ b)
set_option maxHeartbeats 1000000 in
theorem has_any (a b x : Int) (w : World) :
    Calls Tryz.prog 133 #[.agg #[.int .i64 a, .int .i64 b], .int .i64 x] w fun e w' => e = .returned (.bool (inB a b x)) ∧ Below w.heap.size w w' := by
  by_cases h1 : a ≤ x
  · have hd1 : decide (a ≤ x) = true := by simp; omega
    by_cases h2 : x ≤ b
    · have hd2 : decide (x ≤ b) = true := by simp; omega
      have hI := Lib.hid (show inB a b x = true by unfold inB; rw [hd1, hd2]; rfl)
      go_enter Tryz.func133, Tryz.ntmps133
      go_wp2_with fail
      go_ret
      exact ⟨by rw [hI.out]; rfl, (Below.refl _ _).alloc (Nat.le_refl _) _⟩
    · have hd2 : decide (x ≤ b) = false := by simp; omega
      have hI := Lib.hid (show inB a b x = false by unfold inB; rw [hd1, hd2]; rfl)
      go_enter Tryz.func133, Tryz.ntmps133
      go_wp2_with fail
      go_ret
      exact ⟨by rw [hI.out]; rfl, (Below.refl _ _).alloc (Nat.le_refl _) _⟩
  · have hd1 : decide (a ≤ x) = false := by simp; omega
    have hI := Lib.hid (show inB a b x = false by unfold inB; rw [hd1]; rfl)
    go_enter Tryz.func133, Tryz.ntmps133
    go_wp2_with fail
    go_ret
    exact ⟨by rw [hI.out]; rfl, (Below.refl _ _).alloc (Nat.le_refl _) _⟩

/-- the twelve numbers of a kind's shape -/
def shN (k : Int) : List Int :=
  if k = 1 then [0, 0, 0, 0, 0, 0, 0, 0, 0, 0, 0, 0]
  else if k = 2 then [0, 0, 0, 0, 1, 1099511627776, 0, 0, 0, 0, 0, 0]
  else if k = 3 then [1, 1099511627776, 1, 1099511627776, 0, 0, 0, 0, 0, 0, 0, 0]
  else if k = 4 then [1, 1099511627776, 1, 1099511627776, 1, 1099511627776, 0, 0, 0, 0, 0, 0]
  else if k = 5 then [1, 1099511627776, 1, 1099511627776, 1, 1099511627776, 0, 1, 0, 0, 0, 0]
  else if k = 6 then [1, 1099511627776, 1, 1099511627776, 1, 1099511627776, 1, 9223372036854775807, 0, 0, 0, 0]
  else if k = 7 then [1, 1099511627776, 1, 1099511627776, 1, 1099511627776, 0, 0, 0, 64, 0, 32]
  else if k = 8 then [1, 1099511627776, 1, 1099511627776, 0, 0, 0, 0, 0, 128, 0, 32]
  else if k = 9 then [1, 1099511627776, 1, 1099511627776, 0, 0, 0, 0, 0, 128, 0, 32]
  else if k = 10 then [1, 1099511627776, 1, 1099511627776, 0, 0, 0, 0, 1, 64, 0, 0]
  else [0, 0, 0, 0, 0, 0, 0, 0, 0, 0, 0, 0]
def sh (k : Int) (j : Nat) : Int := (shN k).getD j 0
theorem shape_below (w : World) (a b c : Array Value) (t u v : TypeId) : Below w.heap.size w (((w.alloc (.cells a t)).alloc (.cells b u)).alloc (.cells c v)) :=
  (((Below.refl _ _).alloc (by simp) _).alloc (by simp) _).alloc (by simp; omega) _
def kiB (k : Int) : Bool := decide (1 ≤ k) && decide (k ≤ 10)
set_option maxHeartbeats 4000000 in
theorem shape_any (k : Int) (w : World) :
    Calls Tryz.prog 77 #[.int .i64 k] w fun e w' => e = .returned (.tuple #[.agg #[.int .i64 (sh k 0), .int .i64 (sh k 1), .int .i64 (sh k 2), .int .i64 (sh k 3), .int .i64 (sh k 4), .int .i64 (sh k 5), .int .i64 (sh k 6), .int .i64 (sh k 7), .int .i64 (sh k 8), .int .i64 (sh k 9), .int .i64 (sh k 10), .int .i64 (sh k 11)], .bool (kiB k)]) ∧ Below w.heap.size w w' := by
  have hcase : k = 1 ∨ k = 2 ∨ k = 3 ∨ k = 4 ∨ k = 5 ∨ k = 6 ∨ k = 7 ∨ k = 8 ∨ k = 9 ∨ k = 10 ∨ (k ≠ 1 ∧ k ≠ 2 ∧ k ≠ 3 ∧ k ≠ 4 ∧ k ≠ 5 ∧ k ≠ 6 ∧ k ≠ 7 ∧ k ≠ 8 ∧ k ≠ 9 ∧ k ≠ 10) := by omega
  rcases hcase with rfl | rfl | rfl | rfl | rfl | rfl | rfl | rfl | rfl | rfl | ⟨h1, h2, h3, h4, h5, h6, h7, h8, h9, h10⟩
  · go_enter Tryz.func77, Tryz.ntmps77
    go_wp2_with fail
    exact bodyPost_ret (v := .tuple #[.agg #[.int .i64 (sh 1 0), .int .i64 (sh 1 1), .int .i64 (sh 1 2), .int .i64 (sh 1 3), .int .i64 (sh 1 4), .int .i64 (sh 1 5), .int .i64 (sh 1 6), .int .i64 (sh 1 7), .int .i64 (sh 1 8), .int .i64 (sh 1 9), .int .i64 (sh 1 10), .int .i64 (sh 1 11)], .bool (kiB 1)]) (by simp [results, Tryz.results77, go_sem]; decide) rfl ⟨rfl, shape_below w _ _ _ _ _ _⟩
  · go_enter Tryz.func77, Tryz.ntmps77
    go_wp2_with fail
    exact bodyPost_ret (v := .tuple #[.agg #[.int .i64 (sh 2 0), .int .i64 (sh 2 1), .int .i64 (sh 2 2), .int .i64 (sh 2 3), .int .i64 (sh 2 4), .int .i64 (sh 2 5), .int .i64 (sh 2 6), .int .i64 (sh 2 7), .int .i64 (sh 2 8), .int .i64 (sh 2 9), .int .i64 (sh 2 10), .int .i64 (sh 2 11)], .bool (kiB 2)]) (by simp [results, Tryz.results77, go_sem]; decide) rfl ⟨rfl, shape_below w _ _ _ _ _ _⟩
  · go_enter Tryz.func77, Tryz.ntmps77
    go_wp2_with fail
    exact bodyPost_ret (v := .tuple #[.agg #[.int .i64 (sh 3 0), .int .i64 (sh 3 1), .int .i64 (sh 3 2), .int .i64 (sh 3 3), .int .i64 (sh 3 4), .int .i64 (sh 3 5), .int .i64 (sh 3 6), .int .i64 (sh 3 7), .int .i64 (sh 3 8), .int .i64 (sh 3 9), .int .i64 (sh 3 10), .int .i64 (sh 3 11)], .bool (kiB 3)]) (by simp [results, Tryz.results77, go_sem]; decide) rfl ⟨rfl, shape_below w _ _ _ _ _ _⟩
  · go_enter Tryz.func77, Tryz.ntmps77
    go_wp2_with fail
    exact bodyPost_ret (v := .tuple #[.agg #[.int .i64 (sh 4 0), .int .i64 (sh 4 1), .int .i64 (sh 4 2), .int .i64 (sh 4 3), .int .i64 (sh 4 4), .int .i64 (sh 4 5), .int .i64 (sh 4 6), .int .i64 (sh 4 7), .int .i64 (sh 4 8), .int .i64 (sh 4 9), .int .i64 (sh 4 10), .int .i64 (sh 4 11)], .bool (kiB 4)]) (by simp [results, Tryz.results77, go_sem]; decide) rfl ⟨rfl, shape_below w _ _ _ _ _ _⟩
  · go_enter Tryz.func77, Tryz.ntmps77
    go_wp2_with fail
    exact bodyPost_ret (v := .tuple #[.agg #[.int .i64 (sh 5 0), .int .i64 (sh 5 1), .int .i64 (sh 5 2), .int .i64 (sh 5 3), .int .i64 (sh 5 4), .int .i64 (sh 5 5), .int .i64 (sh 5 6), .int .i64 (sh 5 7), .int .i64 (sh 5 8), .int .i64 (sh 5 9), .int .i64 (sh 5 10), .int .i64 (sh 5 11)], .bool (kiB 5)]) (by simp [results, Tryz.results77, go_sem]; decide) rfl ⟨rfl, shape_below w _ _ _ _ _ _⟩
  · go_enter Tryz.func77, Tryz.ntmps77
    go_wp2_with fail
    exact bodyPost_ret (v := .tuple #[.agg #[.int .i64 (sh 6 0), .int .i64 (sh 6 1), .int .i64 (sh 6 2), .int .i64 (sh 6 3), .int .i64 (sh 6 4), .int .i64 (sh 6 5), .int .i64 (sh 6 6), .int .i64 (sh 6 7), .int .i64 (sh 6 8), .int .i64 (sh 6 9), .int .i64 (sh 6 10), .int .i64 (sh 6 11)], .bool (kiB 6)]) (by simp [results, Tryz.results77, go_sem]; decide) rfl ⟨rfl, shape_below w _ _ _ _ _ _⟩
  · go_enter Tryz.func77, Tryz.ntmps77
    go_wp2_with fail
    exact bodyPost_ret (v := .tuple #[.agg #[.int .i64 (sh 7 0), .int .i64 (sh 7 1), .int .i64 (sh 7 2), .int .i64 (sh 7 3), .int .i64 (sh 7 4), .int .i64 (sh 7 5), .int .i64 (sh 7 6), .int .i64 (sh 7 7), .int .i64 (sh 7 8), .int .i64 (sh 7 9), .int .i64 (sh 7 10), .int .i64 (sh 7 11)], .bool (kiB 7)]) (by simp [results, Tryz.results77, go_sem]; decide) rfl ⟨rfl, shape_below w _ _ _ _ _ _⟩
  · go_enter Tryz.func77, Tryz.ntmps77
    go_wp2_with fail
    exact bodyPost_ret (v := .tuple #[.agg #[.int .i64 (sh 8 0), .int .i64 (sh 8 1), .int .i64 (sh 8 2), .int .i64 (sh 8 3), .int .i64 (sh 8 4), .int .i64 (sh 8 5), .int .i64 (sh 8 6), .int .i64 (sh 8 7), .int .i64 (sh 8 8), .int .i64 (sh 8 9), .int .i64 (sh 8 10), .int .i64 (sh 8 11)], .bool (kiB 8)]) (by simp [results, Tryz.results77, go_sem]; decide) rfl ⟨rfl, shape_below w _ _ _ _ _ _⟩
  · go_enter Tryz.func77, Tryz.ntmps77
    go_wp2_with fail
    exact bodyPost_ret (v := .tuple #[.agg #[.int .i64 (sh 9 0), .int .i64 (sh 9 1), .int .i64 (sh 9 2), .int .i64 (sh 9 3), .int .i64 (sh 9 4), .int .i64 (sh 9 5), .int .i64 (sh 9 6), .int .i64 (sh 9 7), .int .i64 (sh 9 8), .int .i64 (sh 9 9), .int .i64 (sh 9 10), .int .i64 (sh 9 11)], .bool (kiB 9)]) (by simp [results, Tryz.results77, go_sem]; decide) rfl ⟨rfl, shape_below w _ _ _ _ _ _⟩
  · go_enter Tryz.func77, Tryz.ntmps77
    go_wp2_with fail
    exact bodyPost_ret (v := .tuple #[.agg #[.int .i64 (sh 10 0), .int .i64 (sh 10 1), .int .i64 (sh 10 2), .int .i64 (sh 10 3), .int .i64 (sh 10 4), .int .i64 (sh 10 5), .int .i64 (sh 10 6), .int .i64 (sh 10 7), .int .i64 (sh 10 8), .int .i64 (sh 10 9), .int .i64 (sh 10 10), .int .i64 (sh 10 11)], .bool (kiB 10)]) (by simp [results, Tryz.results77, go_sem]; decide) rfl ⟨rfl, shape_below w _ _ _ _ _ _⟩
  · have e1 : (k == 1) = false := by simp; omega
    have e2 : (k == 2) = false := by simp; omega
    have e3 : (k == 3) = false := by simp; omega
    have e4 : (k == 4) = false := by simp; omega
    have e5 : (k == 5) = false := by simp; omega
    have e6 : (k == 6) = false := by simp; omega
    have e7 : (k == 7) = false := by simp; omega
    have e8 : (k == 8) = false := by simp; omega
    have e9 : (k == 9) = false := by simp; omega
    have e10 : (k == 10) = false := by simp; omega
    have HZ := Lib.hid (show (∀ j, j < 12 → sh k j = 0) ∧ kiB k = false from ⟨fun j hj => by
      unfold sh shN
      simp only [h1, h2, h3, h4, h5, h6, h7, h8, h9, h10, if_false]
      have : j = 0 ∨ j = 1 ∨ j = 2 ∨ j = 3 ∨ j = 4 ∨ j = 5 ∨ j = 6 ∨ j = 7 ∨ j = 8 ∨ j = 9 ∨ j = 10 ∨ j = 11 := by omega
      rcases this with rfl | rfl | rfl | rfl | rfl | rfl | rfl | rfl | rfl | rfl | rfl | rfl <;> rfl, by unfold kiB; simp; omega⟩)
    clear h1 h2 h3 h4 h5 h6 h7 h8 h9 h10
    go_enter Tryz.func77, Tryz.ntmps77
    go_wp2_with fail
    exact bodyPost_ret (v := .tuple #[.agg #[.int .i64 (sh k 0), .int .i64 (sh k 1), .int .i64 (sh k 2), .int .i64 (sh k 3), .int .i64 (sh k 4), .int .i64 (sh k 5), .int .i64 (sh k 6), .int .i64 (sh k 7), .int .i64 (sh k 8), .int .i64 (sh k 9), .int .i64 (sh k 10), .int .i64 (sh k 11)], .bool (kiB k)]) (by simp [results, Tryz.results77, go_sem]; exact ⟨⟨(HZ.out.1 0 (by omega)).symm, (HZ.out.1 1 (by omega)).symm, (HZ.out.1 2 (by omega)).symm, (HZ.out.1 3 (by omega)).symm, (HZ.out.1 4 (by omega)).symm, (HZ.out.1 5 (by omega)).symm, (HZ.out.1 6 (by omega)).symm, (HZ.out.1 7 (by omega)).symm, (HZ.out.1 8 (by omega)).symm, (HZ.out.1 9 (by omega)).symm, (HZ.out.1 10 (by omega)).symm, (HZ.out.1 11 (by omega)).symm⟩, HZ.out.2⟩) rfl ⟨rfl, shape_below w _ _ _ _ _ _⟩
end Go.Proofs.YteffjpdcghlnlaaGreatDoor.Oct

/-! ## WiJ -/
/- Contract: wire's checkEntry. -/
namespace Go.Proofs.YteffjpdcghlnlaaGreatDoor.Oct
open Go.ChangeShapes Go.WideShapes Go.ChangeAt Go.RowKit
set_option linter.unusedVariables false

theorem cells4 {w : World} {B : Nat} {a b c d : Value} (h : row w B = some #[a, b, c, d]) : w.cell? ⟨B, 0, none⟩ = some a ∧ w.cell? ⟨B, 1, none⟩ = some b ∧ w.cell? ⟨B, 2, none⟩ = some c ∧ w.cell? ⟨B, 3, none⟩ = some d :=
  ⟨cell_row h 0, cell_row h 1, cell_row h 2, cell_row h 3⟩
end Go.Proofs.YteffjpdcghlnlaaGreatDoor.Oct

/-! ## WiK -/
/- Contract: wire.Entry. -/
namespace Go.Proofs.YteffjpdcghlnlaaGreatDoor.Oct
open Go.ChangeShapes Go.WideShapes Go.ChangeAt Go.RowKit
set_option linter.unusedVariables false

end Go.Proofs.YteffjpdcghlnlaaGreatDoor.Oct

/-! ## WiB -/
/- wire's Check: contracts of fits, Check. -/
namespace Go.Proofs.YteffjpdcghlnlaaGreatDoor.Oct
open Go.ChangeShapes Go.WideShapes Go.ChangeAt Go.RowKit
set_option linter.unusedVariables false

/-- a command's fields as its cells -/
abbrev comV (k s q i n : Int) (d b : Value) : Value := .agg #[.int .i64 k, .int .i64 s, .int .i64 q, .int .i64 i, .int .i64 n, d, b]
def fitB (h : Nat → Int) (s q i n : Int) (T U : Nat) : Bool := inB (h 0) (h 1) s && (inB (h 2) (h 3) q && (inB (h 4) (h 5) i && (inB (h 6) (h 7) n && (inB (h 8) (h 9) T && inB (h 10) (h 11) U))))
set_option maxHeartbeats 4000000 in
theorem fits_any (h : Nat → Int) (k s q i n : Int) (T U c c' : Nat) (A A' : Option Addr) (w : World) :
    Calls Tryz.prog 78 #[.agg #[.int .i64 (h 0), .int .i64 (h 1), .int .i64 (h 2), .int .i64 (h 3), .int .i64 (h 4), .int .i64 (h 5), .int .i64 (h 6), .int .i64 (h 7), .int .i64 (h 8), .int .i64 (h 9), .int .i64 (h 10), .int .i64 (h 11)], comV k s q i n (.slice A T c) (.slice A' U c')] w fun e w' => e = .returned (.bool (fitB h s q i n T U)) ∧ Below w.heap.size w w' := by
  obtain ⟨F, hF⟩ : ∃ F, F = fitB h s q i n T U := ⟨_, rfl⟩
  rw [← hF]
  have HF := Lib.hid hF
  clear hF
  have C := has_any
  obtain ⟨h0, e0⟩ : ∃ x, x = h 0 := ⟨_, rfl⟩
  obtain ⟨h1, e1⟩ : ∃ x, x = h 1 := ⟨_, rfl⟩
  obtain ⟨h2, e2⟩ : ∃ x, x = h 2 := ⟨_, rfl⟩
  obtain ⟨h3, e3⟩ : ∃ x, x = h 3 := ⟨_, rfl⟩
  obtain ⟨h4, e4⟩ : ∃ x, x = h 4 := ⟨_, rfl⟩
  obtain ⟨h5, e5⟩ : ∃ x, x = h 5 := ⟨_, rfl⟩
  obtain ⟨h6, e6⟩ : ∃ x, x = h 6 := ⟨_, rfl⟩
  obtain ⟨h7, e7⟩ : ∃ x, x = h 7 := ⟨_, rfl⟩
  obtain ⟨h8, e8⟩ : ∃ x, x = h 8 := ⟨_, rfl⟩
  obtain ⟨h9, e9⟩ : ∃ x, x = h 9 := ⟨_, rfl⟩
  obtain ⟨h10, e10⟩ : ∃ x, x = h 10 := ⟨_, rfl⟩
  obtain ⟨h11, e11⟩ : ∃ x, x = h 11 := ⟨_, rfl⟩
  rw [← e0, ← e1, ← e2, ← e3, ← e4, ← e5, ← e6, ← e7, ← e8, ← e9, ← e10, ← e11]
  unfold fitB at HF
  rw [← e0, ← e1, ← e2, ← e3, ← e4, ← e5, ← e6, ← e7, ← e8, ← e9, ← e10, ← e11] at HF
  clear e0 e1 e2 e3 e4 e5 e6 e7 e8 e9 e10 e11 h
  obtain ⟨w0, hw0⟩ : ∃ w0, w0 = (w.alloc (.cells #[.int .i64 h0, .int .i64 h1, .int .i64 h2, .int .i64 h3, .int .i64 h4, .int .i64 h5, .int .i64 h6, .int .i64 h7, .int .i64 h8, .int .i64 h9, .int .i64 h10, .int .i64 h11] 152)).alloc (.cells #[.int .i64 k, .int .i64 s, .int .i64 q, .int .i64 i, .int .i64 n, .slice A T c, .slice A' U c'] 36) := ⟨_, rfl⟩
  have B0 := Lib.hid (show Below w.heap.size w w0 by rw [hw0]; exact ((Below.refl _ _).alloc (by simp) _).alloc (by simp) _)
  have R0 := Lib.hid (show row w0 w.heap.size = some #[.int .i64 h0, .int .i64 h1, .int .i64 h2, .int .i64 h3, .int .i64 h4, .int .i64 h5, .int .i64 h6, .int .i64 h7, .int .i64 h8, .int .i64 h9, .int .i64 h10, .int .i64 h11] by rw [hw0]; exact row_alloc (row_alloc_at _ _ _ _ rfl) _)
  have R1 := Lib.hid (show row w0 (w.heap.size + 1) = some #[.int .i64 k, .int .i64 s, .int .i64 q, .int .i64 i, .int .i64 n, .slice A T c, .slice A' U c'] by rw [hw0]; exact row_alloc_at _ _ _ _ (by simp))
  have F0 := Lib.hid (fun (a b x : Int) => C a b x w0)
  go_enter Tryz.func78, Tryz.ntmps78
  go_wp2_with fail
  rw [← hw0]
  clear hw0 C F0
  refine (has_any h0 h1 s _).mono ?_
  rintro e w1 ⟨rfl, hb⟩
  have B1 := Lib.hid (onto B0.out B0.out.size hb)
  have P1 := Lib.hid (carry hb R0.out)
  have Q1 := Lib.hid (carry hb R1.out)
  clear hb B0
  clear R0 R1
  obtain ⟨b0, hb0⟩ : ∃ x, x = inB h0 h1 s := ⟨_, rfl⟩
  rw [← hb0]
  have HB0 := Lib.hid hb0
  clear hb0
  cases b0 with
  | false =>
    have E := Lib.hid (show F = false by rw [HF.out, ← HB0.out]; rfl)
    go_wp2_with fail
    go_ret
    exact ⟨by rw [E.out]; rfl, B1.out⟩
  | true =>
  have c0 := cell_row P1.out 2
  have c1 := cell_row P1.out 3
  have c2 := cell_row Q1.out 2
  rw [show (#[.int .i64 h0, .int .i64 h1, .int .i64 h2, .int .i64 h3, .int .i64 h4, .int .i64 h5, .int .i64 h6, .int .i64 h7, .int .i64 h8, .int .i64 h9, .int .i64 h10, .int .i64 h11] : Array Value)[2]? = some (.int .i64 h2) from rfl] at c0
  rw [show (#[.int .i64 h0, .int .i64 h1, .int .i64 h2, .int .i64 h3, .int .i64 h4, .int .i64 h5, .int .i64 h6, .int .i64 h7, .int .i64 h8, .int .i64 h9, .int .i64 h10, .int .i64 h11] : Array Value)[3]? = some (.int .i64 h3) from rfl] at c1
  rw [show (#[.int .i64 k, .int .i64 s, .int .i64 q, .int .i64 i, .int .i64 n, .slice A T c, .slice A' U c'] : Array Value)[2]? = some (.int .i64 q) from rfl] at c2
  go_wp2_with fail
  clear c0 c1 c2
  refine (has_any h2 h3 q _).mono ?_
  rintro e w2 ⟨rfl, hb⟩
  have B2 := Lib.hid (onto B1.out B1.out.size hb)
  have P2 := Lib.hid (carry hb P1.out)
  have Q2 := Lib.hid (carry hb Q1.out)
  clear hb B1
  clear P1 Q1
  obtain ⟨b1, hb1⟩ : ∃ x, x = inB h2 h3 q := ⟨_, rfl⟩
  rw [← hb1]
  have HB1 := Lib.hid hb1
  clear hb1
  cases b1 with
  | false =>
    have E := Lib.hid (show F = false by rw [HF.out, ← HB0.out, ← HB1.out]; rfl)
    go_wp2_with fail
    go_ret
    exact ⟨by rw [E.out]; rfl, B2.out⟩
  | true =>
  have c0 := cell_row P2.out 4
  have c1 := cell_row P2.out 5
  have c2 := cell_row Q2.out 3
  rw [show (#[.int .i64 h0, .int .i64 h1, .int .i64 h2, .int .i64 h3, .int .i64 h4, .int .i64 h5, .int .i64 h6, .int .i64 h7, .int .i64 h8, .int .i64 h9, .int .i64 h10, .int .i64 h11] : Array Value)[4]? = some (.int .i64 h4) from rfl] at c0
  rw [show (#[.int .i64 h0, .int .i64 h1, .int .i64 h2, .int .i64 h3, .int .i64 h4, .int .i64 h5, .int .i64 h6, .int .i64 h7, .int .i64 h8, .int .i64 h9, .int .i64 h10, .int .i64 h11] : Array Value)[5]? = some (.int .i64 h5) from rfl] at c1
  rw [show (#[.int .i64 k, .int .i64 s, .int .i64 q, .int .i64 i, .int .i64 n, .slice A T c, .slice A' U c'] : Array Value)[3]? = some (.int .i64 i) from rfl] at c2
  go_wp2_with fail
  clear c0 c1 c2
  refine (has_any h4 h5 i _).mono ?_
  rintro e w3 ⟨rfl, hb⟩
  have B3 := Lib.hid (onto B2.out B2.out.size hb)
  have P3 := Lib.hid (carry hb P2.out)
  have Q3 := Lib.hid (carry hb Q2.out)
  clear hb B2
  clear P2 Q2
  obtain ⟨b2, hb2⟩ : ∃ x, x = inB h4 h5 i := ⟨_, rfl⟩
  rw [← hb2]
  have HB2 := Lib.hid hb2
  clear hb2
  cases b2 with
  | false =>
    have E := Lib.hid (show F = false by rw [HF.out, ← HB0.out, ← HB1.out, ← HB2.out]; rfl)
    go_wp2_with fail
    go_ret
    exact ⟨by rw [E.out]; rfl, B3.out⟩
  | true =>
  have c0 := cell_row P3.out 6
  have c1 := cell_row P3.out 7
  have c2 := cell_row Q3.out 4
  rw [show (#[.int .i64 h0, .int .i64 h1, .int .i64 h2, .int .i64 h3, .int .i64 h4, .int .i64 h5, .int .i64 h6, .int .i64 h7, .int .i64 h8, .int .i64 h9, .int .i64 h10, .int .i64 h11] : Array Value)[6]? = some (.int .i64 h6) from rfl] at c0
  rw [show (#[.int .i64 h0, .int .i64 h1, .int .i64 h2, .int .i64 h3, .int .i64 h4, .int .i64 h5, .int .i64 h6, .int .i64 h7, .int .i64 h8, .int .i64 h9, .int .i64 h10, .int .i64 h11] : Array Value)[7]? = some (.int .i64 h7) from rfl] at c1
  rw [show (#[.int .i64 k, .int .i64 s, .int .i64 q, .int .i64 i, .int .i64 n, .slice A T c, .slice A' U c'] : Array Value)[4]? = some (.int .i64 n) from rfl] at c2
  go_wp2_with fail
  clear c0 c1 c2
  refine (has_any h6 h7 n _).mono ?_
  rintro e w4 ⟨rfl, hb⟩
  have B4 := Lib.hid (onto B3.out B3.out.size hb)
  have P4 := Lib.hid (carry hb P3.out)
  have Q4 := Lib.hid (carry hb Q3.out)
  clear hb B3
  clear P3 Q3
  obtain ⟨b3, hb3⟩ : ∃ x, x = inB h6 h7 n := ⟨_, rfl⟩
  rw [← hb3]
  have HB3 := Lib.hid hb3
  clear hb3
  cases b3 with
  | false =>
    have E := Lib.hid (show F = false by rw [HF.out, ← HB0.out, ← HB1.out, ← HB2.out, ← HB3.out]; rfl)
    go_wp2_with fail
    go_ret
    exact ⟨by rw [E.out]; rfl, B4.out⟩
  | true =>
  have c0 := cell_row P4.out 8
  have c1 := cell_row P4.out 9
  have c2 := cell_row Q4.out 5
  rw [show (#[.int .i64 h0, .int .i64 h1, .int .i64 h2, .int .i64 h3, .int .i64 h4, .int .i64 h5, .int .i64 h6, .int .i64 h7, .int .i64 h8, .int .i64 h9, .int .i64 h10, .int .i64 h11] : Array Value)[8]? = some (.int .i64 h8) from rfl] at c0
  rw [show (#[.int .i64 h0, .int .i64 h1, .int .i64 h2, .int .i64 h3, .int .i64 h4, .int .i64 h5, .int .i64 h6, .int .i64 h7, .int .i64 h8, .int .i64 h9, .int .i64 h10, .int .i64 h11] : Array Value)[9]? = some (.int .i64 h9) from rfl] at c1
  rw [show (#[.int .i64 k, .int .i64 s, .int .i64 q, .int .i64 i, .int .i64 n, .slice A T c, .slice A' U c'] : Array Value)[5]? = some (.slice A T c) from rfl] at c2
  go_wp2_with fail
  clear c0 c1 c2
  refine (has_any h8 h9 (T : Int) _).mono ?_
  rintro e w5 ⟨rfl, hb⟩
  have B5 := Lib.hid (onto B4.out B4.out.size hb)
  have P5 := Lib.hid (carry hb P4.out)
  have Q5 := Lib.hid (carry hb Q4.out)
  clear hb B4
  clear P4 Q4
  obtain ⟨b4, hb4⟩ : ∃ x, x = inB h8 h9 (T : Int) := ⟨_, rfl⟩
  rw [← hb4]
  have HB4 := Lib.hid hb4
  clear hb4
  cases b4 with
  | false =>
    have E := Lib.hid (show F = false by rw [HF.out, ← HB0.out, ← HB1.out, ← HB2.out, ← HB3.out, ← HB4.out]; rfl)
    go_wp2_with fail
    go_ret
    exact ⟨by rw [E.out]; rfl, B5.out⟩
  | true =>
  have c0 := cell_row P5.out 10
  have c1 := cell_row P5.out 11
  have c2 := cell_row Q5.out 6
  rw [show (#[.int .i64 h0, .int .i64 h1, .int .i64 h2, .int .i64 h3, .int .i64 h4, .int .i64 h5, .int .i64 h6, .int .i64 h7, .int .i64 h8, .int .i64 h9, .int .i64 h10, .int .i64 h11] : Array Value)[10]? = some (.int .i64 h10) from rfl] at c0
  rw [show (#[.int .i64 h0, .int .i64 h1, .int .i64 h2, .int .i64 h3, .int .i64 h4, .int .i64 h5, .int .i64 h6, .int .i64 h7, .int .i64 h8, .int .i64 h9, .int .i64 h10, .int .i64 h11] : Array Value)[11]? = some (.int .i64 h11) from rfl] at c1
  rw [show (#[.int .i64 k, .int .i64 s, .int .i64 q, .int .i64 i, .int .i64 n, .slice A T c, .slice A' U c'] : Array Value)[6]? = some (.slice A' U c') from rfl] at c2
  go_wp2_with fail
  clear c0 c1 c2
  refine (has_any h10 h11 (U : Int) _).mono ?_
  rintro e w6 ⟨rfl, hb⟩
  have B6 := Lib.hid (onto B5.out B5.out.size hb)
  clear hb B5
  obtain ⟨b5, hb5⟩ : ∃ x, x = inB h10 h11 (U : Int) := ⟨_, rfl⟩
  rw [← hb5]
  have HB5 := Lib.hid hb5
  clear hb5
  have E := Lib.hid (show F = b5 by rw [HF.out, ← HB0.out, ← HB1.out, ← HB2.out, ← HB3.out, ← HB4.out, ← HB5.out]; cases b5 <;> rfl)
  go_wp2_with fail
  go_ret
  exact ⟨by rw [E.out]; rfl, B6.out⟩

theorem cells7 {w : World} {B : Nat} {a b c d e f g : Value} (h : row w B = some #[a, b, c, d, e, f, g]) : w.cell? ⟨B, 0, none⟩ = some a ∧ w.cell? ⟨B, 1, none⟩ = some b ∧ w.cell? ⟨B, 2, none⟩ = some c ∧ w.cell? ⟨B, 3, none⟩ = some d ∧ w.cell? ⟨B, 4, none⟩ = some e ∧ w.cell? ⟨B, 5, none⟩ = some f ∧ w.cell? ⟨B, 6, none⟩ = some g :=
  ⟨cell_row h 0, cell_row h 1, cell_row h 2, cell_row h 3, cell_row h 4, cell_row h 5, cell_row h 6⟩
def chkB (k s q i n : Int) (T U : Nat) : Bool := kiB k && fitB (sh k) s q i n T U
/-- the error of a command's check -/
def chkE (k s q i n : Int) (T U : Nat) : Nat := if chkB k s q i n T U then 0 else 1
set_option maxHeartbeats 4000000 in
theorem check_any (k s q i n : Int) (T U c c' : Nat) (A A' : Option Addr) (w : World) :
    Calls Tryz.prog 38 #[comV k s q i n (.slice A T c) (.slice A' U c')] w fun e w' => e = .returned (.int .i64 (chkE k s q i n T U : Nat)) ∧ Below w.heap.size w w' := by
  obtain ⟨E, hE⟩ : ∃ E, E = chkE k s q i n T U := ⟨_, rfl⟩
  rw [← hE]
  have HE := Lib.hid hE
  clear hE
  have B0 := Lib.hid (show Below w.heap.size w (w.alloc (.cells #[.int .i64 k, .int .i64 s, .int .i64 q, .int .i64 i, .int .i64 n, .slice A T c, .slice A' U c'] 36)) from (Below.refl _ _).alloc (by simp) _)
  have R0 := Lib.hid (show row (w.alloc (.cells #[.int .i64 k, .int .i64 s, .int .i64 q, .int .i64 i, .int .i64 n, .slice A T c, .slice A' U c'] 36)) w.heap.size = some #[.int .i64 k, .int .i64 s, .int .i64 q, .int .i64 i, .int .i64 n, .slice A T c, .slice A' U c'] from row_alloc_at _ _ _ _ rfl)
  have hz0 : w.heap.size ≤ (w.alloc (.cells #[.int .i64 k, .int .i64 s, .int .i64 q, .int .i64 i, .int .i64 n, .slice A T c, .slice A' U c'] 36)).heap.size := by simp
  go_enter Tryz.func38, Tryz.ntmps38
  go_wp2_with fail
  refine (shape_any k _).mono ?_
  rintro e w1 ⟨rfl, hb⟩
  have B1 := Lib.hid (onto B0.out hz0 hb)
  have R1 := Lib.hid (carry hb R0.out)
  clear hb B0 R0 hz0
  obtain ⟨K, hK⟩ : ∃ K, K = kiB k := ⟨_, rfl⟩
  rw [← hK]
  have HK := Lib.hid hK
  clear hK
  cases K with
  | false =>
    have HE1 := Lib.hid (show E = 1 by rw [HE.out]; unfold chkE chkB; rw [← HK.out]; rfl)
    go_wp2_with fail
    go_ret
    exact ⟨by rw [HE1.out]; rfl, B1.out.alloc (by have := B1.out.size; simp; try omega) _⟩
  | true =>
    obtain ⟨c0, c1, c2, c3, c4, c5, c6⟩ := cells7 R1.out
    have hx := row_lt R1.out
    go_wp2_with fail
    refine (fits_any (sh k) k s q i n T U c c' A A' _).mono ?_
    rintro e w2 ⟨rfl, hb⟩
    have hw1 : w1.heap.size ≤ w2.heap.size := by have := hb.size; simp at this; omega
    have B2 := Lib.hid (onto (B1.out.alloc B1.out.size _) (by have := B1.out.size; simp; omega) hb)
    clear hb c0 c1 c2 c3 c4 c5 c6 hx R1
    obtain ⟨F, hF⟩ : ∃ F, F = fitB (sh k) s q i n T U := ⟨_, rfl⟩
    rw [← hF]
    have HF := Lib.hid hF
    clear hF
    cases F with
    | false =>
      have HE1 := Lib.hid (show E = 1 by rw [HE.out]; unfold chkE chkB; rw [← HK.out, ← HF.out]; rfl)
      go_wp2_with fail
      go_ret
      exact ⟨by rw [HE1.out]; rfl, B2.out⟩
    | true =>
      have HE1 := Lib.hid (show E = 0 by rw [HE.out]; unfold chkE chkB; rw [← HK.out, ← HF.out]; rfl)
      go_wp2_with fail
      go_ret
      exact ⟨by rw [HE1.out]; rfl, B2.out⟩
end Go.Proofs.YteffjpdcghlnlaaGreatDoor.Oct

/-! ## WiC -/
/- The reference's Check. -/
namespace Go.Proofs.YteffjpdcghlnlaaGreatDoor.Oct
open Go.ChangeShapes Go.WideShapes Go.ChangeAt Go.RowKit
set_option linter.unusedVariables false

/-- which letters a kind has -/
def hS (k : Int) : Bool := decide (3 ≤ k) && decide (k ≤ 10)
def hI (k : Int) : Bool := decide (k = 2) || (decide (4 ≤ k) && decide (k ≤ 7))
def hN (k : Int) : Bool := decide (k = 5) || decide (k = 6)
def hD (k : Int) : Bool := decide (7 ≤ k) && decide (k ≤ 10)
def hB (k : Int) : Bool := decide (7 ≤ k) && decide (k ≤ 9)
end Go.Proofs.YteffjpdcghlnlaaGreatDoor.Oct

/-! ## WiD -/
/- The reference's Check. -/
namespace Go.Proofs.YteffjpdcghlnlaaGreatDoor.Oct
open Go.ChangeShapes Go.WideShapes Go.ChangeAt Go.RowKit
set_option linter.unusedVariables false

end Go.Proofs.YteffjpdcghlnlaaGreatDoor.Oct

/-! ## WiE -/
/- Both checks of a command are the same. -/
namespace Go.Proofs.YteffjpdcghlnlaaGreatDoor.Oct
open Go.ChangeShapes Go.WideShapes Go.ChangeAt Go.RowKit
set_option linter.unusedVariables false

/-- what a command that may be has: numbers that are not negative, texts that are short -/
theorem chk_ok {k s q i n : Int} {T U : Nat} (h : chkE k s q i n T U = 0) : 0 ≤ k ∧ 0 ≤ s ∧ 0 ≤ q ∧ 0 ≤ i ∧ 0 ≤ n ∧ T ≤ 128 ∧ U ≤ 32 := by
  have h' : chkB k s q i n T U = true := by unfold chkE at h; cases hb : chkB k s q i n T U with
    | true => rfl
    | false => rw [hb] at h; simp at h
  have hk : kiB k = true := by unfold chkB at h'; cases hb : kiB k with
    | true => rfl
    | false => rw [hb] at h'; simp at h'
  have hcase : k = 1 ∨ k = 2 ∨ k = 3 ∨ k = 4 ∨ k = 5 ∨ k = 6 ∨ k = 7 ∨ k = 8 ∨ k = 9 ∨ k = 10 := by unfold kiB at hk; simp at hk; omega
  clear h hk
  rcases hcase with rfl | rfl | rfl | rfl | rfl | rfl | rfl | rfl | rfl | rfl
  all_goals
    simp [chkB, kiB, fitB, inB, sh, shN] at h'
    omega
end Go.Proofs.YteffjpdcghlnlaaGreatDoor.Oct

/-! ## WiH -/
/- Contract: wire.Command. -/
namespace Go.Proofs.YteffjpdcghlnlaaGreatDoor.Oct
open Go.ChangeShapes Go.WideShapes Go.ChangeAt Go.RowKit
set_option linter.unusedVariables false

end Go.Proofs.YteffjpdcghlnlaaGreatDoor.Oct

/-! ## WiU -/
/- Contract: wire.TakeCommand. -/
namespace Go.Proofs.YteffjpdcghlnlaaGreatDoor.Oct
open Go.ChangeShapes Go.WideShapes Go.ChangeAt Go.RowKit
set_option linter.unusedVariables false

section
variable (w W : World) (f : Bf)
end
end Go.Proofs.YteffjpdcghlnlaaGreatDoor.Oct

/-! ## WiI -/
/- Contract: wire.Reply. -/
namespace Go.Proofs.YteffjpdcghlnlaaGreatDoor.Oct
open Go.ChangeShapes Go.WideShapes Go.ChangeAt Go.RowKit
set_option linter.unusedVariables false

/-- a reply's three numbers -/
def repN (c n m : Int) : Nat → Int := fun j => if j = 0 then c else if j = 1 then n else m
abbrev repV (c n m : Int) (d : Value) : Value := .agg #[.int .i64 c, .int .i64 n, .int .i64 m, d]
/-- its writing -/
def repL (c n m : Int) (T : Nat) : Nat := nuL (repN c n m) 3 + txL T
def repF (c n m : Int) (T : Nat) (f : Bf) : Bf := catF (nuL (repN c n m) 3) (nuF (repN c n m) 3) (txF T f)
def repE (c n m : Int) (T : Nat) : Nat := fiE (th2 (nuE (repN c n m) 3) (txE T)) 2
set_option maxRecDepth 20000 in
set_option maxHeartbeats 8000000 in
theorem reply_any (x n m : Int) (T c : Nat) (A : Option Addr) (f : Bf) (w : World) (hf : Sl w w.heap.size A T c f) (hb : ∀ j, -9223372036854775808 ≤ repN x n m j ∧ repN x n m j < 9223372036854775808) :
    Calls Tryz.prog 125 #[repV x n m (.slice A T c)] w (ptP (repE x n m T) 0 (repL x n m T) nF (repF x n m T f) w) := by
  have R0 := Lib.hid (show row (w.alloc (.cells #[.int .i64 x, .int .i64 n, .int .i64 m, .slice A T c] 33)) w.heap.size = some #[.int .i64 x, .int .i64 n, .int .i64 m, .slice A T c] from row_alloc_at _ _ _ _ rfl)
  have B0 := Lib.hid (show Below w.heap.size w (w.alloc (.cells #[.int .i64 x, .int .i64 n, .int .i64 m, .slice A T c] 33)) from (Below.refl _ _).alloc (by simp) _)
  have hz0 : w.heap.size ≤ (w.alloc (.cells #[.int .i64 x, .int .i64 n, .int .i64 m, .slice A T c] 33)).heap.size := by simp
  have HF := Lib.hid ((hf.below B0.out).more hz0)
  have HB := Lib.hid hb
  obtain ⟨E, hE⟩ : ∃ E, E = repE x n m T := ⟨_, rfl⟩
  rw [← hE]
  have HE := Lib.hid hE
  clear hf hb hE
  go_enter Tryz.func125, Tryz.ntmps125
  go_wp2_with fail
  refine flow_seen [([0, 1, 2, 3, 4, 5, 8, 9], 6, false), ([], 7, false), ([], 10, true), ([], 11, true), ([], 12, true)] [13, 14, 15, 16] (by kernel_rfl) (by kernel_rfl) (fun _ _ _ _ _ h => h) fun Z => ?_
  have R2 := carry Z.below R0.out
  have B2 := Lib.hid (onto B0.out hz0 Z.below)
  have F2 := Lib.hid ((HF.out.below Z.below).more Z.below.size)
  clear R0 B0 hz0 HF
  obtain ⟨w2, hw2⟩ : ∃ w2, w2 = Z.val := ⟨_, rfl⟩
  rw [← hw2] at R2 B2 F2 ⊢
  clear hw2 Z
  have cc := fun x : After w2 => cells4 (After.row R2 x)
  simp only [wpFs, pk, List.getElem?_cons_zero, List.getElem?_cons_succ]
  repeat (go_big_quiet_step (fail))
  refine wpQuiet_nil ?_
  clear cc R2
  go_wp2_with fail
  have bx := (Below.refl w2.heap.size w2).alloc (Nat.le_refl _) (.cells #[.int .i64 x, .int .i64 n, .int .i64 m] 3)
  refine ⟨.inr bx, ?_⟩
  have r3 : row (w2.alloc (.cells #[.int .i64 x, .int .i64 n, .int .i64 m] 3)) w2.heap.size = some #[.int .i64 x, .int .i64 n, .int .i64 m] := row_alloc_at _ _ _ _ rfl
  have hz3 : (w2.alloc (.cells #[.int .i64 x, .int .i64 n, .int .i64 m] 3)).heap.size = w2.heap.size + 1 := by simp
  have F3 := Lib.hid ((F2.out.below bx).more (by omega : w2.heap.size ≤ (w2.alloc (.cells #[.int .i64 x, .int .i64 n, .int .i64 m] 3)).heap.size))
  have B3 := Lib.hid (onto B2.out B2.out.size bx)
  obtain ⟨w3, hw3⟩ : ∃ w3, w3 = w2.alloc (.cells #[.int .i64 x, .int .i64 n, .int .i64 m] 3) := ⟨_, rfl⟩
  rw [← hw3] at r3 hz3 F3 B3 ⊢
  have H3 := Lib.hid (mknums_any 3 3 (some ⟨w2.heap.size, 0, none⟩) (repN x n m) w3 (slG_row r3 (by omega) (Nat.le_refl _) fun j hj => by
    have : j = 0 ∨ j = 1 ∨ j = 2 := by omega
    rcases this with rfl | rfl | rfl <;> rfl) (fun j _ => HB.out j) (by omega) (by omega))
  clear hw3 bx r3 hz3 F2 B2
  show wpQuiet _ _ _ _ _ _
  refine wpQuiet_nil ?_
  go_wp2_with fail
  refine H3.out.mono ?_
  rintro e w4 ⟨v1, rfl, -, hp1, hb4⟩
  obtain ⟨g1, q1, hv1⟩ := hp1.shape
  subst hv1
  have P1 := Lib.hid hp1
  have F4 := Lib.hid ((F3.out.below hb4).more hb4.size)
  have B4 := Lib.hid (onto B3.out B3.out.size hb4)
  go_wp2_with fail
  refine ⟨.inr hb4, ?_⟩
  clear hp1 hb4 H3 F3 B3
  have H4 := Lib.hid (mktext_any T c A f w4 F4.out)
  show wpQuiet _ _ _ _ _ _
  refine wpQuiet_nil ?_
  go_wp2_with fail
  refine H4.out.mono ?_
  rintro e w6 ⟨v2, rfl, -, hp2, hb6⟩
  obtain ⟨g2, q2, hv2⟩ := hp2.shape
  subst hv2
  have P2 := Lib.hid hp2
  have P1' := Lib.hid (P1.out.below hb6)
  have B6 := Lib.hid (onto B4.out B4.out.size hb6)
  go_wp2_with fail
  refine ⟨.inl trivial, ?_⟩
  clear hp2 hb6 H4 F4 B4 P1
  show wpQuiet _ _ _ _ _ _
  refine wpQuiet_nil ?_
  go_wp2_with fail
  have bx := (Below.refl w6.heap.size w6).alloc (Nat.le_refl _) (.cells #[.func (.func g1) #[] #[q1], .func (.func g2) #[] #[q2]] 247)
  refine ⟨.inl trivial, ?_⟩
  have r7 : row (w6.alloc (.cells #[.func (.func g1) #[] #[q1], .func (.func g2) #[] #[q2]] 247)) w6.heap.size = some #[.func (.func g1) #[] #[q1], .func (.func g2) #[] #[q2]] := row_alloc_at _ _ _ _ rfl
  have hz7 : (w6.alloc (.cells #[.func (.func g1) #[] #[q1], .func (.func g2) #[] #[q2]] 247)).heap.size = w6.heap.size + 1 := by simp
  have P1x := P1'.out.below bx
  have P2x := P2.out.below bx
  have B7 := Lib.hid (onto B6.out B6.out.size bx)
  obtain ⟨w7, hw7⟩ : ∃ w7, w7 = w6.alloc (.cells #[.func (.func g1) #[] #[q1], .func (.func g2) #[] #[q2]] 247) := ⟨_, rfl⟩
  rw [← hw7] at r7 hz7 P1x P2x B7 ⊢
  have hL9 := nuL_le (repN x n m) 3
  have H7 := encode_any 2 2 (some ⟨w6.heap.size, 0, none⟩) (th2 (.func (.func g1) #[] #[q1]) (.func (.func g2) #[] #[q2])) (th2 (nuE (repN x n m) 3) (txE T)) (th2 (nuL (repN x n m) 3) (txL T)) (th2 (nuF (repN x n m) 3) (txF T f)) w7
    (slG_row r7 (by omega) (Nat.le_refl _) fun j hj => by
      have : j = 0 ∨ j = 1 := by omega
      rcases this with rfl | rfl <;> rfl)
    (fun j hj => by
      have : j = 0 ∨ j = 1 := by omega
      rcases this with rfl | rfl
      · exact P1x
      · exact P2x)
    (fun j hj _ => by
      have : j = 0 ∨ j = 1 := by omega
      rcases this with rfl | rfl
      · simp [cuL]
      · rw [cu_th2_1]; omega) (by omega)
  obtain ⟨eL, eF⟩ := cu_th2 (nuL (repN x n m) 3) (txL T) (nuF (repN x n m) 3) (txF T f)
  rw [eL, eF] at H7
  have H7' := Lib.hid (show Calls Tryz.prog 169 #[.slice (some ⟨w6.heap.size, 0, none⟩) 2 2] w7 (ptP (repE x n m T) 0 (repL x n m T) nF (repF x n m T f) w7) from H7)
  clear hw7 bx r7 hz7 P1x P2x P1' P2 B6 H7 eL eF hL9
  rw [← HE.out] at H7'
  show wpQuiet _ _ _ _ _ _
  refine wpQuiet_nil ?_
  go_wp2_with fail
  refine H7'.out.mono ?_
  rintro e w8 (⟨hz, rfl, hb8⟩ | ⟨hz, v8, rfl, ho, hb8⟩)
  · have HZ := Lib.hid hz
    have B8 := Lib.hid (onto B7.out B7.out.size hb8)
    go_wp2_with fail
    refine ⟨.inl trivial, ?_⟩
    clear hz hb8 H7'
    show wpQuiet _ _ _ _ _ _
    repeat (go_big_quiet_step (fail))
    refine wpQuiet_nil ?_
    go_wp2_with fail
    exact bodyPost_ret (v := .tuple #[.slice none 0 0, .int .i64 E]) (by simp [results, Tryz.results125, go_sem]) rfl (.inl ⟨HZ.out, rfl, B8.out⟩)
  · have HZ := Lib.hid hz
    have O8 := Lib.hid ho
    have B8 := Lib.hid (onto B7.out B7.out.size hb8)
    go_wp2_with fail
    refine ⟨.inl trivial, ?_⟩
    clear hz ho hb8 H7'
    show wpQuiet _ _ _ _ _ _
    repeat (go_big_quiet_step (fail))
    refine wpQuiet_nil ?_
    go_wp2_with fail
    exact bodyPost_ret (v := .tuple #[v8, .int .i64 0]) (by simp [results, Tryz.results125, go_sem]) rfl (.inr ⟨HZ.out, _, rfl, O8.out.base B7.out.size, B8.out⟩)
end Go.Proofs.YteffjpdcghlnlaaGreatDoor.Oct

/-! ## WiV -/
/- Contract: wire.TakeReply. -/
namespace Go.Proofs.YteffjpdcghlnlaaGreatDoor.Oct
open Go.ChangeShapes Go.WideShapes Go.ChangeAt Go.RowKit
set_option linter.unusedVariables false

abbrev repZ : Value := repV 0 0 0 (.slice none 0 0)
section
variable (w W : World) (f : Bf)
end
end Go.Proofs.YteffjpdcghlnlaaGreatDoor.Oct

/-! ## WiX -/
/- Contract: wire.TakeEntry. -/
namespace Go.Proofs.YteffjpdcghlnlaaGreatDoor.Oct
open Go.ChangeShapes Go.WideShapes Go.ChangeAt Go.RowKit
set_option linter.unusedVariables false

section
variable (w W : World) (f : Bf)
end
end Go.Proofs.YteffjpdcghlnlaaGreatDoor.Oct

/-! ## WiR -/
/- Contracts: the reference's Command, Reply. -/
namespace Go.Proofs.YteffjpdcghlnlaaGreatDoor.Oct
open Go.ChangeShapes Go.WideShapes Go.ChangeAt Go.RowKit
set_option linter.unusedVariables false

end Go.Proofs.YteffjpdcghlnlaaGreatDoor.Oct

/-! ## WiT -/
/- Contract: the reference's Entry. -/
namespace Go.Proofs.YteffjpdcghlnlaaGreatDoor.Oct
open Go.ChangeShapes Go.WideShapes Go.ChangeAt Go.RowKit
set_option linter.unusedVariables false

end Go.Proofs.YteffjpdcghlnlaaGreatDoor.Oct

/-! ## WiY -/
/- Contracts: the reference's TakeReply. -/
namespace Go.Proofs.YteffjpdcghlnlaaGreatDoor.Oct
open Go.ChangeShapes Go.WideShapes Go.ChangeAt Go.RowKit
set_option linter.unusedVariables false

end Go.Proofs.YteffjpdcghlnlaaGreatDoor.Oct

/-! ## WiN -/
/- What is written is read as it was, and what is read is written as it was: commands, replies, entries. -/
namespace Go.Proofs.YteffjpdcghlnlaaGreatDoor.Oct
open Go.ChangeShapes Go.WideShapes Go.ChangeAt Go.RowKit
set_option linter.unusedVariables false

/- what is read, written -/
/- what is written, read -/
end Go.Proofs.YteffjpdcghlnlaaGreatDoor.Oct

/-! ## WiZ -/
/- Contract: the reference's TakeEntry. -/
namespace Go.Proofs.YteffjpdcghlnlaaGreatDoor.Oct
open Go.ChangeShapes Go.WideShapes Go.ChangeAt Go.RowKit
set_option linter.unusedVariables false

theorem str_eqN {n m : Nat} {p q : Bf} (h : n ≠ m) : strOf n p ≠ strOf m q := fun e => h (by
  have := congrArg ByteArray.size e
  rw [str_size, str_size] at this
  exact this)
theorem str_nelN {n m : Nat} {p q : Bf} (h : n ≠ m) : ((strOf n p).toList == (strOf m q).toList) = false := by
  rw [beq_eq_false_iff_ne]
  intro e
  rw [ByteArray.toList_eq, ByteArray.toList_eq] at e
  refine str_eqN h ?_ (p := p) (q := q)
  generalize strOf n p = x at e
  generalize strOf m q = y at e
  cases x; cases y
  simp_all
end Go.Proofs.YteffjpdcghlnlaaGreatDoor.Oct

/-! ## Wia -/
/- Contract: the reference's TakeCommand. -/
namespace Go.Proofs.YteffjpdcghlnlaaGreatDoor.Oct
open Go.ChangeShapes Go.WideShapes Go.ChangeAt Go.RowKit
set_option linter.unusedVariables false

end Go.Proofs.YteffjpdcghlnlaaGreatDoor.Oct

/-! ## Wib -/
/- Contracts: SameCommand, SameReply, SameEntry. -/
namespace Go.Proofs.YteffjpdcghlnlaaGreatDoor.Oct
open Go.ChangeShapes Go.WideShapes Go.ChangeAt Go.RowKit
set_option linter.unusedVariables false

/-- two texts are the same, as strings -/
def teqB (T T' : Nat) (d d' : Bf) : Bool := (strOf T d).toList == (strOf T' d').toList
theorem teq_iff {T T' : Nat} {d d' : Bf} : teqB T T' d d' = true ↔ T = T' ∧ ∀ i, i < T → d i = d' i := by
  by_cases h : T = T'
  · subst h
    unfold teqB
    rw [beq_iff_eq]
    constructor
    · intro e
      rw [ByteArray.toList_eq, ByteArray.toList_eq] at e
      refine ⟨rfl, str_inj ?_⟩
      generalize strOf T d = x at e ⊢
      generalize strOf T d' = y at e ⊢
      cases x; cases y
      simp_all
    · intro e
      rw [str_congr e.2]
  · constructor
    · intro e
      unfold teqB at e
      rw [str_nelN h] at e
      cases e
    · intro e
      exact absurd e.1 h
def repS (x n m x' n' m' : Int) (T T' : Nat) (d d' : Bf) : Bool := (x == x') && ((n == n') && ((m == m') && teqB T T' d d'))
set_option maxRecDepth 20000 in
set_option maxHeartbeats 8000000 in
theorem samerep_any (x n m x' n' m' : Int) (T T' c1 c3 : Nat) (A1 A3 : Option Addr) (d d' : Bf) (w : World) (hd : Sl w w.heap.size A1 T c1 d) (hd' : Sl w w.heap.size A3 T' c3 d') :
    Calls Tryz.prog 18 #[repV x n m (.slice A1 T c1), repV x' n' m' (.slice A3 T' c3)] w fun e w' => e = .returned (.bool (repS x n m x' n' m' T T' d d')) ∧ Below w.heap.size w w' := by
  obtain ⟨w1, hw1⟩ : ∃ w1, w1 = (w.alloc (.cells #[.int .i64 x, .int .i64 n, .int .i64 m, .slice A1 T c1] 33)).alloc (.cells #[.int .i64 x', .int .i64 n', .int .i64 m', .slice A3 T' c3] 33) := ⟨_, rfl⟩
  have bw : Below w.heap.size w w1 := by rw [hw1]; exact ((Below.refl _ _).alloc (by simp) _).alloc (by simp) _
  have B1 := Lib.hid bw
  have R1 := Lib.hid (show row w1 w.heap.size = some #[.int .i64 x, .int .i64 n, .int .i64 m, .slice A1 T c1] by rw [hw1]; exact row_alloc (row_alloc_at _ _ _ _ rfl) _)
  have R2 := Lib.hid (show row w1 (w.heap.size + 1) = some #[.int .i64 x', .int .i64 n', .int .i64 m', .slice A3 T' c3] by rw [hw1]; exact row_alloc_at _ _ _ _ (by simp))
  have cv1 := conv_sl (hd.below bw)
  have cv3 := conv_sl (hd'.below bw)
  obtain ⟨E, hE⟩ : ∃ E, E = repS x n m x' n' m' T T' d d' := ⟨_, rfl⟩
  rw [← hE]
  unfold repS at hE
  obtain ⟨e0, he0⟩ : ∃ y, y = (x == x') := ⟨_, rfl⟩
  obtain ⟨e1, he1⟩ : ∃ x, x = (n == n') := ⟨_, rfl⟩
  obtain ⟨e2, he2⟩ : ∃ x, x = (m == m') := ⟨_, rfl⟩
  obtain ⟨e3, he3⟩ : ∃ x, x = teqB T T' d d' := ⟨_, rfl⟩
  rw [← he0, ← he1, ← he2, ← he3] at hE
  have HE := Lib.hid hE
  unfold teqB at he3
  obtain ⟨S1, hS1⟩ : ∃ x, x = strOf T d := ⟨_, rfl⟩
  obtain ⟨S3, hS3⟩ : ∃ x, x = strOf T' d' := ⟨_, rfl⟩
  rw [← hS1] at cv1 he3
  rw [← hS3] at cv3 he3
  have g0 := he0.symm
  have g1 := he1.symm
  have g2 := he2.symm
  have g3 := he3.symm
  clear hE he0 he1 he2 he3 hS1 hS3 bw hd hd'
  go_enter Tryz.func18, Tryz.ntmps18
  go_upto_region 1 with fail
  rw [← hw1]
  clear hw1
  obtain ⟨a0, a1, a2, a3⟩ := cells4 R1.out
  obtain ⟨b0, b1, b2, b3⟩ := cells4 R2.out
  cases e0 with
  | false =>
    have F := Lib.hid (show E = false from HE.out)
    go_wp2_with fail
    go_ret
    exact ⟨by rw [F.out]; rfl, B1.out⟩
  | true =>
    cases e1 with
    | false =>
      have F := Lib.hid (show E = false from HE.out)
      go_wp2_with fail
      go_ret
      exact ⟨by rw [F.out]; rfl, B1.out⟩
    | true =>
      cases e2 with
      | false =>
        have F := Lib.hid (show E = false from HE.out)
        go_wp2_with fail
        go_ret
        exact ⟨by rw [F.out]; rfl, B1.out⟩
      | true =>
        have F := Lib.hid (show E = e3 from HE.out)
        go_wp2_with fail
        go_ret
        exact ⟨by rw [F.out]; rfl, B1.out⟩
end Go.Proofs.YteffjpdcghlnlaaGreatDoor.Oct
