import Derived.Test.YteffjpdcghlnlaaGreatDoorZcPkAll
import Derived.Test.YteffjpdcghlnlaaGreatDoorZcLib
import Derived.Deep.DeepCutAuto
set_option linter.unusedVariables false
set_option linter.unusedSimpArgs false
set_option maxHeartbeats 4000000
namespace Go.Proofs.YteffjpdcghlnlaaGreatDoor.Oct
open Go.ChangeShapes Go.WideShapes Go.ChangeAt Go.RowKit
theorem yR {P : Program} {ops : Array Oper} {C : World → Prop} {K : Act → Prop} {l : List Oper} {a : Act} (h : wpQuiet P ops (fun w' => ∃ x : In C, w' = x.val) K l a) : wpQuiet P ops C K l a := by rw [In_eq] at h; exact h
def Wrt (g o : Nat) (v : Value) (w w' : World) : Prop := ∃ w1, Below w.heap.size w w1 ∧ w' = w1.setCell ⟨g, o, none⟩ v
def Wrts (g o : Nat → Nat) (y : Nat → Int) : Nat → World → World → Prop
 | 0, w, w' => w' = w
 | j + 1, w, w' => ∃ w1, Wrts g o y j w w1 ∧ Wrt (g j) (o j) (.int .i64 (y j)) w1 w'
section
variable {g o : Nat} {v : Value} {w w' : World}
theorem Wrt.size (h : Wrt g o v w w') : w.heap.size ≤ w'.heap.size := by
 obtain ⟨w1, hb, rfl⟩ := h
 have := hb.size
 simp [World.setCell]; omega
theorem Wrt.block (h : Wrt g o v w w') {k : Nat} (hk : k < w.heap.size) (hn : k ≠ g) : w'.heap[k]? = w.heap[k]? := by
 obtain ⟨w1, hb, rfl⟩ := h
 rw [Below.heap_setCell _ _ _ _ hn, hb.block k hk]
theorem Wrt.low (h : Wrt g o v w w') {B : Nat} (hB : B ≤ g) (hw : B ≤ w.heap.size) : Below B w w' := by
 obtain ⟨w1, hb, rfl⟩ := h
 exact (hb.mono hw).setCell hB v
theorem Wrt.row (h : Wrt g o v w w') {c : Array Value} (hr : row w g = some c) : row w' g = some (c.setIfInBounds o v) := by
 obtain ⟨w1, hb, rfl⟩ := h
 have h1 := zC hb hr
 rw [zP h1]
 exact zD h1 _
theorem Wrt.other (h : Wrt g o v w w') {k : Nat} {c : Array Value} (hr : Oct.row w k = some c) (hn : k ≠ g) : Oct.row w' k = some c := by
 rw [yX (h.block (zK hr) hn)]; exact hr
theorem Wrt.rows (h : Wrt g o v w w') {k : Nat} {c : Array Value} (hr : Oct.row w k = some c) : ∃ c', Oct.row w' k = some c' ∧ c'.size = c.size := by
 by_cases hk : k = g
 ·subst hk
  exact ⟨_, h.row hr, by simp⟩
 ·exact ⟨c, h.other hr hk, rfl⟩
theorem Wrt.put (h : Wrt g o v w w') {c : Array Value} (hr : Oct.row w g = some c) : Put g (c.setIfInBounds o v) w w' := by
 obtain ⟨w1, hb, rfl⟩ := h
 rw [zP (zC hb hr)]
 exact Put.of hb (zK hr) _
theorem Wrt.sl (h : Wrt g o v w w') {A : Option Addr} {n m D : Nat} {b : Bf} (hs : Sl w D A n m b) (hD : D ≤ w.heap.size) (ho : Off g n A) : Sl w' D A n m b :=
 ⟨hs.le, fun hn => by
  obtain ⟨k, q, e, hk, hc⟩ := hs.at_ hn
  refine ⟨k, q, e, hk, fun i hi => ?_⟩
  have hb := h.block (k := k) (by omega) (ho hn _ e)
  rw [show w'.cell? ⟨k, q + i, none⟩ = w.cell? ⟨k, q + i, none⟩ by unfold World.cell?; rw [hb]]
  exact hc i hi⟩
theorem Wrt.slG (h : Wrt g o v w w') {A : Option Addr} {n m D : Nat} {V : Nat → Value} (hs : SlG w D A n m V) (hD : D ≤ w.heap.size) (ho : Off g n A) : SlG w' D A n m V :=
 ⟨hs.le, fun hn => by
  obtain ⟨k, q, e, hk, hc⟩ := hs.at_ hn
  refine ⟨k, q, e, hk, fun i hi => ?_⟩
  have hb := h.block (k := k) (by omega) (ho hn _ e)
  rw [show w'.cell? ⟨k, q + i, none⟩ = w.cell? ⟨k, q + i, none⟩ by unfold World.cell?; rw [hb]]
  exact hc i hi⟩
theorem Own.setCell {base n : Nat} {u : TypeId} {z : Value} {f : Bf} (h : Own w base u z n f) {a : Addr} (ha : a.block < base) (x : Value) : Own (w.setCell a x) base u z n f := ownsRow_setCell_below h ha x
theorem SlG.setCell {D n c base : Nat} {A : Option Addr} {V : Nat → Value} (h : SlG w D A n c V) (hA : A = none ∨ ∃ g, A = some ⟨g, 0, none⟩ ∧ base ≤ g) {a : Addr} (ha : a.block < base) (x : Value) : SlG (w.setCell a x) D A n c V :=
 ⟨h.le, fun hn => by
  obtain ⟨k, q, e, hk, hc⟩ := h.at_ hn
  refine ⟨k, q, e, hk, fun i hi => ?_⟩
  have hb : (w.setCell a x).heap[k]? = w.heap[k]? := Below.heap_setCell _ _ _ _ (fun e2 => by
   rcases hA with h1 | ⟨g, h1, hg⟩
   ·rw [h1] at e; cases e
   ·rw [h1] at e
    have : g = k := congrArg Addr.block (Option.some.inj e)
    omega)
  rw [show (w.setCell a x).cell? ⟨k, q + i, none⟩ = w.cell? ⟨k, q + i, none⟩ by unfold World.cell?; rw [hb]]
  exact hc i hi⟩
end
section
variable {g o : Nat → Nat} {y : Nat → Int}
theorem Wrts.size : ∀ {j : Nat} {w w' : World}, Wrts g o y j w w' → w.heap.size ≤ w'.heap.size
 | 0, w, w', h => by rw [show w' = w from h]; exact Nat.le_refl _
 | j + 1, w, w', ⟨w1, h1, h2⟩ => Nat.le_trans h1.size h2.size
theorem Wrts.block : ∀ {j : Nat} {w w' : World}, Wrts g o y j w w' → ∀ {k : Nat}, k < w.heap.size → (∀ i, i < j → k ≠ g i) → w'.heap[k]? = w.heap[k]?
 | 0, w, w', h, k, hk, hn => by rw [show w' = w from h]
 | j + 1, w, w', ⟨w1, h1, h2⟩, k, hk, hn => by
  rw [h2.block (by have := h1.size; omega) (hn j (by omega)), Wrts.block h1 hk fun i hi => hn i (by omega)]
theorem Wrts.low : ∀ {j : Nat} {w w' : World}, Wrts g o y j w w' → ∀ {B : Nat}, (∀ i, i < j → B ≤ g i) → B ≤ w.heap.size → Below B w w'
 | 0, w, w', h, B, _, _ => by rw [show w' = w from h]; exact Below.refl _ _
 | j + 1, w, w', ⟨w1, h1, h2⟩, B, hB, hw => (Wrts.low h1 (fun i hi => hB i (by omega)) hw).trans (h2.low (hB j (by omega)) (by have := h1.size; omega))
theorem Wrts.rows : ∀ {j : Nat} {w w' : World}, Wrts g o y j w w' → ∀ {k : Nat} {c : Array Value}, row w k = some c → ∃ c', row w' k = some c' ∧ c'.size = c.size
 | 0, w, w', h, k, c, hr => by rw [show w' = w from h]; exact ⟨c, hr, rfl⟩
 | j + 1, w, w', ⟨w1, h1, h2⟩, k, c, hr => by
  obtain ⟨c1, r1, e1⟩ := Wrts.rows h1 hr
  obtain ⟨c2, r2, e2⟩ := h2.rows r1
  exact ⟨c2, r2, by omega⟩
theorem Wrts.other {j : Nat} {w w' : World} (h : Wrts g o y j w w') {k : Nat} {c : Array Value} (hr : row w k = some c) (hn : ∀ i, i < j → k ≠ g i) : row w' k = some c := by
 rw [yX (h.block (zK hr) hn)]; exact hr
theorem Wrts.slG {j : Nat} {w w' : World} (h : Wrts g o y j w w') {A : Option Addr} {n m D : Nat} {V : Nat → Value} (hs : SlG w D A n m V) (hD : D ≤ w.heap.size) (ho : ∀ i, i < j → Off (g i) n A) : SlG w' D A n m V :=
 ⟨hs.le, fun hn => by
  obtain ⟨k, q, e, hk, hc⟩ := hs.at_ hn
  refine ⟨k, q, e, hk, fun i hi => ?_⟩
  have hb := h.block (k := k) (by omega) (fun i hi => ho i hi hn _ e)
  rw [show w'.cell? ⟨k, q + i, none⟩ = w.cell? ⟨k, q + i, none⟩ by unfold World.cell?; rw [hb]]
  exact hc i hi⟩
theorem Wrts.congr {y' : Nat → Int} : ∀ {j : Nat} {w w' : World}, Wrts g o y j w w' → (∀ i, i < j → y i = y' i) → Wrts g o y' j w w'
 | 0, w, w', h, _ => h
 | j + 1, w, w', ⟨w1, h1, h2⟩, he => ⟨w1, Wrts.congr h1 (fun i hi => he i (by omega)), by rw [← he j (by omega)]; exact h2⟩
end
section
variable {w W w' w2 : World} {hot : Nat → Prop}
end
theorem load_row {P : Program} {ty : TypeId} {d : TypeDesc} {w : World} {b : Nat} {c : Array Value} (hr : row w b = some c) (hu : P.underlying ty = some d) (hd : d.isRow = true) (hi : (P.info? ty).map (·.size) = some c.size) : (loadVar ty ⟨b, 0, none⟩).run P w = .ok (.agg c) w := by
 obtain ⟨t', ht⟩ := xC hr
 have hg : w.rangeAt b 0 (c.extract 0 (0 + c.size)).toList := World.rangeAt_of_block ht 0 c.size
 have hx := run_loadVar_mid (P := P) w b 0 ty _ d hg hu hd (by rw [hi]; simp)
 rw [Array.toArray_toList, Nat.zero_add, Array.extract_size] at hx
 exact hx
theorem res_ctt {P : Program} {fn : Func} {p u v : Tmp} {ty : TypeId} (h : fn.results = #[.cell p ty, .tmp u, .tmp v]) (tmps : Array Value) (w : World) (b : Nat) (c : Array Value) (d : TypeDesc)
  (hp : tmps.getD p undef = .pointer (some ⟨b, 0, none⟩)) (hr : row w b = some c) (hu : P.underlying ty = some d) (hd : d.isRow = true) (hi : (P.info? ty).map (·.size) = some c.size) :
  (results fn tmps).run P w = .ok (.tuple #[.agg c, tmps.getD u undef, tmps.getD v undef]) w := by
 have hp2 : tmps[p]?.getD undef = .pointer (some ⟨b, 0, none⟩) := by simpa using hp
 simp only [results, h]
 simp [hp2, asAddr, load_row hr hu hd hi]
def Entr (g : FuncId) : Prop := ∀ (xs : Array Value) (w : World), (callFunc g xs).run Tryz.prog w = .ok (.enter g xs) w
theorem entr {f : FuncId} {fn : Func} (hf : Tryz.prog.funcs[f]? = some fn) (hn : (fn.name == "runtime.NumGoroutine") = false) (hb : fn.body.isSome = true) : Entr f := fun xs w => by
 have h1 : fn.name ≠ "runtime.NumGoroutine" := by simpa using hn
 obtain ⟨c, hc⟩ := Option.isSome_iff_exists.1 hb
 simp [callFunc, hf, h1, hc]
def inB (a b x : Int) : Bool := decide (a ≤ x) && decide (x ≤ b)
theorem has_any (a b x : Int) (w : World) :
  Calls Tryz.prog 133 #[.agg #[.int .i64 a, .int .i64 b], .int .i64 x] w fun e w' => e = .returned (.bool (inB a b x)) ∧ Below w.heap.size w w' := by
 by_cases h1 : a ≤ x
 ·have hd1 : decide (a ≤ x) = true := by simp; omega
  by_cases h2 : x ≤ b
  ·have hd2 : decide (x ≤ b) = true := by simp; omega
   have hI := Lib.hid (show inB a b x = true by unfold inB; rw [hd1, hd2]; rfl)
   go_enter Tryz.func133, Tryz.ntmps133
   go_wp2_with fail
   go_ret
   exact ⟨by rw [hI.out]; rfl, (Below.refl _ _).alloc (Nat.le_refl _) _⟩
  ·have hd2 : decide (x ≤ b) = false := by simp; omega
   have hI := Lib.hid (show inB a b x = false by unfold inB; rw [hd1, hd2]; rfl)
   go_enter Tryz.func133, Tryz.ntmps133
   go_wp2_with fail
   go_ret
   exact ⟨by rw [hI.out]; rfl, (Below.refl _ _).alloc (Nat.le_refl _) _⟩
 ·have hd1 : decide (a ≤ x) = false := by simp; omega
  have hI := Lib.hid (show inB a b x = false by unfold inB; rw [hd1]; rfl)
  go_enter Tryz.func133, Tryz.ntmps133
  go_wp2_with fail
  go_ret
  exact ⟨by rw [hI.out]; rfl, (Below.refl _ _).alloc (Nat.le_refl _) _⟩
def shN (k : Int) : List Int :=
 if k = 1 then [0, 0, 0, 0, 0, 0, 0, 0, 0, 0, 0, 0]
 else if k = 2 then [0, 0, 0, 0, 1, 1099511627776, 0, 0, 0, 0, 0, 0]
 else if k = 3 then [1, 1099511627776, 1, 1099511627776, 0, 0, 0, 0, 0, 0, 0, 0]
 else if k = 4 then [1, 1099511627776, 1, 1099511627776, 1, 1099511627776, 0, 0, 0, 0, 0, 0]
 else if k = 5 then [1, 1099511627776, 1, 1099511627776, 1, 1099511627776, 0, 1, 0, 0, 0, 0]
 else if k = 6 then [1, 1099511627776, 1, 1099511627776, 1, 1099511627776, 1, 9223372036854775807, 0, 0, 0, 0]
 else if k = 7 then [1, 1099511627776, 1, 1099511627776, 1, 1099511627776, 0, 0, 0, 64, 0, 32]
 else if k = 8 then [1, 1099511627776, 1, 1099511627776, 0, 0, 0, 0, 0, 128, 0, 32]
 else if k = 9 then [1, 1099511627776, 1, 1099511627776, 0, 0, 0, 0, 0, 128, 0, 32]
 else if k = 10 then [1, 1099511627776, 1, 1099511627776, 0, 0, 0, 0, 1, 64, 0, 0]
 else [0, 0, 0, 0, 0, 0, 0, 0, 0, 0, 0, 0]
def sh (k : Int) (j : Nat) : Int := (shN k).getD j 0
theorem yJ (w : World) (a b c : Array Value) (t u v : TypeId) : Below w.heap.size w (((w.alloc (.cells a t)).alloc (.cells b u)).alloc (.cells c v)) :=
 (((Below.refl _ _).alloc (by simp) _).alloc (by simp) _).alloc (by simp; omega) _
def kiB (k : Int) : Bool := decide (1 ≤ k) && decide (k ≤ 10)
theorem shape_any (k : Int) (w : World) :
  Calls Tryz.prog 77 #[.int .i64 k] w fun e w' => e = .returned (.tuple #[.agg #[.int .i64 (sh k 0), .int .i64 (sh k 1), .int .i64 (sh k 2), .int .i64 (sh k 3), .int .i64 (sh k 4), .int .i64 (sh k 5), .int .i64 (sh k 6), .int .i64 (sh k 7), .int .i64 (sh k 8), .int .i64 (sh k 9), .int .i64 (sh k 10), .int .i64 (sh k 11)], .bool (kiB k)]) ∧ Below w.heap.size w w' := by
 have hcase : k = 1 ∨ k = 2 ∨ k = 3 ∨ k = 4 ∨ k = 5 ∨ k = 6 ∨ k = 7 ∨ k = 8 ∨ k = 9 ∨ k = 10 ∨ (k ≠ 1 ∧ k ≠ 2 ∧ k ≠ 3 ∧ k ≠ 4 ∧ k ≠ 5 ∧ k ≠ 6 ∧ k ≠ 7 ∧ k ≠ 8 ∧ k ≠ 9 ∧ k ≠ 10) := by omega
 rcases hcase with rfl | rfl | rfl | rfl | rfl | rfl | rfl | rfl | rfl | rfl | ⟨h1, h2, h3, h4, h5, h6, h7, h8, h9, h10⟩
 ·go_enter Tryz.func77, Tryz.ntmps77
  go_wp2_with fail
  exact bodyPost_ret (v := .tuple #[.agg #[.int .i64 (sh 1 0), .int .i64 (sh 1 1), .int .i64 (sh 1 2), .int .i64 (sh 1 3), .int .i64 (sh 1 4), .int .i64 (sh 1 5), .int .i64 (sh 1 6), .int .i64 (sh 1 7), .int .i64 (sh 1 8), .int .i64 (sh 1 9), .int .i64 (sh 1 10), .int .i64 (sh 1 11)], .bool (kiB 1)]) (by simp [results, Tryz.results77, go_sem]; decide) rfl ⟨rfl, yJ w _ _ _ _ _ _⟩
 ·go_enter Tryz.func77, Tryz.ntmps77
  go_wp2_with fail
  exact bodyPost_ret (v := .tuple #[.agg #[.int .i64 (sh 2 0), .int .i64 (sh 2 1), .int .i64 (sh 2 2), .int .i64 (sh 2 3), .int .i64 (sh 2 4), .int .i64 (sh 2 5), .int .i64 (sh 2 6), .int .i64 (sh 2 7), .int .i64 (sh 2 8), .int .i64 (sh 2 9), .int .i64 (sh 2 10), .int .i64 (sh 2 11)], .bool (kiB 2)]) (by simp [results, Tryz.results77, go_sem]; decide) rfl ⟨rfl, yJ w _ _ _ _ _ _⟩
 ·go_enter Tryz.func77, Tryz.ntmps77
  go_wp2_with fail
  exact bodyPost_ret (v := .tuple #[.agg #[.int .i64 (sh 3 0), .int .i64 (sh 3 1), .int .i64 (sh 3 2), .int .i64 (sh 3 3), .int .i64 (sh 3 4), .int .i64 (sh 3 5), .int .i64 (sh 3 6), .int .i64 (sh 3 7), .int .i64 (sh 3 8), .int .i64 (sh 3 9), .int .i64 (sh 3 10), .int .i64 (sh 3 11)], .bool (kiB 3)]) (by simp [results, Tryz.results77, go_sem]; decide) rfl ⟨rfl, yJ w _ _ _ _ _ _⟩
 ·go_enter Tryz.func77, Tryz.ntmps77
  go_wp2_with fail
  exact bodyPost_ret (v := .tuple #[.agg #[.int .i64 (sh 4 0), .int .i64 (sh 4 1), .int .i64 (sh 4 2), .int .i64 (sh 4 3), .int .i64 (sh 4 4), .int .i64 (sh 4 5), .int .i64 (sh 4 6), .int .i64 (sh 4 7), .int .i64 (sh 4 8), .int .i64 (sh 4 9), .int .i64 (sh 4 10), .int .i64 (sh 4 11)], .bool (kiB 4)]) (by simp [results, Tryz.results77, go_sem]; decide) rfl ⟨rfl, yJ w _ _ _ _ _ _⟩
 ·go_enter Tryz.func77, Tryz.ntmps77
  go_wp2_with fail
  exact bodyPost_ret (v := .tuple #[.agg #[.int .i64 (sh 5 0), .int .i64 (sh 5 1), .int .i64 (sh 5 2), .int .i64 (sh 5 3), .int .i64 (sh 5 4), .int .i64 (sh 5 5), .int .i64 (sh 5 6), .int .i64 (sh 5 7), .int .i64 (sh 5 8), .int .i64 (sh 5 9), .int .i64 (sh 5 10), .int .i64 (sh 5 11)], .bool (kiB 5)]) (by simp [results, Tryz.results77, go_sem]; decide) rfl ⟨rfl, yJ w _ _ _ _ _ _⟩
 ·go_enter Tryz.func77, Tryz.ntmps77
  go_wp2_with fail
  exact bodyPost_ret (v := .tuple #[.agg #[.int .i64 (sh 6 0), .int .i64 (sh 6 1), .int .i64 (sh 6 2), .int .i64 (sh 6 3), .int .i64 (sh 6 4), .int .i64 (sh 6 5), .int .i64 (sh 6 6), .int .i64 (sh 6 7), .int .i64 (sh 6 8), .int .i64 (sh 6 9), .int .i64 (sh 6 10), .int .i64 (sh 6 11)], .bool (kiB 6)]) (by simp [results, Tryz.results77, go_sem]; decide) rfl ⟨rfl, yJ w _ _ _ _ _ _⟩
 ·go_enter Tryz.func77, Tryz.ntmps77
  go_wp2_with fail
  exact bodyPost_ret (v := .tuple #[.agg #[.int .i64 (sh 7 0), .int .i64 (sh 7 1), .int .i64 (sh 7 2), .int .i64 (sh 7 3), .int .i64 (sh 7 4), .int .i64 (sh 7 5), .int .i64 (sh 7 6), .int .i64 (sh 7 7), .int .i64 (sh 7 8), .int .i64 (sh 7 9), .int .i64 (sh 7 10), .int .i64 (sh 7 11)], .bool (kiB 7)]) (by simp [results, Tryz.results77, go_sem]; decide) rfl ⟨rfl, yJ w _ _ _ _ _ _⟩
 ·go_enter Tryz.func77, Tryz.ntmps77
  go_wp2_with fail
  exact bodyPost_ret (v := .tuple #[.agg #[.int .i64 (sh 8 0), .int .i64 (sh 8 1), .int .i64 (sh 8 2), .int .i64 (sh 8 3), .int .i64 (sh 8 4), .int .i64 (sh 8 5), .int .i64 (sh 8 6), .int .i64 (sh 8 7), .int .i64 (sh 8 8), .int .i64 (sh 8 9), .int .i64 (sh 8 10), .int .i64 (sh 8 11)], .bool (kiB 8)]) (by simp [results, Tryz.results77, go_sem]; decide) rfl ⟨rfl, yJ w _ _ _ _ _ _⟩
 ·go_enter Tryz.func77, Tryz.ntmps77
  go_wp2_with fail
  exact bodyPost_ret (v := .tuple #[.agg #[.int .i64 (sh 9 0), .int .i64 (sh 9 1), .int .i64 (sh 9 2), .int .i64 (sh 9 3), .int .i64 (sh 9 4), .int .i64 (sh 9 5), .int .i64 (sh 9 6), .int .i64 (sh 9 7), .int .i64 (sh 9 8), .int .i64 (sh 9 9), .int .i64 (sh 9 10), .int .i64 (sh 9 11)], .bool (kiB 9)]) (by simp [results, Tryz.results77, go_sem]; decide) rfl ⟨rfl, yJ w _ _ _ _ _ _⟩
 ·go_enter Tryz.func77, Tryz.ntmps77
  go_wp2_with fail
  exact bodyPost_ret (v := .tuple #[.agg #[.int .i64 (sh 10 0), .int .i64 (sh 10 1), .int .i64 (sh 10 2), .int .i64 (sh 10 3), .int .i64 (sh 10 4), .int .i64 (sh 10 5), .int .i64 (sh 10 6), .int .i64 (sh 10 7), .int .i64 (sh 10 8), .int .i64 (sh 10 9), .int .i64 (sh 10 10), .int .i64 (sh 10 11)], .bool (kiB 10)]) (by simp [results, Tryz.results77, go_sem]; decide) rfl ⟨rfl, yJ w _ _ _ _ _ _⟩
 ·have e1 : (k == 1) = false := by simp; omega
  have e2 : (k == 2) = false := by simp; omega
  have e3 : (k == 3) = false := by simp; omega
  have e4 : (k == 4) = false := by simp; omega
  have e5 : (k == 5) = false := by simp; omega
  have e6 : (k == 6) = false := by simp; omega
  have e7 : (k == 7) = false := by simp; omega
  have e8 : (k == 8) = false := by simp; omega
  have e9 : (k == 9) = false := by simp; omega
  have e10 : (k == 10) = false := by simp; omega
  have HZ := Lib.hid (show (∀ j, j < 12 → sh k j = 0) ∧ kiB k = false from ⟨fun j hj => by
   unfold sh shN
   simp only [h1, h2, h3, h4, h5, h6, h7, h8, h9, h10, if_false]
   have : j = 0 ∨ j = 1 ∨ j = 2 ∨ j = 3 ∨ j = 4 ∨ j = 5 ∨ j = 6 ∨ j = 7 ∨ j = 8 ∨ j = 9 ∨ j = 10 ∨ j = 11 := by omega
   rcases this with rfl | rfl | rfl | rfl | rfl | rfl | rfl | rfl | rfl | rfl | rfl | rfl <;> rfl, by unfold kiB; simp; omega⟩)
  clear h1 h2 h3 h4 h5 h6 h7 h8 h9 h10
  go_enter Tryz.func77, Tryz.ntmps77
  go_wp2_with fail
  exact bodyPost_ret (v := .tuple #[.agg #[.int .i64 (sh k 0), .int .i64 (sh k 1), .int .i64 (sh k 2), .int .i64 (sh k 3), .int .i64 (sh k 4), .int .i64 (sh k 5), .int .i64 (sh k 6), .int .i64 (sh k 7), .int .i64 (sh k 8), .int .i64 (sh k 9), .int .i64 (sh k 10), .int .i64 (sh k 11)], .bool (kiB k)]) (by simp [results, Tryz.results77, go_sem]; exact ⟨⟨(HZ.out.1 0 (by omega)).symm, (HZ.out.1 1 (by omega)).symm, (HZ.out.1 2 (by omega)).symm, (HZ.out.1 3 (by omega)).symm, (HZ.out.1 4 (by omega)).symm, (HZ.out.1 5 (by omega)).symm, (HZ.out.1 6 (by omega)).symm, (HZ.out.1 7 (by omega)).symm, (HZ.out.1 8 (by omega)).symm, (HZ.out.1 9 (by omega)).symm, (HZ.out.1 10 (by omega)).symm, (HZ.out.1 11 (by omega)).symm⟩, HZ.out.2⟩) rfl ⟨rfl, yJ w _ _ _ _ _ _⟩
theorem cells4 {w : World} {B : Nat} {a b c d : Value} (h : row w B = some #[a, b, c, d]) : w.cell? ⟨B, 0, none⟩ = some a ∧ w.cell? ⟨B, 1, none⟩ = some b ∧ w.cell? ⟨B, 2, none⟩ = some c ∧ w.cell? ⟨B, 3, none⟩ = some d :=
 ⟨zF h 0, zF h 1, zF h 2, zF h 3⟩
abbrev comV (k s q i n : Int) (d b : Value) : Value := .agg #[.int .i64 k, .int .i64 s, .int .i64 q, .int .i64 i, .int .i64 n, d, b]
def fitB (h : Nat → Int) (s q i n : Int) (T U : Nat) : Bool := inB (h 0) (h 1) s && (inB (h 2) (h 3) q && (inB (h 4) (h 5) i && (inB (h 6) (h 7) n && (inB (h 8) (h 9) T && inB (h 10) (h 11) U))))
theorem fits_any (h : Nat → Int) (k s q i n : Int) (T U c c' : Nat) (A A' : Option Addr) (w : World) :
  Calls Tryz.prog 78 #[.agg #[.int .i64 (h 0), .int .i64 (h 1), .int .i64 (h 2), .int .i64 (h 3), .int .i64 (h 4), .int .i64 (h 5), .int .i64 (h 6), .int .i64 (h 7), .int .i64 (h 8), .int .i64 (h 9), .int .i64 (h 10), .int .i64 (h 11)], comV k s q i n (.slice A T c) (.slice A' U c')] w fun e w' => e = .returned (.bool (fitB h s q i n T U)) ∧ Below w.heap.size w w' := by
 obtain ⟨F, hF⟩ : ∃ F, F = fitB h s q i n T U := ⟨_, rfl⟩
 rw [← hF]
 have HF := Lib.hid hF
 clear hF
 have C := has_any
 obtain ⟨h0, e0⟩ : ∃ x, x = h 0 := ⟨_, rfl⟩
 obtain ⟨h1, e1⟩ : ∃ x, x = h 1 := ⟨_, rfl⟩
 obtain ⟨h2, e2⟩ : ∃ x, x = h 2 := ⟨_, rfl⟩
 obtain ⟨h3, e3⟩ : ∃ x, x = h 3 := ⟨_, rfl⟩
 obtain ⟨h4, e4⟩ : ∃ x, x = h 4 := ⟨_, rfl⟩
 obtain ⟨h5, e5⟩ : ∃ x, x = h 5 := ⟨_, rfl⟩
 obtain ⟨h6, e6⟩ : ∃ x, x = h 6 := ⟨_, rfl⟩
 obtain ⟨h7, e7⟩ : ∃ x, x = h 7 := ⟨_, rfl⟩
 obtain ⟨h8, e8⟩ : ∃ x, x = h 8 := ⟨_, rfl⟩
 obtain ⟨h9, e9⟩ : ∃ x, x = h 9 := ⟨_, rfl⟩
 obtain ⟨h10, e10⟩ : ∃ x, x = h 10 := ⟨_, rfl⟩
 obtain ⟨h11, e11⟩ : ∃ x, x = h 11 := ⟨_, rfl⟩
 rw [← e0, ← e1, ← e2, ← e3, ← e4, ← e5, ← e6, ← e7, ← e8, ← e9, ← e10, ← e11]
 unfold fitB at HF
 rw [← e0, ← e1, ← e2, ← e3, ← e4, ← e5, ← e6, ← e7, ← e8, ← e9, ← e10, ← e11] at HF
 clear e0 e1 e2 e3 e4 e5 e6 e7 e8 e9 e10 e11 h
 obtain ⟨w0, hw0⟩ : ∃ w0, w0 = (w.alloc (.cells #[.int .i64 h0, .int .i64 h1, .int .i64 h2, .int .i64 h3, .int .i64 h4, .int .i64 h5, .int .i64 h6, .int .i64 h7, .int .i64 h8, .int .i64 h9, .int .i64 h10, .int .i64 h11] 152)).alloc (.cells #[.int .i64 k, .int .i64 s, .int .i64 q, .int .i64 i, .int .i64 n, .slice A T c, .slice A' U c'] 36) := ⟨_, rfl⟩
 have B0 := Lib.hid (show Below w.heap.size w w0 by rw [hw0]; exact ((Below.refl _ _).alloc (by simp) _).alloc (by simp) _)
 have R0 := Lib.hid (show row w0 w.heap.size = some #[.int .i64 h0, .int .i64 h1, .int .i64 h2, .int .i64 h3, .int .i64 h4, .int .i64 h5, .int .i64 h6, .int .i64 h7, .int .i64 h8, .int .i64 h9, .int .i64 h10, .int .i64 h11] by rw [hw0]; exact zI (zA _ _ _ _ rfl) _)
 have R1 := Lib.hid (show row w0 (w.heap.size + 1) = some #[.int .i64 k, .int .i64 s, .int .i64 q, .int .i64 i, .int .i64 n, .slice A T c, .slice A' U c'] by rw [hw0]; exact zA _ _ _ _ (by simp))
 have F0 := Lib.hid (fun (a b x : Int) => C a b x w0)
 go_enter Tryz.func78, Tryz.ntmps78
 go_wp2_with fail
 rw [← hw0]
 clear hw0 C F0
 refine (has_any h0 h1 s _).mono ?_
 rintro e w1 ⟨rfl, hb⟩
 have B1 := Lib.hid (onto B0.out B0.out.size hb)
 have P1 := Lib.hid (zC hb R0.out)
 have Q1 := Lib.hid (zC hb R1.out)
 clear hb B0
 clear R0 R1
 obtain ⟨b0, hb0⟩ : ∃ x, x = inB h0 h1 s := ⟨_, rfl⟩
 rw [← hb0]
 have HB0 := Lib.hid hb0
 clear hb0
 cases b0 with
 | false =>
  have E := Lib.hid (show F = false by rw [HF.out, ← HB0.out]; rfl)
  go_wp2_with fail
  go_ret
  exact ⟨by rw [E.out]; rfl, B1.out⟩
 | true =>
 have c0 := zF P1.out 2
 have c1 := zF P1.out 3
 have c2 := zF Q1.out 2
 rw [show (#[.int .i64 h0, .int .i64 h1, .int .i64 h2, .int .i64 h3, .int .i64 h4, .int .i64 h5, .int .i64 h6, .int .i64 h7, .int .i64 h8, .int .i64 h9, .int .i64 h10, .int .i64 h11] : Array Value)[2]? = some (.int .i64 h2) from rfl] at c0
 rw [show (#[.int .i64 h0, .int .i64 h1, .int .i64 h2, .int .i64 h3, .int .i64 h4, .int .i64 h5, .int .i64 h6, .int .i64 h7, .int .i64 h8, .int .i64 h9, .int .i64 h10, .int .i64 h11] : Array Value)[3]? = some (.int .i64 h3) from rfl] at c1
 rw [show (#[.int .i64 k, .int .i64 s, .int .i64 q, .int .i64 i, .int .i64 n, .slice A T c, .slice A' U c'] : Array Value)[2]? = some (.int .i64 q) from rfl] at c2
 go_wp2_with fail
 clear c0 c1 c2
 refine (has_any h2 h3 q _).mono ?_
 rintro e w2 ⟨rfl, hb⟩
 have B2 := Lib.hid (onto B1.out B1.out.size hb)
 have P2 := Lib.hid (zC hb P1.out)
 have Q2 := Lib.hid (zC hb Q1.out)
 clear hb B1
 clear P1 Q1
 obtain ⟨b1, hb1⟩ : ∃ x, x = inB h2 h3 q := ⟨_, rfl⟩
 rw [← hb1]
 have HB1 := Lib.hid hb1
 clear hb1
 cases b1 with
 | false =>
  have E := Lib.hid (show F = false by rw [HF.out, ← HB0.out, ← HB1.out]; rfl)
  go_wp2_with fail
  go_ret
  exact ⟨by rw [E.out]; rfl, B2.out⟩
 | true =>
 have c0 := zF P2.out 4
 have c1 := zF P2.out 5
 have c2 := zF Q2.out 3
 rw [show (#[.int .i64 h0, .int .i64 h1, .int .i64 h2, .int .i64 h3, .int .i64 h4, .int .i64 h5, .int .i64 h6, .int .i64 h7, .int .i64 h8, .int .i64 h9, .int .i64 h10, .int .i64 h11] : Array Value)[4]? = some (.int .i64 h4) from rfl] at c0
 rw [show (#[.int .i64 h0, .int .i64 h1, .int .i64 h2, .int .i64 h3, .int .i64 h4, .int .i64 h5, .int .i64 h6, .int .i64 h7, .int .i64 h8, .int .i64 h9, .int .i64 h10, .int .i64 h11] : Array Value)[5]? = some (.int .i64 h5) from rfl] at c1
 rw [show (#[.int .i64 k, .int .i64 s, .int .i64 q, .int .i64 i, .int .i64 n, .slice A T c, .slice A' U c'] : Array Value)[3]? = some (.int .i64 i) from rfl] at c2
 go_wp2_with fail
 clear c0 c1 c2
 refine (has_any h4 h5 i _).mono ?_
 rintro e w3 ⟨rfl, hb⟩
 have B3 := Lib.hid (onto B2.out B2.out.size hb)
 have P3 := Lib.hid (zC hb P2.out)
 have Q3 := Lib.hid (zC hb Q2.out)
 clear hb B2
 clear P2 Q2
 obtain ⟨b2, hb2⟩ : ∃ x, x = inB h4 h5 i := ⟨_, rfl⟩
 rw [← hb2]
 have HB2 := Lib.hid hb2
 clear hb2
 cases b2 with
 | false =>
  have E := Lib.hid (show F = false by rw [HF.out, ← HB0.out, ← HB1.out, ← HB2.out]; rfl)
  go_wp2_with fail
  go_ret
  exact ⟨by rw [E.out]; rfl, B3.out⟩
 | true =>
 have c0 := zF P3.out 6
 have c1 := zF P3.out 7
 have c2 := zF Q3.out 4
 rw [show (#[.int .i64 h0, .int .i64 h1, .int .i64 h2, .int .i64 h3, .int .i64 h4, .int .i64 h5, .int .i64 h6, .int .i64 h7, .int .i64 h8, .int .i64 h9, .int .i64 h10, .int .i64 h11] : Array Value)[6]? = some (.int .i64 h6) from rfl] at c0
 rw [show (#[.int .i64 h0, .int .i64 h1, .int .i64 h2, .int .i64 h3, .int .i64 h4, .int .i64 h5, .int .i64 h6, .int .i64 h7, .int .i64 h8, .int .i64 h9, .int .i64 h10, .int .i64 h11] : Array Value)[7]? = some (.int .i64 h7) from rfl] at c1
 rw [show (#[.int .i64 k, .int .i64 s, .int .i64 q, .int .i64 i, .int .i64 n, .slice A T c, .slice A' U c'] : Array Value)[4]? = some (.int .i64 n) from rfl] at c2
 go_wp2_with fail
 clear c0 c1 c2
 refine (has_any h6 h7 n _).mono ?_
 rintro e w4 ⟨rfl, hb⟩
 have B4 := Lib.hid (onto B3.out B3.out.size hb)
 have P4 := Lib.hid (zC hb P3.out)
 have Q4 := Lib.hid (zC hb Q3.out)
 clear hb B3
 clear P3 Q3
 obtain ⟨b3, hb3⟩ : ∃ x, x = inB h6 h7 n := ⟨_, rfl⟩
 rw [← hb3]
 have HB3 := Lib.hid hb3
 clear hb3
 cases b3 with
 | false =>
  have E := Lib.hid (show F = false by rw [HF.out, ← HB0.out, ← HB1.out, ← HB2.out, ← HB3.out]; rfl)
  go_wp2_with fail
  go_ret
  exact ⟨by rw [E.out]; rfl, B4.out⟩
 | true =>
 have c0 := zF P4.out 8
 have c1 := zF P4.out 9
 have c2 := zF Q4.out 5
 rw [show (#[.int .i64 h0, .int .i64 h1, .int .i64 h2, .int .i64 h3, .int .i64 h4, .int .i64 h5, .int .i64 h6, .int .i64 h7, .int .i64 h8, .int .i64 h9, .int .i64 h10, .int .i64 h11] : Array Value)[8]? = some (.int .i64 h8) from rfl] at c0
 rw [show (#[.int .i64 h0, .int .i64 h1, .int .i64 h2, .int .i64 h3, .int .i64 h4, .int .i64 h5, .int .i64 h6, .int .i64 h7, .int .i64 h8, .int .i64 h9, .int .i64 h10, .int .i64 h11] : Array Value)[9]? = some (.int .i64 h9) from rfl] at c1
 rw [show (#[.int .i64 k, .int .i64 s, .int .i64 q, .int .i64 i, .int .i64 n, .slice A T c, .slice A' U c'] : Array Value)[5]? = some (.slice A T c) from rfl] at c2
 go_wp2_with fail
 clear c0 c1 c2
 refine (has_any h8 h9 (T : Int) _).mono ?_
 rintro e w5 ⟨rfl, hb⟩
 have B5 := Lib.hid (onto B4.out B4.out.size hb)
 have P5 := Lib.hid (zC hb P4.out)
 have Q5 := Lib.hid (zC hb Q4.out)
 clear hb B4
 clear P4 Q4
 obtain ⟨b4, hb4⟩ : ∃ x, x = inB h8 h9 (T : Int) := ⟨_, rfl⟩
 rw [← hb4]
 have HB4 := Lib.hid hb4
 clear hb4
 cases b4 with
 | false =>
  have E := Lib.hid (show F = false by rw [HF.out, ← HB0.out, ← HB1.out, ← HB2.out, ← HB3.out, ← HB4.out]; rfl)
  go_wp2_with fail
  go_ret
  exact ⟨by rw [E.out]; rfl, B5.out⟩
 | true =>
 have c0 := zF P5.out 10
 have c1 := zF P5.out 11
 have c2 := zF Q5.out 6
 rw [show (#[.int .i64 h0, .int .i64 h1, .int .i64 h2, .int .i64 h3, .int .i64 h4, .int .i64 h5, .int .i64 h6, .int .i64 h7, .int .i64 h8, .int .i64 h9, .int .i64 h10, .int .i64 h11] : Array Value)[10]? = some (.int .i64 h10) from rfl] at c0
 rw [show (#[.int .i64 h0, .int .i64 h1, .int .i64 h2, .int .i64 h3, .int .i64 h4, .int .i64 h5, .int .i64 h6, .int .i64 h7, .int .i64 h8, .int .i64 h9, .int .i64 h10, .int .i64 h11] : Array Value)[11]? = some (.int .i64 h11) from rfl] at c1
 rw [show (#[.int .i64 k, .int .i64 s, .int .i64 q, .int .i64 i, .int .i64 n, .slice A T c, .slice A' U c'] : Array Value)[6]? = some (.slice A' U c') from rfl] at c2
 go_wp2_with fail
 clear c0 c1 c2
 refine (has_any h10 h11 (U : Int) _).mono ?_
 rintro e w6 ⟨rfl, hb⟩
 have B6 := Lib.hid (onto B5.out B5.out.size hb)
 clear hb B5
 obtain ⟨b5, hb5⟩ : ∃ x, x = inB h10 h11 (U : Int) := ⟨_, rfl⟩
 rw [← hb5]
 have HB5 := Lib.hid hb5
 clear hb5
 have E := Lib.hid (show F = b5 by rw [HF.out, ← HB0.out, ← HB1.out, ← HB2.out, ← HB3.out, ← HB4.out, ← HB5.out]; cases b5 <;> rfl)
 go_wp2_with fail
 go_ret
 exact ⟨by rw [E.out]; rfl, B6.out⟩
theorem zX {w : World} {B : Nat} {a b c d e f g : Value} (h : row w B = some #[a, b, c, d, e, f, g]) : w.cell? ⟨B, 0, none⟩ = some a ∧ w.cell? ⟨B, 1, none⟩ = some b ∧ w.cell? ⟨B, 2, none⟩ = some c ∧ w.cell? ⟨B, 3, none⟩ = some d ∧ w.cell? ⟨B, 4, none⟩ = some e ∧ w.cell? ⟨B, 5, none⟩ = some f ∧ w.cell? ⟨B, 6, none⟩ = some g :=
 ⟨zF h 0, zF h 1, zF h 2, zF h 3, zF h 4, zF h 5, zF h 6⟩
def chkB (k s q i n : Int) (T U : Nat) : Bool := kiB k && fitB (sh k) s q i n T U
def chkE (k s q i n : Int) (T U : Nat) : Nat := if chkB k s q i n T U then 0 else 1
theorem check_any (k s q i n : Int) (T U c c' : Nat) (A A' : Option Addr) (w : World) :
  Calls Tryz.prog 38 #[comV k s q i n (.slice A T c) (.slice A' U c')] w fun e w' => e = .returned (.int .i64 (chkE k s q i n T U : Nat)) ∧ Below w.heap.size w w' := by
 obtain ⟨E, hE⟩ : ∃ E, E = chkE k s q i n T U := ⟨_, rfl⟩
 rw [← hE]
 have HE := Lib.hid hE
 clear hE
 have B0 := Lib.hid (show Below w.heap.size w (w.alloc (.cells #[.int .i64 k, .int .i64 s, .int .i64 q, .int .i64 i, .int .i64 n, .slice A T c, .slice A' U c'] 36)) from (Below.refl _ _).alloc (by simp) _)
 have R0 := Lib.hid (show row (w.alloc (.cells #[.int .i64 k, .int .i64 s, .int .i64 q, .int .i64 i, .int .i64 n, .slice A T c, .slice A' U c'] 36)) w.heap.size = some #[.int .i64 k, .int .i64 s, .int .i64 q, .int .i64 i, .int .i64 n, .slice A T c, .slice A' U c'] from zA _ _ _ _ rfl)
 have hz0 : w.heap.size ≤ (w.alloc (.cells #[.int .i64 k, .int .i64 s, .int .i64 q, .int .i64 i, .int .i64 n, .slice A T c, .slice A' U c'] 36)).heap.size := by simp
 go_enter Tryz.func38, Tryz.ntmps38
 go_wp2_with fail
 refine (shape_any k _).mono ?_
 rintro e w1 ⟨rfl, hb⟩
 have B1 := Lib.hid (onto B0.out hz0 hb)
 have R1 := Lib.hid (zC hb R0.out)
 clear hb B0 R0 hz0
 obtain ⟨K, hK⟩ : ∃ K, K = kiB k := ⟨_, rfl⟩
 rw [← hK]
 have HK := Lib.hid hK
 clear hK
 cases K with
 | false =>
  have HE1 := Lib.hid (show E = 1 by rw [HE.out]; unfold chkE chkB; rw [← HK.out]; rfl)
  go_wp2_with fail
  go_ret
  exact ⟨by rw [HE1.out]; rfl, B1.out.alloc (by have := B1.out.size; simp; try omega) _⟩
 | true =>
  obtain ⟨c0, c1, c2, c3, c4, c5, c6⟩ := zX R1.out
  have hx := zK R1.out
  go_wp2_with fail
  refine (fits_any (sh k) k s q i n T U c c' A A' _).mono ?_
  rintro e w2 ⟨rfl, hb⟩
  have hw1 : w1.heap.size ≤ w2.heap.size := by have := hb.size; simp at this; omega
  have B2 := Lib.hid (onto (B1.out.alloc B1.out.size _) (by have := B1.out.size; simp; omega) hb)
  clear hb c0 c1 c2 c3 c4 c5 c6 hx R1
  obtain ⟨F, hF⟩ : ∃ F, F = fitB (sh k) s q i n T U := ⟨_, rfl⟩
  rw [← hF]
  have HF := Lib.hid hF
  clear hF
  cases F with
  | false =>
   have HE1 := Lib.hid (show E = 1 by rw [HE.out]; unfold chkE chkB; rw [← HK.out, ← HF.out]; rfl)
   go_wp2_with fail
   go_ret
   exact ⟨by rw [HE1.out]; rfl, B2.out⟩
  | true =>
   have HE1 := Lib.hid (show E = 0 by rw [HE.out]; unfold chkE chkB; rw [← HK.out, ← HF.out]; rfl)
   go_wp2_with fail
   go_ret
   exact ⟨by rw [HE1.out]; rfl, B2.out⟩
def hS (k : Int) : Bool := decide (3 ≤ k) && decide (k ≤ 10)
def hI (k : Int) : Bool := decide (k = 2) || (decide (4 ≤ k) && decide (k ≤ 7))
def hN (k : Int) : Bool := decide (k = 5) || decide (k = 6)
def hD (k : Int) : Bool := decide (7 ≤ k) && decide (k ≤ 10)
def hB (k : Int) : Bool := decide (7 ≤ k) && decide (k ≤ 9)
theorem chk_ok {k s q i n : Int} {T U : Nat} (h : chkE k s q i n T U = 0) : 0 ≤ k ∧ 0 ≤ s ∧ 0 ≤ q ∧ 0 ≤ i ∧ 0 ≤ n ∧ T ≤ 128 ∧ U ≤ 32 := by
 have h' : chkB k s q i n T U = true := by unfold chkE at h; cases hb : chkB k s q i n T U with
  | true => rfl
  | false => rw [hb] at h; simp at h
 have hk : kiB k = true := by unfold chkB at h'; cases hb : kiB k with
  | true => rfl
  | false => rw [hb] at h'; simp at h'
 have hcase : k = 1 ∨ k = 2 ∨ k = 3 ∨ k = 4 ∨ k = 5 ∨ k = 6 ∨ k = 7 ∨ k = 8 ∨ k = 9 ∨ k = 10 := by unfold kiB at hk; simp at hk; omega
 clear h hk
 rcases hcase with rfl | rfl | rfl | rfl | rfl | rfl | rfl | rfl | rfl | rfl
 all_goals
  simp [chkB, kiB, fitB, inB, sh, shN] at h'
  omega
section
variable (w W : World) (f : Bf)
end
abbrev repV (c n m : Int) (d : Value) : Value := .agg #[.int .i64 c, .int .i64 n, .int .i64 m, d]
abbrev repZ : Value := repV 0 0 0 (.slice none 0 0)
section
variable (w W : World) (f : Bf)
end
section
variable (w W : World) (f : Bf)
end
end Go.Proofs.YteffjpdcghlnlaaGreatDoor.Oct
