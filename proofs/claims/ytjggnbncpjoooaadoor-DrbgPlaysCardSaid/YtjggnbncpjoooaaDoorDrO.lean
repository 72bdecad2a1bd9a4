/- The struct type Op of layer 7's statements: what came in is of its form. -/
import Derived.Test.YtjggnbncpjoooaaDoorLib
import Derived.Test.YtjggnbncpjoooaaDoorDrS
namespace Go.Proofs.YtjggnbncpjoooaaDoor.Oct
open Go.ChangeShapes Go.WideShapes Go.ChangeAt Go.RowKit
set_option linter.unusedVariables false

section
variable {H : Type} {enc : TypeId × Value → H} {w : World} {base : Nat} {spare : Nat → Bool} {held : Bool}
theorem open_op {r : Reach} {b : Nat} {v : Value} {d : DataW H} {p : List MemPlace} (hv : Value.okWide Tryd.prog w r b 31 v) (h : DataW.Trod enc Tryd.prog w base spare held 31 v d p) :
    ∃ k x A L c f, v = .agg #[.int .i64 k, .int .i64 x, .slice A L c] ∧ Sl w w.heap.size A L c f ∧ c ≤ maxLen ∧ (Lit.int .i64 k).wf = true ∧ (Lit.int .i64 x).wf = true := by
  obtain ⟨cs, rfl, hs, m, hall⟩ := open_struct Tryd.underlying31 hv h
  have hc : Tryd.prog.cellsOf 31 = 3 := by kernel_rfl
  have h1 : Tryd.prog.cellsOf 5 = 1 := by kernel_rfl
  have hl : cs.toList.length = 1 + 1 + 1 := by rw [Array.length_toList, hs, hc]
  obtain ⟨y0, e0⟩ := hall 0 _ rfl
  obtain ⟨y1, e1⟩ := hall 1 _ rfl
  obtain ⟨y2, e2⟩ := hall 2 _ rfl
  obtain ⟨k, ek, _, hk⟩ := DataW.trod_int (k := .i64) (by kernel_rfl) e0
  obtain ⟨x, ex, _, hx⟩ := DataW.trod_int (k := .i64) (by kernel_rfl) e1
  obtain ⟨A, L, c, f, es, hsl, hm⟩ := fld_sl sli_u u8_u h1 e2
  refine ⟨k, x, A, L, c, f, ?_, hsl, hm, hk, hx⟩
  congr 1
  apply Array.ext'
  rw [fld_three hl]
  rw [show fld cs.toList 0 1 = [.int .i64 k] from ek, show fld cs.toList 1 1 = [.int .i64 x] from ex, show fld cs.toList (1 + 1) 1 = [.slice A L c] from es]
  rfl
end
/-- what the laws on a state hold on their way: key, V, and the op, in blocks of their own -/
structure Hd3 (w wr : World) (k v : Bf) (o : Array Value) : Prop where
  b : Below w.heap.size w wr
  rk : row wr w.heap.size = some (ba 32 k)
  rv : row wr (w.heap.size + 1) = some (ba 32 v)
  ro : row wr (w.heap.size + 1 + 1) = some o
  z : w.heap.size + 3 ≤ wr.heap.size
theorem Hd3.start (w : World) (k v : Bf) (o : Array Value) (t t' t'' : TypeId) : Hd3 w (((w.alloc (.cells (ba 32 k) t)).alloc (.cells (ba 32 v) t')).alloc (.cells o t'')) k v o :=
  ⟨(((Below.refl _ _).alloc (Nat.le_refl _) _).alloc (by simp) _).alloc (by simp; omega) _, row_alloc (row_alloc (row_alloc_at _ _ _ _ rfl) _) _, row_alloc (row_alloc_at _ _ _ _ (by simp)) _, row_alloc_at _ _ _ _ (by simp), by simp⟩
theorem Hd3.below {w wr w' : World} {k v : Bf} {o : Array Value} (h : Hd3 w wr k v o) (hb : Below wr.heap.size wr w') : Hd3 w w' k v o :=
  ⟨onto h.b (by have := h.z; omega) hb, carry hb h.rk, carry hb h.rv, carry hb h.ro, Nat.le_trans h.z hb.size⟩
theorem Hd3.put {w wr w' : World} {k v : Bf} {o : Array Value} {B : Nat} {c : Array Value} (h : Hd3 w wr k v o) (hp : Put B c wr w') (hB : w.heap.size + 3 ≤ B) : Hd3 w w' k v o :=
  ⟨h.b.trans (hp.low (by omega) (by have := h.z; omega)), hp.other (by omega) h.rk, hp.other (by omega) h.rv, hp.other (by omega) h.ro, Nat.le_trans h.z hp.size⟩
section
variable {w wr : World} {k v : Bf} {a b c : Value} (h : Hd3 w wr k v #[a, b, c])
include h
theorem Hd3.c0 : wr.cell? ⟨w.heap.size + 1 + 1, 0, none⟩ = some a := by rw [cell_row h.ro]; rfl
theorem Hd3.c1 : wr.cell? ⟨w.heap.size + 1 + 1, 1, none⟩ = some b := by rw [cell_row h.ro]; rfl
theorem Hd3.c2 : wr.cell? ⟨w.heap.size + 1 + 1, 2, none⟩ = some c := by rw [cell_row h.ro]; rfl
end
end Go.Proofs.YtjggnbncpjoooaaDoor.Oct
