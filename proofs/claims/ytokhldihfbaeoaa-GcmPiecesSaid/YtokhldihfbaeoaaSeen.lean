/- A region that draws its order, whose operations read blocks that were there and call functions that only make new ones: one walk in the text's order serves every order; behind it all blocks that were there are as they were. Of whatever program. -/
import Derived.Test.YtokhldihfbaeoaaRow
namespace Go.Proofs.Ytokhldihfbaeoaa.Oct
open Go.RowKit

/-- a world in which all that was in W is as it was -/
structure After (W : World) where
  val : World
  below : Below W.heap.size W val
instance (W : World) : Nonempty (After W) := ⟨⟨W, Below.refl _ _⟩⟩
theorem After.row {W : World} {b : Nat} {c : Array Value} (h : row W b = some c) (x : After W) : Oct.row x.val b = some c := carry x.below h
theorem After.cell {W : World} {b : Nat} {c : Array Value} (h : Oct.row W b = some c) (x : After W) (i : Nat) : x.val.cell? ⟨b, i, none⟩ = c[i]? := cell_row (x.row h) i
/-- a callee that leaves what there was -/
theorem After.call {P : Program} {W : World} {f : FuncId} {args : Array Value} {v : Value} (x : After W) (h : Calls P f args x.val fun e w' => e = .returned v ∧ Below x.val.heap.size x.val w') :
    Calls P f args x.val fun e w' => e = .returned v ∧ ∃ y : After W, w' = y.val :=
  h.mono fun _ w' ⟨he, hb⟩ => ⟨he, ⟨w', onto x.below x.below.size hb⟩, rfl⟩
theorem After.same {P : Program} {W : World} {f : FuncId} {args : Array Value} {v : Value} (x : After W) (h : Calls P f args x.val fun e w' => e = .returned v ∧ x.val = w') :
    Calls P f args x.val fun e w' => e = .returned v ∧ ∃ y : After W, w' = y.val :=
  h.mono fun _ _ ⟨he, hb⟩ => ⟨he, x, hb.symm⟩
theorem After.drawn {P : Program} {W : World} {f : FuncId} {args : Array Value} {v : Value} (x : After W) (h : Calls P f args x.val fun e w' => e = .returned v ∧ ∃ n, w' = x.val.drewN n) :
    Calls P f args x.val fun e w' => e = .returned v ∧ ∃ y : After W, w' = y.val :=
  h.mono fun _ _ ⟨he, n, hn⟩ => ⟨he, ⟨x.val.drewN n, below_drewN x.below n⟩, hn⟩

theorem seen_region {P : Program} {id : Nat} {Q : Exit → Act → World → Prop} {a : Act} {w : World} {l : List Oper} (hm : P.follows .mixedOrders = true) (hB : Region.lexB .any l.toArray = true)
    (h : wpQuiet P l.toArray (fun w' => ∃ x : After w, w' = x.val) (fun a' => ∀ w', (∃ x : After w, w' = x.val) → Q .normal a' w') l a) : (Code.region id l.toArray true).wp P Q a w :=
  wp_region_quiet (C := fun w' => ∃ x : After w, w' = x.val) hm hB ⟨⟨w.drewN 1, below_drewN (Below.refl _ _) 1⟩, rfl⟩ (by simpa using h)
theorem seen_tail {P : Program} {id : Nat} {Q : Exit → Act → World → Prop} {a : Act} {w : World} {l : List Oper} (s n : Nat) (hm : P.follows .mixedOrders = true) (hB : tailB l s n = true)
    (hQ : ∀ c a d v w, Q (.panic c) (a.put (some d) v) w → Q (.panic c) a w)
    (h : wpQuiet P l.toArray (fun w' => ∃ x : After w, w' = x.val) (fun a' => ∀ w', (∃ x : After w, w' = x.val) → wpList P l.toArray Q (l.drop n) a' w') (l.take n) a) : (Code.region id l.toArray true).wp P Q a w := by
  simp only [tailB, Bool.and_eq_true, decide_eq_true_eq] at hB
  obtain ⟨⟨⟨⟨⟨⟨hsel, hn⟩, hsn⟩, hs⟩, hc⟩, hmv⟩, hlex⟩ := hB
  refine wp_region_any hm ?_
  have inv0 : HeadInv .any l.toArray n (Array.replicate l.length false) :=
    ⟨by simp, fun j oj _ hl => (by rw [getD_replicate_false] at hl; cases hl), fun t _ ht => getD_in (by simpa using ht) (getD_replicate_false _ _)⟩
  have := moves_then (P := P) (C := fun w' => ∃ x : After w, w' = x.val) (Q := Q) hsel hs hc hn hQ (w := { w with drawn := w.drawn + 1 }) ⟨⟨w.drewN 1, below_drewN (Below.refl _ _) 1⟩, rfl⟩ s 0 (Array.replicate l.length false) a (by omega) hsn inv0 (fun i hi => by omega) (by simpa using hmv) (by simpa using hlex) (by simpa using h)
  simpa using this
end Go.Proofs.Ytokhldihfbaeoaa.Oct
