/- Slices of whatever one-cell elements: what one reads as; a row of the call's own, appended to. Of whatever program. -/
import Derived.Test.YtjebkokkgkkogaaDoorVa
import Derived.Test.YtjebkokkgkkogaaDoorLib
namespace Go.Proofs.YtjebkokkgkkogaaDoor.Oct
open Go.RowKit

/-- a slice (its address, length, capacity) that reads as the first n of V, in a block below B -/
structure SlG (w : World) (B : Nat) (A : Option Addr) (n c : Nat) (V : Nat → Value) : Prop where
  le : n ≤ c
  at_ : 0 < n → ∃ g o, A = some ⟨g, o, none⟩ ∧ g < B ∧ ∀ i, i < n → w.cell? ⟨g, o + i, none⟩ = some (V i)
theorem SlG.keep {w w' : World} {B n c : Nat} {A : Option Addr} {V : Nat → Value} (h : SlG w B A n c V) (hk : ∀ g o, g < B → w'.cell? ⟨g, o, none⟩ = w.cell? ⟨g, o, none⟩) : SlG w' B A n c V :=
  ⟨h.le, fun hn => by
    obtain ⟨g, o, e, hg, hc⟩ := h.at_ hn
    exact ⟨g, o, e, hg, fun i hi => by rw [hk _ _ hg]; exact hc i hi⟩⟩
theorem SlG.below {w w' : World} {B n c : Nat} {A : Option Addr} {V : Nat → Value} (h : SlG w B A n c V) (hb : Below B w w') : SlG w' B A n c V :=
  h.keep fun g o hg => hb.cell (p := ⟨g, o, none⟩) hg
theorem SlG.more {w : World} {B B' n c : Nat} {A : Option Addr} {V : Nat → Value} (h : SlG w B A n c V) (hB : B ≤ B') : SlG w B' A n c V :=
  ⟨h.le, fun hn => by obtain ⟨g, o, e, hg, hc⟩ := h.at_ hn; exact ⟨g, o, e, by omega, hc⟩⟩
theorem SlG.congr {w : World} {B n c : Nat} {A : Option Addr} {V V' : Nat → Value} (h : SlG w B A n c V) (e : ∀ i, i < n → V i = V' i) : SlG w B A n c V' :=
  ⟨h.le, fun hn => by obtain ⟨g, o, e', hg, hc⟩ := h.at_ hn; exact ⟨g, o, e', hg, fun i hi => by rw [← e i hi]; exact hc i hi⟩⟩
theorem SlG.drewN {w : World} {B n c : Nat} {A : Option Addr} {V : Nat → Value} (h : SlG w B A n c V) (m : Nat) : SlG (w.drewN m) B A n c V := h.keep fun _ _ _ => rfl
/-- the values of a list by their places -/
def nth (l : List Value) : Nat → Value := fun i => l.getD i undef
theorem nth_at (l : List Value) (i : Nat) (h : i < l.length) : l[i]? = some (nth l i) := by unfold nth; simp [h]
/-- a row of the call's own as a slice that is read -/
theorem ownsRow_slG {w : World} {base n : Nat} {u : TypeId} {v : Value} {l : List Value} (h : w.ownsRow base u 1 v n l) :
    ∃ A c, v = .slice A n c ∧ SlG w w.heap.size A n c (nth l) ∧ c ≤ maxLen ∧ (A = none ∨ ∃ g, A = some ⟨g, 0, none⟩ ∧ base ≤ g) := by
  rcases h.2 with ⟨rfl, h0⟩ | ⟨g, cap, cur, rfl, hb, hh, hc, hm, hcs, htk⟩
  · subst h0; exact ⟨none, 0, rfl, ⟨Nat.le_refl _, fun e => by omega⟩, Nat.zero_le _, .inl rfl⟩
  · refine ⟨_, _, rfl, ⟨hc, fun hn => ⟨g, 0, rfl, (Array.getElem?_eq_some_iff.1 hh).1, fun i hi => ?_⟩⟩, hm, .inr ⟨g, rfl, hb⟩⟩
    have e := h.cells (g := g) rfl i (nth l i) (nth_at l i (by rw [h.1]; omega))
    rw [add_mid] at e
    exact e
theorem ownsRow_row {w : World} {base n : Nat} {u : TypeId} {v : Value} {l : List Value} (h : w.ownsRow base u 1 v n l) (hn : 0 < n) :
    ∃ g c cur, v = .slice (some ⟨g, 0, none⟩) n c ∧ base ≤ g ∧ n ≤ c ∧ row w g = some cur ∧ ∀ i, i < n → cur[i]? = some (nth l i) := by
  rcases h.2 with ⟨rfl, h0⟩ | ⟨g, cap, cur, rfl, hb, hh, hc, hm, hcs, htk⟩
  · omega
  · refine ⟨g, cap, cur, rfl, hb, hc, row_of hh, fun i hi => ?_⟩
    have e := nth_at l i (by rw [h.1]; omega)
    rw [← e, ← htk, List.getElem?_take, if_pos (by omega)]
    simp
theorem slG_row {w : World} {g B n c : Nat} {cur : Array Value} {V : Nat → Value} (hr : row w g = some cur) (hB : g < B) (hc : n ≤ c) (h : ∀ i, i < n → cur[i]? = some (V i)) : SlG w B (some ⟨g, 0, none⟩) n c V :=
  ⟨hc, fun _ => ⟨g, 0, rfl, hB, fun i hi => by rw [cell_row hr, Nat.zero_add, h i hi]⟩⟩
theorem ownsRow_below {w w' : World} {B base n : Nat} {u : TypeId} {v : Value} {l : List Value} (h : w.ownsRow base u 1 v n l) (hb : Below B w w') (hB : w.heap.size ≤ B) : w'.ownsRow base u 1 v n l := by
  refine ⟨h.1, ?_⟩
  rcases h.2 with hn | ⟨g, cap, cur, rfl, hbg, hg, rest⟩
  · exact .inl hn
  · exact .inr ⟨g, cap, cur, rfl, hbg, by rw [hb.block g (by have := (Array.getElem?_eq_some_iff.1 hg).1; omega)]; exact hg, rest⟩
theorem ownsRow_after {w w' a : World} {B base n : Nat} {u : TypeId} {v : Value} {l : List Value} (h : w.ownsRow base u 1 v n l) (hg : w.grownBy w' v.ownBlock) (hb : Below B a w) (hB : B ≤ w.heap.size) (hbase : B ≤ base) : Below B a w' :=
  hb.grown hg hB (fun k hk => by have := (World.ownsRow.lt h k hk).1; omega)
/-- one element is laid behind a row of the call's own -/
theorem run_appOne {P : Program} {w : World} {t ty u : TypeId} {z : Value} {bytes : Nat} (ht : P.underlying t = some (.slice u)) (hi : (P.info? u).map (fun i => (i.zero, i.size, i.bytes)) = some (some z, 1, bytes)) (hz : z.cells.size = 1) (hb : bytes ≤ 16)
    {base : Nat} {v : Value} {n : Nat} {l : List Value} (hown : w.ownsRow base u 1 v n l) {x : Value} (h1 : x.oneCell' = true) (hn : n ≤ 100000) (hbase : base ≤ w.heap.size) :
    ∃ v' w', (Builtin.append_ #[t, t] ty #[v, .slice (some ⟨w.heap.size, 0, none⟩) 1 1]).run P (w.alloc (.cells #[x] u)) = .ok v' w' ∧ w'.ownsRow base u 1 v' (n + 1) (l ++ [x]) ∧ (w.alloc (.cells #[x] u)).grownBy w' v.ownBlock := by
  cases hq : P.info? u with
  | none => rw [hq] at hi; cases hi
  | some i =>
    rw [hq] at hi
    have h0 : (i.zero, i.size, i.bytes) = (some z, 1, bytes) := Option.some.inj hi
    simp only [Prod.mk.injEq] at h0
    obtain ⟨z0, z1, z2⟩ := h0
    obtain ⟨v', w', a1, a2, a3, _, _⟩ := run_append_own_at (P := P) (w.alloc (.cells #[x] u)) base t ty u i z 1 bytes ht hq z0 z1 z2 hz (by decide) v n l (hown.alloc _) ⟨w.heap.size, 0, none⟩ 1 1 [x] rfl
      (fun j y hy => by
        rcases j with _ | j
        · obtain rfl : x = y := by simpa using hy
          rw [add_mid, cell_row (row_alloc_at w #[x] u _ rfl)]
          rfl
        · simp at hy)
      (fun y hy => by obtain rfl : y = x := by simpa using hy
                      exact h1) (by unfold maxLen; omega) (by have := Nat.mul_le_mul (show n + 1 ≤ 100001 by omega) hb; omega) (by simp; omega)
    exact ⟨v', w', a1, a2, a3⟩
theorem wpl_appOne {P : Program} {w : World} {ops : Array Oper} {rest : List Oper} {o : Oper} {a : Act} {Q : Exit → Act → World → Prop} (hgd : o.guard = none) (s y : Operand) {t u : TypeId} {z : Value} {bytes : Nat} (ho : o.op = .call { callee := .builtin .append, args := #[s, y], argTypes := #[t, t] })
    (ht : P.underlying t = some (.slice u)) (hi : (P.info? u).map (fun i => (i.zero, i.size, i.bytes)) = some (some z, 1, bytes)) (hz : z.cells.size = 1) (hb : bytes ≤ 16)
    {base : Nat} {v : Value} {n : Nat} {l : List Value} (hown : w.ownsRow base u 1 v n l) {x : Value} (h1 : x.oneCell' = true) (hn : n ≤ 100000) (hbase : base ≤ w.heap.size)
    (hv : a.eval s = v) (hy : a.eval y = .slice (some ⟨w.heap.size, 0, none⟩) 1 1)
    (h : ∀ v' w', w'.ownsRow base u 1 v' (n + 1) (l ++ [x]) → (w.alloc (.cells #[x] u)).grownBy w' v.ownBlock → wpList P ops Q rest (a.put o.dst v') w') : wpList P ops Q (o :: rest) a (w.alloc (.cells #[x] u)) := by
  refine wpList_plain hgd fun K hK => ?_
  obtain ⟨v', w', hr, g1, g2⟩ := run_appOne (ty := o.type) ht hi hz hb hown h1 hn hbase
  unfold Oper.wp execOp
  simp only [ho, resolve, invoke, builtin, Sem.run_bind, Sem.run_pure, Result.andThen_ok, List.map_toArray, List.map_cons, List.map_nil, hv, hy, hr]
  exact hK _ _ (h v' w' g1 g2)
end Go.Proofs.YtjebkokkgkkogaaDoor.Oct
