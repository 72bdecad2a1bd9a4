/- Elements laid behind an empty literal: a new row. -/
import Derived.Test.YtdfcldomjjcidaaDoorJrZb
namespace Go.Proofs.YtdfcldomjjcidaaDoor.Oct
open Go.ChangeShapes Go.WideShapes Go.ChangeAt Go.RowKit
set_option linter.unusedVariables false

/-- the block that an append may write to -/
def blk (A : Option Addr) (c : Nat) : List Nat := if 0 < c then A.toList.map (·.block) else []
section
variable {α : Type} {k : Nat} {E : Mk → World → α → List Value → Prop} (hE : ElOk k E) {T T' T2 : Mk} {H : Nat → Prop} {w w' : World} {t : Nat} {A : Option Addr} {c : Nat} {l : List α}
include hE
/-- elements out of another row, laid behind an empty literal: a new row, or none -/
theorem run_appNil {P : Program} {ty u : TypeId} {tt : TypeId} {z : Value} {bytes : Nat} (ht : P.underlying tt = some (.slice u)) (hi : (P.info? u).map (fun i => (i.zero, i.size, i.bytes)) = some (some z, k, bytes)) (hz : z.cells.size = k) (hk : 0 < k) (hb : bytes ≤ 1000)
    (h : ElAt k E T w t A c l) (hl : l.length ≤ 1000000000) (p t' : Nat) :
    ∃ A' c' w', (Builtin.append_ #[tt, tt] ty #[.slice (some ⟨p, 0, none⟩) 0 0, .slice A l.length c]).run P w = .ok (.slice A' l.length c') w' ∧ ElAt k E (paint T w.heap.size t') w' t' A' c' l ∧ Below w.heap.size w w' ∧ ∀ k ∈ blk A' c', w.heap.size ≤ k ∧ k < w'.heap.size := by
  cases hq : P.info? u with
  | none => rw [hq] at hi; cases hi
  | some i =>
    have hi0 := hi
    rw [hq] at hi
    have e0 : (i.zero, i.size, i.bytes) = (some z, k, bytes) := Option.some.inj hi
    simp only [Prod.mk.injEq] at e0
    obtain ⟨z0, z1, z2⟩ := e0
    by_cases hm0 : 0 < l.length
    · obtain ⟨vs, hvl, hx, hone, hSS⟩ := ElAt.src hE (P := P) ht (by rw [hq]; exact congrArg some z1) h hm0
      have hS := hSS i hq
      have hrun := run_append_grow_src (P := P) w tt tt ty u i z ht hq z0 (some ⟨p, 0, none⟩) 0 0 [] (run_firstCells_some w.drew i.size 0 ⟨p, 0, none⟩ 0 0 [] (by simp) (fun j y hy => by simp at hy)) (.slice A l.length c) l.length vs hS (by omega) (by omega) (growslice_fits (by omega) (by rw [z2]; have := Nat.mul_le_mul (show 0 + l.length ≤ 1000000001 by omega) hb; omega))
      have hge := grownCap_ge w (0 + l.length) 0 u
      have hgm := grownCap_le_maxLen w (0 + l.length) 0 u (by unfold maxLen; omega)
      obtain ⟨cap, hcap⟩ : ∃ cap, cap = grownCap w (0 + l.length) 0 u := ⟨_, rfl⟩
      rw [← hcap] at hrun hge hgm
      rw [Nat.zero_add] at hrun hge
      have hb2 : Below w.heap.size w (w.drew.alloc (.cells (([] ++ vs).toArray ++ Builtin.zeroCells z.cells (cap - l.length)) u)) := (Below.refl w.heap.size w).drew.alloc (Nat.le_refl _) _
      have hF2 : Fr T (paint T w.heap.size t') (fun _ => False) w (w.drew.alloc (.cells (([] ++ vs).toArray ++ Builtin.zeroCells z.cells (cap - l.length)) u)) := Fr.new hb2 t'
      refine ⟨_, _, _, hrun, ⟨hge, hgm, fun _ => ⟨w.heap.size, 0, _, rfl, row_alloc_at w.drew _ _ _ rfl, ?_, paint_new (Nat.le_refl _), fun i hi => ?_⟩⟩, hb2, fun k hk => by
          unfold blk at hk
          rw [if_pos (by omega)] at hk
          have hk' : k = w.heap.size := by simpa using hk
          subst hk'
          exact ⟨Nat.le_refl _, by simp⟩⟩
      · rw [Array.size_append, size_zeroCells, hz, List.size_toArray, List.nil_append, hvl]
        have : cap * k = l.length * k + (cap - l.length) * k := by rw [← Nat.add_mul]; congr 1; omega
        omega
      · obtain ⟨ws, h4, h5⟩ := hx i hi
        have hm2 : (i + 1) * k ≤ l.length * k := Nat.mul_le_mul_right k hi
        rw [Nat.add_mul, Nat.one_mul] at hm2
        refine ⟨ws, hE.fr h4 hF2 (fun e => e), fun j hj => ?_⟩
        rw [Nat.zero_add, List.nil_append, Array.getElem?_append_left (by rw [List.size_toArray]; omega), List.getElem?_toArray]
        exact h5 j hj
    · have hl0 : l = [] := List.eq_nil_of_length_eq_zero (by omega)
      subst hl0
      have hS : Src P i.size tt (.slice A 0 c) 0 [] w := by
        cases A with
        | none => exact ⟨.inl ⟨u, ht⟩, fun w' => rfl, run_firstCells_none w i.size 0 0 c, run_firstCells_none w.drew i.size 0 0 c, by simp, fun _ h => by cases h⟩
        | some a => exact Src.ofSlice w ht a 0 c [] (by simp) (fun j y hy => by simp at hy) (fun _ h => by cases h)
      have hrun := run_append_room_src (P := P) w tt tt ty u i ht hq p 0 0 0 (.slice A 0 c) 0 [] hS (by omega) (fun j hj => absurd hj (by simp)) (fun j hj => absurd hj (by simp))
      exact ⟨_, _, _, hrun, ElAt.empty _ _ _ _, Below.refl _ _, fun k hk => by unfold blk at hk; rw [if_neg (by omega)] at hk; cases hk⟩
end
theorem wpl_appNil {α : Type} {k : Nat} {E : Mk → World → α → List Value → Prop} (hE : ElOk k E) {T : Mk} {w : World} {tg c : Nat} {A : Option Addr} {l : List α} {P : Program} {ops : Array Oper} {rest : List Oper} {o : Oper} {a : Act} {Q : Exit → Act → World → Prop} (hgd : o.guard = none) (s y : Operand) {t u : TypeId} {z : Value} {bytes : Nat}
    (ho : o.op = .call { callee := .builtin .append, args := #[s, y], argTypes := #[t, t] }) (ht : P.underlying t = some (.slice u)) (hi : (P.info? u).map (fun i => (i.zero, i.size, i.bytes)) = some (some z, k, bytes)) (hz : z.cells.size = k) (hk : 0 < k) (hb : bytes ≤ 1000)
    (hA : ElAt k E T w tg A c l) (hl : l.length ≤ 1000000000) (p t' : Nat)
    (hv : a.eval s = .slice (some ⟨p, 0, none⟩) 0 0) (hy : a.eval y = .slice A l.length c)
    (h : ∀ A' c' w', ElAt k E (paint T w.heap.size t') w' t' A' c' l → Below w.heap.size w w' → (∀ k ∈ blk A' c', w.heap.size ≤ k ∧ k < w'.heap.size) → wpList P ops Q rest (a.put o.dst (.slice A' l.length c')) w') : wpList P ops Q (o :: rest) a w := by
  refine wpList_plain hgd fun K hK => ?_
  obtain ⟨A', c', w', a1, a2, a3, a4⟩ := run_appNil hE (ty := o.type) ht hi hz hk hb hA hl p t'
  unfold Oper.wp execOp
  simp only [ho, resolve, invoke, builtin, Sem.run_bind, Sem.run_pure, Result.andThen_ok, List.map_toArray, List.map_cons, List.map_nil, hv, hy, a1]
  exact hK _ _ (h A' c' w' a2 a3 a4)
end Go.Proofs.YtdfcldomjjcidaaDoor.Oct
