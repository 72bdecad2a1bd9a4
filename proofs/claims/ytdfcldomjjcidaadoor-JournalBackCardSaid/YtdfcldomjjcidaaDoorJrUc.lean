/- One laid behind a row of structs; those that were there are there. -/
import Derived.Test.YtdfcldomjjcidaaDoorJrUb
namespace Go.Proofs.YtdfcldomjjcidaaDoor.Oct
open Go.ChangeShapes Go.WideShapes Go.ChangeAt Go.RowKit
set_option linter.unusedVariables false

section
variable {α : Type} {k : Nat} {E : Mk → World → α → List Value → Prop} (hE : ElOk k E) {T T' T2 : Mk} {H : Nat → Prop} {w w' : World} {t : Nat} {A : Option Addr} {l : List α}
include hE
/-- one is laid behind a full slice: a new row -/
theorem run_appFull {P : Program} {ty u : TypeId} {tt : TypeId} {z : Value} {bytes : Nat} (ht : P.underlying tt = some (.slice u)) (hi : (P.info? u).map (fun i => (i.zero, i.size, i.bytes)) = some (some z, k, bytes)) (hz : z.cells.size = k) (hk : 0 < k) (hb : bytes ≤ 1000)
    (h : ElAt k E T w t A l.length l) {p : Nat} {x : α} {vs : List Value} (hp : row w p = some vs.toArray) (hx : E T w x vs) (hl : l.length ≤ 1000000000) (h0 : 0 ≠ t) :
    ∃ A' c' w', (Builtin.append_ #[tt, tt] ty #[.slice A l.length l.length, .slice (some ⟨p, 0, none⟩) 1 1]).run P w = .ok (.slice A' (l.length + 1) c') w' ∧ ElAt k E (paint T w.heap.size t) w' t A' c' (l ++ [x]) ∧ Below w.heap.size w w' := by
  cases hq : P.info? u with
  | none => rw [hq] at hi; cases hi
  | some i =>
    rw [hq] at hi
    have e0 : (i.zero, i.size, i.bytes) = (some z, k, bytes) := Option.some.inj hi
    simp only [Prod.mk.injEq] at e0
    obtain ⟨z0, z1, z2⟩ := e0
    have hvl := hE.len hx
    have hS : Src P i.size tt (.slice (some ⟨p, 0, none⟩) 1 1) 1 vs w := Src.ofSlice w ht ⟨p, 0, none⟩ 1 1 vs (by rw [hvl, z1]; omega) (fun j y hy => by rw [add_mid, Nat.zero_add, cell_row hp, List.getElem?_toArray]; exact hy) (hE.one hx)
    have hroom : ¬ l.length + 1 ≤ l.length := by omega
    have hlc : l.length = l.length := rfl
    -- what was there
    obtain ⟨olds, ho1, ho2, ho3⟩ : ∃ olds : List Value, olds.length = l.length * k ∧ (Builtin.firstCells i.size l.length (.slice A l.length l.length)).run P w.drew = .ok olds.toArray w.drew ∧ ∀ i (h : i < l.length), ∃ vs, E T w l[i] vs ∧ ∀ j, j < k → olds[i * k + j]? = vs[j]? := by
      by_cases hc0 : 0 < l.length
      · obtain ⟨g, o, cur, rfl, hr, hsz, hT, hel⟩ := h.at_ hc0
        have hlen : ((cur.toList.drop o).take (l.length * k)).length = l.length * k := by
          have hq : cur.toList.length = cur.size := Array.length_toList ..
          have hsz' : o + l.length * k ≤ cur.size := hsz
          rw [List.length_take, List.length_drop]
          omega
        refine ⟨(cur.toList.drop o).take (l.length * k), hlen, ?_, fun i hi => ?_⟩
        · refine run_firstCells_some (P := P) w.drew i.size l.length ⟨g, o, none⟩ l.length l.length _ (by rw [hlen, z1]) (fun j y hy => ?_)
          rw [List.getElem?_take] at hy
          split at hy
          · rw [add_mid]
            show w.cell? ⟨g, o + j, none⟩ = _
            rw [cell_row hr, ← hy, List.getElem?_drop, Array.getElem?_toList]
          · cases hy
        · obtain ⟨ws, h4, h5⟩ := hel i hi
          refine ⟨ws, h4, fun j hj => ?_⟩
          have hm2 : (i + 1) * k ≤ l.length * k := Nat.mul_le_mul_right k hi
          rw [Nat.add_mul, Nat.one_mul] at hm2
          rw [List.getElem?_take, if_pos (by omega), List.getElem?_drop, Array.getElem?_toList, ← h5 j hj]
          congr 1
          omega
      · have hl0 : l.length = 0 := by omega
        refine ⟨[], by simp [hl0], ?_, fun i hi => by omega⟩
        rw [hl0]
        cases A with
        | none => exact run_firstCells_none w.drew i.size 0 0 0
        | some a => exact run_firstCells_some w.drew i.size 0 a 0 0 [] (by simp) (fun j y hy => by simp at hy)
    have hcm := h.big
    have hrun := run_append_grow_src (P := P) w tt tt ty u i z ht hq z0 A l.length l.length olds ho2 (.slice (some ⟨p, 0, none⟩) 1 1) 1 vs hS (by omega) (by omega) (growslice_fits (by omega) (by rw [z2]; have := Nat.mul_le_mul (show l.length + 1 ≤ 1000000001 by omega) hb; omega))
    have hge := grownCap_ge w (l.length + 1) l.length u
    have hgm := grownCap_le_maxLen w (l.length + 1) l.length u (by unfold maxLen; omega)
    obtain ⟨cap, hcap⟩ : ∃ cap, cap = grownCap w (l.length + 1) l.length u := ⟨_, rfl⟩
    rw [← hcap] at hrun hge hgm
    have hb2 : Below w.heap.size w (w.drew.alloc (.cells ((olds ++ vs).toArray ++ Builtin.zeroCells z.cells (cap - (l.length + 1))) u)) := (Below.refl w.heap.size w).drew.alloc (Nat.le_refl _) _
    have hF0 : Fr T (paint T w.heap.size t) (fun _ => False) w (w.drew.alloc (.cells ((olds ++ vs).toArray ++ Builtin.zeroCells z.cells (cap - (l.length + 1))) u)) := Fr.new hb2 t
    have hF2 : Fr T (paint T w.heap.size t) (fun c => c = t) w (w.drew.alloc (.cells ((olds ++ vs).toArray ++ Builtin.zeroCells z.cells (cap - (l.length + 1))) u)) := Fr.new hb2 t
    refine ⟨_, _, _, hrun, ⟨by rw [List.length_append]; exact hge, hgm, fun _ => ⟨w.heap.size, 0, _, rfl, row_alloc_at w.drew _ _ _ rfl, ?_, paint_new (Nat.le_refl _), fun i hi => ?_⟩⟩, hb2⟩
    · rw [Array.size_append, size_zeroCells, hz, List.size_toArray, List.length_append, ho1, hvl]
      have : cap * k = (l.length + 1) * k + (cap - (l.length + 1)) * k := by rw [← Nat.add_mul]; congr 1; omega
      rw [Nat.add_mul, Nat.one_mul] at this
      omega
    · by_cases hlt : i < l.length
      · obtain ⟨ws, h4, h5⟩ := ho3 i hlt
        refine ⟨ws, by rw [List.getElem_append_left hlt]; exact hE.fr h4 hF2 (fun e => h0 e), fun j hj => ?_⟩
        have hm2 : (i + 1) * k ≤ l.length * k := Nat.mul_le_mul_right k hlt
        rw [Nat.add_mul, Nat.one_mul] at hm2
        rw [Nat.zero_add, Array.getElem?_append_left (by rw [List.size_toArray, List.length_append]; omega), List.getElem?_toArray, List.getElem?_append_left (by omega)]
        exact h5 j hj
      · have hi' : i = l.length := by simp at hi; omega
        subst hi'
        refine ⟨vs, by rw [List.getElem_append_right (Nat.le_refl _)]; simpa using hE.fr hx hF2 (fun e => h0 e), fun j hj => ?_⟩
        rw [Nat.zero_add, Array.getElem?_append_left (by rw [List.size_toArray, List.length_append]; omega), List.getElem?_toArray, List.getElem?_append_right (by omega), ho1, Nat.add_sub_cancel_left]
end
theorem wpl_appFull {α : Type} {k : Nat} {E : Mk → World → α → List Value → Prop} (hE : ElOk k E) {T : Mk} {w : World} {tg : Nat} {A : Option Addr} {l : List α} {P : Program} {ops : Array Oper} {rest : List Oper} {o : Oper} {a : Act} {Q : Exit → Act → World → Prop} (hgd : o.guard = none) (s y : Operand) {t u : TypeId} {z : Value} {bytes : Nat}
    (ho : o.op = .call { callee := .builtin .append, args := #[s, y], argTypes := #[t, t] }) (ht : P.underlying t = some (.slice u)) (hi : (P.info? u).map (fun i => (i.zero, i.size, i.bytes)) = some (some z, k, bytes)) (hz : z.cells.size = k) (hk : 0 < k) (hb : bytes ≤ 1000)
    (hA : ElAt k E T w tg A l.length l) {p : Nat} {x : α} {vs : List Value} (hp : row w p = some vs.toArray) (hx : E T w x vs) (hl : l.length ≤ 1000000000) (h0 : 0 ≠ tg)
    (hv : a.eval s = .slice A l.length l.length) (hy : a.eval y = .slice (some ⟨p, 0, none⟩) 1 1)
    (h : ∀ A' c' w', ElAt k E (paint T w.heap.size tg) w' tg A' c' (l ++ [x]) → Below w.heap.size w w' → wpList P ops Q rest (a.put o.dst (.slice A' (l.length + 1) c')) w') : wpList P ops Q (o :: rest) a w := by
  refine wpList_plain hgd fun K hK => ?_
  obtain ⟨A', c', w', a1, a2, a3⟩ := run_appFull hE (ty := o.type) ht hi hz hk hb hA hp hx hl h0
  unfold Oper.wp execOp
  simp only [ho, resolve, invoke, builtin, Sem.run_bind, Sem.run_pure, Result.andThen_ok, List.map_toArray, List.map_cons, List.map_nil, hv, hy, a1]
  exact hK _ _ (h A' c' w' a2 a3)
theorem ElAt.full {α : Type} {k : Nat} {E : Mk → World → α → List Value → Prop} {T : Mk} {w : World} {t : Nat} {A : Option Addr} {c : Nat} {l : List α} (h : ElAt k E T w t A c l) : ElAt k E T w t A l.length l :=
  ⟨Nat.le_refl _, Nat.le_trans h.le h.big, fun hc => by
    obtain ⟨g, o, cur, e, hr, hs, hT, hel⟩ := h.at_ (by have := h.le; omega)
    exact ⟨g, o, cur, e, hr, by have := Nat.mul_le_mul_right k h.le; omega, hT, hel⟩⟩
theorem run_hmJ {P : Program} {t u : TypeId} {m : Nat} (ht : P.underlying t = some (.slice u)) (hz : (P.info? u).map (·.size) = some m) (A : Option Addr) (n c k : Nat) (hk : k ≤ c) (w : World) : (Instr.slice t (.slice A n c) none (some (.int .i64 (k : Int))) (some (.int .i64 (k : Int)))).run P w = .ok (.slice A k k) w := by
  have he : P.elem t = u := by simp [Program.elem, ht]
  have hs : (sizeOf u).run P w = .ok m w := by
    cases hq : P.info? u with
    | none => rw [hq] at hz; cases hz
    | some i =>
      rw [hq] at hz
      have h : i.size = m := Option.some.inj hz
      simp [sizeOf, typeInfo, hq, h]
  rw [run_slice_hm w t A n c (by rw [he]; exact ht) .i64 .i64 k k (by omega) (by omega) (by omega), he, hs, Result.andThen_ok]
  by_cases h0 : k = 0
  · subst h0; simp [sliced]
  · simp [sliced, Int.toNat_natCast, h0]
    cases A with
    | none => rfl
    | some a => simp [Addr.add]
theorem rws_take (x : Nat → Int) {j k : Nat} (h : k ≤ j) : (rws x j).take k = rws x k := by unfold rws; rw [← List.map_take, List.take_range, Nat.min_eq_left h]
/-- the class of the worlds in which old blocks stand -/
def CbJ (w : World) : World → Prop := fun y => Below w.heap.size w y
theorem CbJ.alloc {w : World} (y : World) (z : Obj) (h : CbJ w y) : CbJ w (y.alloc z) := Below.alloc h (Below.size h) z
end Go.Proofs.YtdfcldomjjcidaaDoor.Oct
