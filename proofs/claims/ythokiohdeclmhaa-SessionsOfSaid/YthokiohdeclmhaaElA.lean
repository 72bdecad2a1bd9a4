/- Elements at an offset of a row of mark t: appended to, cut at either end, laid behind another row's. Of whatever program. (It was JrP, and the head of JrZb, JrZd.) -/
import Derived.Test.YthokiohdeclmhaaDkB0
import Derived.Test.YthokiohdeclmhaaFlowE
import Derived.Test.YthokiohdeclmhaaFld
import Derived.Deep.AppendSrc
namespace Go.Proofs.Ythokiohdeclmhaa.Oct
open Go.ChangeShapes Go.WideShapes Go.ChangeAt Go.RowKit
set_option linter.unusedVariables false

/-- moves first, then the segments of flow_seen -/
theorem flow_frees {P : Program} {Q : Exit → Act → World → Prop} {id : Nat} {a : Act} {w : World} {l : List Oper} (fr : List Nat) (s : List Seg) (last : List Nat) (hm : P.follows .mixedOrders = true) (hB : freeB l fr s last = true)
    (hQ : ∀ c a d v w, Q (.panic c) (a.put (some d) v) w → Q (.panic c) a w) (h : wpQuiet P l.toArray (fun w' => ∃ x : In (fun _ => True), w' = x.val) (fun a' => ∀ x : After w, wpFs P l Q last s a' x.val) (pk l fr) a) : (Code.region id l.toArray true).wp P Q a w :=
  flow_free fr s last (Aft (w.drewN 1)) hm hB hQ (Aft.self _) (wpQuiet_mono (fun a' h' => wpFs.fl s a' _ (h' ⟨w.drewN 1, below_drewN (Below.refl _ _) 1⟩)) _ _ h)
theorem setCells_row {b : Nat} : ∀ (vs : List Value) (o : Nat) (cur : Array Value) (w : World), row w b = some cur → w.setCells b o vs = w.setRow b (spl cur o vs)
  | [], o, cur, w, h => by simp only [World.setCells, spl]; rw [setRow_self h]
  | v :: r, o, cur, w, h => by
    simp only [World.setCells, spl]
    rw [setCell_row h, setCells_row r (o + 1) _ _ (row_setRow h _), setRow_setRow]
theorem run_fromJ {P : Program} {t u : TypeId} {m : Nat} (ht : P.underlying t = some (.slice u)) (hz : (P.info? u).map (·.size) = some m) (A : Option Addr) (n c k : Nat) (hk : k ≤ n) (w : World) :
    (Instr.slice t (.slice A n c) (some (.int .i64 (k : Int))) none none).run P w = .ok (.slice (if c = k then A else A.map (·.add (k * m))) (n - k) (c - k)) w := by
  have he : P.elem t = u := by simp [Program.elem, ht]
  have hs : (sizeOf u).run P w = .ok m w := by
    cases hq : P.info? u with
    | none => rw [hq] at hz; cases hz
    | some i =>
      rw [hq] at hz
      have h : i.size = m := Option.some.inj hz
      simp [sizeOf, typeInfo, hq, h]
  rw [run_slice_l w t A n c (by rw [he]; exact ht) .i64 k (by omega) (by omega), he, hs, Result.andThen_ok]
  simp [sliced, Int.toNat_natCast]
theorem run_uptoJ {P : Program} {t u : TypeId} {m : Nat} (ht : P.underlying t = some (.slice u)) (hz : (P.info? u).map (·.size) = some m) (A : Option Addr) (n c k : Nat) (hk : k ≤ c) (w : World) : (Instr.slice t (.slice A n c) none (some (.int .i64 (k : Int))) none).run P w = .ok (.slice A k c) w := by
  have he : P.elem t = u := by simp [Program.elem, ht]
  have hs : (sizeOf u).run P w = .ok m w := by
    cases hq : P.info? u with
    | none => rw [hq] at hz; cases hz
    | some i =>
      rw [hq] at hz
      have h : i.size = m := Option.some.inj hz
      simp [sizeOf, typeInfo, hq, h]
  rw [run_slice_h w t A n c (by rw [he]; exact ht) .i64 k (by omega) (by omega), he, hs, Result.andThen_ok]
  by_cases h0 : c = 0
  · subst h0; simp [sliced]
  · simp [sliced, Int.toNat_natCast, h0]
    cases A with
    | none => rfl
    | some a => simp [Addr.add]
theorem spl_size : ∀ (vs : List Value) (o : Nat) (c : Array Value), (spl c o vs).size = c.size
  | [], _, _ => rfl
  | v :: r, o, c => by simp only [spl]; rw [spl_size r]; simp
/-- elements of k cells in a block of mark t, from offset o on -/
structure ElAt {α : Type} (k : Nat) (E : Mk → World → α → List Value → Prop) (T : Mk) (w : World) (t : Nat) (A : Option Addr) (c : Nat) (l : List α) : Prop where
  le : l.length ≤ c
  big : c ≤ maxLen
  at_ : 0 < c → ∃ g o cur, A = some ⟨g, o, none⟩ ∧ row w g = some cur ∧ o + c * k ≤ cur.size ∧ T g = t ∧ ∀ i (h : i < l.length), ∃ vs, E T w l[i] vs ∧ ∀ j, j < k → cur[o + i * k + j]? = vs[j]?
section
variable {α : Type} {k : Nat} {E : Mk → World → α → List Value → Prop} (hE : ElOk k E) {T T' T2 : Mk} {H : Nat → Prop} {w w' : World} {t : Nat} {A : Option Addr} {c : Nat} {l : List α}
theorem ElAt.nil (T : Mk) (w : World) (t : Nat) : ElAt k E T w t none 0 ([] : List α) := ⟨Nat.le_refl _, Nat.zero_le _, fun h => absurd h (by omega)⟩
include hE
theorem ElAt.fr (h : ElAt k E T w t A c l) (hf : Fr T T' H w w') (ht : ¬ H t) (h0 : ¬ H 0) : ElAt k E T' w' t A c l :=
  ⟨h.le, h.big, fun hc => by
    obtain ⟨g, o, cur, e, hr, hs, hT, hel⟩ := h.at_ hc
    refine ⟨g, o, cur, e, hf.rowAt hr (by rw [hT]; exact ht), hs, by rw [hf.tag g (row_lt hr)]; exact hT, fun i hi => ?_⟩
    obtain ⟨vs, h1, h2⟩ := hel i hi
    exact ⟨vs, hE.fr h1 hf h0, h2⟩⟩
omit hE in
/-- the first m of them -/
theorem ElAt.upto (h : ElAt k E T w t A c l) (m : Nat) (hm : m ≤ l.length) : (l.take m).length = m ∧ ElAt k E T w t A c (l.take m) := by
  have hl : (l.take m).length = m := by rw [List.length_take]; omega
  refine ⟨hl, by rw [hl]; have := h.le; omega, h.big, fun hc => ?_⟩
  obtain ⟨g, o, cur, e, hr, hs, hT, hel⟩ := h.at_ hc
  refine ⟨g, o, cur, e, hr, hs, hT, fun i hi => ?_⟩
  rw [hl] at hi
  obtain ⟨vs, h1, h2⟩ := hel i (by omega)
  exact ⟨vs, by rw [List.getElem_take]; exact h1, h2⟩
omit hE in
/-- those from number m on -/
theorem ElAt.from_ (h : ElAt k E T w t A c l) (m : Nat) (hm : m ≤ l.length) : (l.drop m).length = l.length - m ∧ ElAt k E T w t (if c = m then A else A.map (·.add (m * k))) (c - m) (l.drop m) := by
  have hl : (l.drop m).length = l.length - m := List.length_drop ..
  have hle := h.le
  refine ⟨hl, by rw [hl]; omega, by have := h.big; omega, fun hc => ?_⟩
  obtain ⟨g, o, cur, e, hr, hs, hT, hel⟩ := h.at_ (by omega)
  refine ⟨g, o + m * k, cur, ?_, hr, ?_, hT, fun i hi => ?_⟩
  · rw [if_neg (by omega), e]
    simp only [Option.map_some]
    rw [add_mid]
  · have : c * k = m * k + (c - m) * k := by rw [← Nat.add_mul]; congr 1; omega
    omega
  · rw [hl] at hi
    obtain ⟨vs, h1, h2⟩ := hel (m + i) (by omega)
    refine ⟨vs, by rw [List.getElem_drop]; exact h1, fun j hj => ?_⟩
    rw [← h2 j hj]
    congr 1
    rw [Nat.add_mul]
    omega
omit hE in
theorem Fr.painted {T : Mk} {t : Nat} (h : Fr T T H w w') (n : Nat) (hn : w.heap.size ≤ n) : Fr T (Oct.paint T n t) H w w' := ⟨h.os, h.tape, h.output, h.size, h.keep, fun k hk => paint_old (by omega)⟩
/-- one is laid behind them -/
theorem run_appAt {P : Program} {ty u : TypeId} {tt : TypeId} {z : Value} {bytes : Nat} (ht : P.underlying tt = some (.slice u)) (hi : (P.info? u).map (fun i => (i.zero, i.size, i.bytes)) = some (some z, k, bytes)) (hz : z.cells.size = k) (hk : 0 < k) (hb : bytes ≤ 1000)
    (h : ElAt k E T w t A c l) {p : Nat} {x : α} {vs : List Value} (hp : row w p = some vs.toArray) (hx : E T w x vs) (hl : l.length ≤ 1000000000) (h0 : 0 ≠ t) :
    ∃ A' c' w', (Builtin.append_ #[tt, tt] ty #[.slice A l.length c, .slice (some ⟨p, 0, none⟩) 1 1]).run P w = .ok (.slice A' (l.length + 1) c') w' ∧ ElAt k E (paint T w.heap.size t) w' t A' c' (l ++ [x]) ∧ Fr T (paint T w.heap.size t) (fun c => c = t) w w' := by
  cases hq : P.info? u with
  | none => rw [hq] at hi; cases hi
  | some i =>
    rw [hq] at hi
    have e0 : (i.zero, i.size, i.bytes) = (some z, k, bytes) := Option.some.inj hi
    simp only [Prod.mk.injEq] at e0
    obtain ⟨z0, z1, z2⟩ := e0
    have hvl := hE.len hx
    have hS : Src P i.size tt (.slice (some ⟨p, 0, none⟩) 1 1) 1 vs w := Src.ofSlice w ht ⟨p, 0, none⟩ 1 1 vs (by rw [hvl, z1]; omega) (fun j y hy => by rw [add_mid, Nat.zero_add, cell_row hp, List.getElem?_toArray]; exact hy) (hE.one hx)
    by_cases hroom : l.length + 1 ≤ c
    · obtain ⟨g, o, cur, rfl, hr, hsz, hT, hel⟩ := h.at_ (by omega)
      have hm : (l.length + 1) * k ≤ c * k := Nat.mul_le_mul_right k hroom
      rw [Nat.add_mul, Nat.one_mul] at hm
      have hrun := run_append_room_src (P := P) w tt tt ty u i ht hq g o l.length c (.slice (some ⟨p, 0, none⟩) 1 1) 1 vs hS hroom
        (fun j hj => by rw [cell_row hr, z1]; simp only [Option.isSome_iff_exists]; exact ⟨_, Array.getElem?_eq_getElem (by omega)⟩) (fun j hj => froz_row hr _)
      rw [z1, setCells_row vs _ cur w hr] at hrun
      have hF : Fr T T (fun c => c = t) w (w.setRow g (spl cur (o + l.length * k) vs)) := Fr.row hT _
      have hF2 := hF.painted (t := t) w.heap.size (Nat.le_refl _)
      refine ⟨_, _, _, hrun, ⟨by rw [List.length_append]; exact hroom, h.big, fun _ => ⟨g, o, _, rfl, row_setRow hr _, by rw [spl_size]; exact hsz, by rw [paint_old (row_lt hr)]; exact hT, fun i hi => ?_⟩⟩, hF2⟩
      by_cases hlt : i < l.length
      · obtain ⟨ws, h4, h5⟩ := hel i hlt
        refine ⟨ws, by rw [List.getElem_append_left hlt]; exact hE.fr h4 hF2 (fun e => h0 e), fun j hj => ?_⟩
        have hm2 : (i + 1) * k ≤ l.length * k := Nat.mul_le_mul_right k hlt
        rw [Nat.add_mul, Nat.one_mul] at hm2
        rw [spl_get _ _ _ _ (by omega), if_neg (by omega)]
        exact h5 j hj
      · have hi' : i = l.length := by simp at hi; omega
        subst hi'
        refine ⟨vs, by rw [List.getElem_append_right (Nat.le_refl _)]; simpa using hE.fr hx hF2 (fun e => h0 e), fun j hj => ?_⟩
        rw [spl_get _ _ _ _ (by omega), if_pos ⟨by omega, by omega⟩, show o + l.length * k + j - (o + l.length * k) = j by omega]
    · have hlc : c = l.length := by have := h.le; omega
      -- what was there
      obtain ⟨olds, ho1, ho2, ho3⟩ : ∃ olds : List Value, olds.length = l.length * k ∧ (Builtin.firstCells i.size l.length (.slice A l.length c)).run P w.drew = .ok olds.toArray w.drew ∧ ∀ i (h : i < l.length), ∃ vs, E T w l[i] vs ∧ ∀ j, j < k → olds[i * k + j]? = vs[j]? := by
        by_cases hc0 : 0 < c
        · obtain ⟨g, o, cur, rfl, hr, hsz, hT, hel⟩ := h.at_ hc0
          have hlen : ((cur.toList.drop o).take (l.length * k)).length = l.length * k := by
            have hq : cur.toList.length = cur.size := Array.length_toList ..
            have hsz' : o + l.length * k ≤ cur.size := by rw [← hlc]; exact hsz
            rw [List.length_take, List.length_drop]
            omega
          refine ⟨(cur.toList.drop o).take (l.length * k), hlen, ?_, fun i hi => ?_⟩
          · refine run_firstCells_some (P := P) w.drew i.size l.length ⟨g, o, none⟩ l.length c _ (by rw [hlen, z1]) (fun j y hy => ?_)
            rw [List.getElem?_take] at hy
            split at hy
            · rw [add_mid]
              show w.cell? ⟨g, o + j, none⟩ = _
              rw [cell_row hr, ← hy, List.getElem?_drop, Array.getElem?_toList]
            · cases hy
          · obtain ⟨ws, h4, h5⟩ := hel i hi
            refine ⟨ws, h4, fun j hj => ?_⟩
            have hm2 : (i + 1) * k ≤ l.length * k := Nat.mul_le_mul_right k hi
            rw [Nat.add_mul, Nat.one_mul] at hm2
            rw [List.getElem?_take, if_pos (by omega), List.getElem?_drop, Array.getElem?_toList, ← h5 j hj]
            congr 1
            omega
        · have hl0 : l.length = 0 := by omega
          refine ⟨[], by simp [hl0], ?_, fun i hi => by omega⟩
          rw [hl0]
          cases A with
          | none => exact run_firstCells_none w.drew i.size 0 0 c
          | some a => exact run_firstCells_some w.drew i.size 0 a 0 c [] (by simp) (fun j y hy => by simp at hy)
      have hcm := h.big
      have hrun := run_append_grow_src (P := P) w tt tt ty u i z ht hq z0 A l.length c olds ho2 (.slice (some ⟨p, 0, none⟩) 1 1) 1 vs hS (by omega) (by omega) (growslice_fits (by omega) (by rw [z2]; have := Nat.mul_le_mul (show l.length + 1 ≤ 1000000001 by omega) hb; omega))
      have hge := grownCap_ge w (l.length + 1) c u
      have hgm := grownCap_le_maxLen w (l.length + 1) c u (by unfold maxLen; omega)
      obtain ⟨cap, hcap⟩ : ∃ cap, cap = grownCap w (l.length + 1) c u := ⟨_, rfl⟩
      rw [← hcap] at hrun hge hgm
      have hb2 : Below w.heap.size w (w.drew.alloc (.cells ((olds ++ vs).toArray ++ Builtin.zeroCells z.cells (cap - (l.length + 1))) u)) := (Below.refl w.heap.size w).drew.alloc (Nat.le_refl _) _
      have hF2 : Fr T (paint T w.heap.size t) (fun c => c = t) w (w.drew.alloc (.cells ((olds ++ vs).toArray ++ Builtin.zeroCells z.cells (cap - (l.length + 1))) u)) := Fr.new hb2 t
      refine ⟨_, _, _, hrun, ⟨by rw [List.length_append]; exact hge, hgm, fun _ => ⟨w.heap.size, 0, _, rfl, row_alloc_at w.drew _ _ _ rfl, ?_, paint_new (Nat.le_refl _), fun i hi => ?_⟩⟩, hF2⟩
      · rw [Array.size_append, size_zeroCells, hz, List.size_toArray, List.length_append, ho1, hvl]
        have : cap * k = (l.length + 1) * k + (cap - (l.length + 1)) * k := by rw [← Nat.add_mul]; congr 1; omega
        rw [Nat.add_mul, Nat.one_mul] at this
        omega
      · by_cases hlt : i < l.length
        · obtain ⟨ws, h4, h5⟩ := ho3 i hlt
          refine ⟨ws, by rw [List.getElem_append_left hlt]; exact hE.fr h4 hF2 (fun e => h0 e), fun j hj => ?_⟩
          have hm2 : (i + 1) * k ≤ l.length * k := Nat.mul_le_mul_right k hlt
          rw [Nat.add_mul, Nat.one_mul] at hm2
          rw [Nat.zero_add, Array.getElem?_append_left (by rw [List.size_toArray, List.length_append]; omega), List.getElem?_toArray, List.getElem?_append_left (by omega)]
          exact h5 j hj
        · have hi' : i = l.length := by simp at hi; omega
          subst hi'
          refine ⟨vs, by rw [List.getElem_append_right (Nat.le_refl _)]; simpa using hE.fr hx hF2 (fun e => h0 e), fun j hj => ?_⟩
          rw [Nat.zero_add, Array.getElem?_append_left (by rw [List.size_toArray, List.length_append]; omega), List.getElem?_toArray, List.getElem?_append_right (by omega), ho1, Nat.add_sub_cancel_left]
end
theorem ElAt.empty {α : Type} {k : Nat} {E : Mk → World → α → List Value → Prop} (T : Mk) (w : World) (t : Nat) (A : Option Addr) : ElAt k E T w t A 0 ([] : List α) := ⟨Nat.le_refl _, Nat.zero_le _, fun h => absurd h (by omega)⟩
theorem wpl_appAt {α : Type} {k : Nat} {E : Mk → World → α → List Value → Prop} (hE : ElOk k E) {T : Mk} {w : World} {tg c : Nat} {A : Option Addr} {l : List α} {P : Program} {ops : Array Oper} {rest : List Oper} {o : Oper} {a : Act} {Q : Exit → Act → World → Prop} (hgd : o.guard = none) (s y : Operand) {t u : TypeId} {z : Value} {bytes : Nat}
    (ho : o.op = .call { callee := .builtin .append, args := #[s, y], argTypes := #[t, t] }) (ht : P.underlying t = some (.slice u)) (hi : (P.info? u).map (fun i => (i.zero, i.size, i.bytes)) = some (some z, k, bytes)) (hz : z.cells.size = k) (hk : 0 < k) (hb : bytes ≤ 1000)
    (hA : ElAt k E T w tg A c l) {p : Nat} {x : α} {vs : List Value} (hp : row w p = some vs.toArray) (hx : E T w x vs) (hl : l.length ≤ 1000000000) (h0 : 0 ≠ tg)
    (hv : a.eval s = .slice A l.length c) (hy : a.eval y = .slice (some ⟨p, 0, none⟩) 1 1)
    (h : ∀ A' c' w', ElAt k E (paint T w.heap.size tg) w' tg A' c' (l ++ [x]) → Fr T (paint T w.heap.size tg) (fun c => c = tg) w w' → wpList P ops Q rest (a.put o.dst (.slice A' (l.length + 1) c')) w') : wpList P ops Q (o :: rest) a w := by
  refine wpList_plain hgd fun K hK => ?_
  obtain ⟨A', c', w', a1, a2, a3⟩ := run_appAt hE (ty := o.type) ht hi hz hk hb hA hp hx hl h0
  unfold Oper.wp execOp
  simp only [ho, resolve, invoke, builtin, Sem.run_bind, Sem.run_pure, Result.andThen_ok, List.map_toArray, List.map_cons, List.map_nil, hv, hy, a1]
  exact hK _ _ (h A' c' w' a2 a3)
section
variable {α : Type} {k : Nat} {E : Mk → World → α → List Value → Prop} (hE : ElOk k E) {T T' T2 : Mk} {H : Nat → Prop} {w w' : World} {t : Nat} {A : Option Addr} {c : Nat} {l : List α}
include hE
/-- several are laid behind them, from wherever they lie -/
theorem run_appSrc {P : Program} {ty u : TypeId} {tt : TypeId} {z : Value} {bytes : Nat} (ht : P.underlying tt = some (.slice u)) (hi : (P.info? u).map (fun i => (i.zero, i.size, i.bytes)) = some (some z, k, bytes)) (hz : z.cells.size = k) (hk : 0 < k) (hb : bytes ≤ 1000)
    (h : ElAt k E T w t A c l) {V : Value} {xs : List α} {vs : List Value} (hSS : ∀ i, P.info? u = some i → Src P i.size tt V xs.length vs w) (hvl : vs.length = xs.length * k) (hx : ∀ i (h : i < xs.length), ∃ ws, E T w xs[i] ws ∧ ∀ j, j < k → vs[i * k + j]? = ws[j]?) (hm0 : 0 < xs.length) (hone : ∀ v ∈ vs, v.oneCell' = true) (hl : l.length + xs.length ≤ 1000000000) (h0 : 0 ≠ t) :
    ∃ A' c' w', (Builtin.append_ #[tt, tt] ty #[.slice A l.length c, V]).run P w = .ok (.slice A' (l.length + xs.length) c') w' ∧ ElAt k E (paint T w.heap.size t) w' t A' c' (l ++ xs) ∧ Fr T (paint T w.heap.size t) (fun c => c = t) w w' := by
  cases hq : P.info? u with
  | none => rw [hq] at hi; cases hi
  | some i =>
    rw [hq] at hi
    have e0 : (i.zero, i.size, i.bytes) = (some z, k, bytes) := Option.some.inj hi
    simp only [Prod.mk.injEq] at e0
    obtain ⟨z0, z1, z2⟩ := e0
    have hS := hSS i hq
    by_cases hroom : l.length + xs.length ≤ c
    · obtain ⟨g, o, cur, rfl, hr, hsz, hT, hel⟩ := h.at_ (by omega)
      have hm : (l.length + xs.length) * k ≤ c * k := Nat.mul_le_mul_right k hroom
      rw [Nat.add_mul] at hm
      have hrun := run_append_room_src (P := P) w tt tt ty u i ht hq g o l.length c V xs.length vs hS hroom
        (fun j hj => by rw [cell_row hr, z1]; simp only [Option.isSome_iff_exists]; exact ⟨_, Array.getElem?_eq_getElem (by omega)⟩) (fun j hj => froz_row hr _)
      rw [z1, setCells_row vs _ cur w hr] at hrun
      have hF : Fr T T (fun c => c = t) w (w.setRow g (spl cur (o + l.length * k) vs)) := Fr.row hT _
      have hF2 := hF.painted (t := t) w.heap.size (Nat.le_refl _)
      refine ⟨_, _, _, hrun, ⟨by rw [List.length_append]; exact hroom, h.big, fun _ => ⟨g, o, _, rfl, row_setRow hr _, by rw [spl_size]; exact hsz, by rw [paint_old (row_lt hr)]; exact hT, fun i hi => ?_⟩⟩, hF2⟩
      by_cases hlt : i < l.length
      · obtain ⟨ws, h4, h5⟩ := hel i hlt
        refine ⟨ws, by rw [List.getElem_append_left hlt]; exact hE.fr h4 hF2 (fun e => h0 e), fun j hj => ?_⟩
        have hm2 : (i + 1) * k ≤ l.length * k := Nat.mul_le_mul_right k hlt
        rw [Nat.add_mul, Nat.one_mul] at hm2
        rw [spl_get _ _ _ _ (by omega), if_neg (by omega)]
        exact h5 j hj
      · have hi' : i < l.length + xs.length := by simpa using hi
        obtain ⟨ws, h4, h5⟩ := hx (i - l.length) (by omega)
        have hm2 : (i + 1) * k ≤ (l.length + xs.length) * k := Nat.mul_le_mul_right k hi'
        have hm3 : l.length * k + (i - l.length) * k = i * k := by rw [← Nat.add_mul]; congr 1; omega
        rw [Nat.add_mul, Nat.add_mul, Nat.one_mul] at hm2
        refine ⟨ws, by rw [List.getElem_append_right (by omega)]; exact hE.fr h4 hF2 (fun e => h0 e), fun j hj => ?_⟩
        rw [spl_get _ _ _ _ (by omega), if_pos ⟨by omega, by omega⟩, show o + i * k + j - (o + l.length * k) = (i - l.length) * k + j by omega]
        exact h5 j hj
    · have hle := h.le
      -- what was there
      obtain ⟨olds, ho1, ho2, ho3⟩ : ∃ olds : List Value, olds.length = l.length * k ∧ (Builtin.firstCells i.size l.length (.slice A l.length c)).run P w.drew = .ok olds.toArray w.drew ∧ ∀ i (h : i < l.length), ∃ vs, E T w l[i] vs ∧ ∀ j, j < k → olds[i * k + j]? = vs[j]? := by
        by_cases hc0 : 0 < c
        · obtain ⟨g, o, cur, rfl, hr, hsz, hT, hel⟩ := h.at_ hc0
          have hlen : ((cur.toList.drop o).take (l.length * k)).length = l.length * k := by
            have hq : cur.toList.length = cur.size := Array.length_toList ..
            have hsz' : o + l.length * k ≤ cur.size := by have := Nat.mul_le_mul_right k hle; omega
            rw [List.length_take, List.length_drop]
            omega
          refine ⟨(cur.toList.drop o).take (l.length * k), hlen, ?_, fun i hi => ?_⟩
          · refine run_firstCells_some (P := P) w.drew i.size l.length ⟨g, o, none⟩ l.length c _ (by rw [hlen, z1]) (fun j y hy => ?_)
            rw [List.getElem?_take] at hy
            split at hy
            · rw [add_mid]
              show w.cell? ⟨g, o + j, none⟩ = _
              rw [cell_row hr, ← hy, List.getElem?_drop, Array.getElem?_toList]
            · cases hy
          · obtain ⟨ws, h4, h5⟩ := hel i hi
            refine ⟨ws, h4, fun j hj => ?_⟩
            have hm2 : (i + 1) * k ≤ l.length * k := Nat.mul_le_mul_right k hi
            rw [Nat.add_mul, Nat.one_mul] at hm2
            rw [List.getElem?_take, if_pos (by omega), List.getElem?_drop, Array.getElem?_toList, ← h5 j hj]
            congr 1
            omega
        · have hl0 : l.length = 0 := by omega
          refine ⟨[], by simp [hl0], ?_, fun i hi => by omega⟩
          rw [hl0]
          cases A with
          | none => exact run_firstCells_none w.drew i.size 0 0 c
          | some a => exact run_firstCells_some w.drew i.size 0 a 0 c [] (by simp) (fun j y hy => by simp at hy)
      have hcm := h.big
      have hrun := run_append_grow_src (P := P) w tt tt ty u i z ht hq z0 A l.length c olds ho2 V xs.length vs hS (by omega) (by omega) (growslice_fits (by omega) (by rw [z2]; have := Nat.mul_le_mul (show l.length + xs.length ≤ 1000000001 by omega) hb; omega))
      have hge := grownCap_ge w (l.length + xs.length) c u
      have hgm := grownCap_le_maxLen w (l.length + xs.length) c u (by unfold maxLen; omega)
      obtain ⟨cap, hcap⟩ : ∃ cap, cap = grownCap w (l.length + xs.length) c u := ⟨_, rfl⟩
      rw [← hcap] at hrun hge hgm
      have hb2 : Below w.heap.size w (w.drew.alloc (.cells ((olds ++ vs).toArray ++ Builtin.zeroCells z.cells (cap - (l.length + xs.length))) u)) := (Below.refl w.heap.size w).drew.alloc (Nat.le_refl _) _
      have hF2 : Fr T (paint T w.heap.size t) (fun c => c = t) w (w.drew.alloc (.cells ((olds ++ vs).toArray ++ Builtin.zeroCells z.cells (cap - (l.length + xs.length))) u)) := Fr.new hb2 t
      refine ⟨_, _, _, hrun, ⟨by rw [List.length_append]; exact hge, hgm, fun _ => ⟨w.heap.size, 0, _, rfl, row_alloc_at w.drew _ _ _ rfl, ?_, paint_new (Nat.le_refl _), fun i hi => ?_⟩⟩, hF2⟩
      · rw [Array.size_append, size_zeroCells, hz, List.size_toArray, List.length_append, ho1, hvl]
        have : cap * k = (l.length + xs.length) * k + (cap - (l.length + xs.length)) * k := by rw [← Nat.add_mul]; congr 1; omega
        rw [Nat.add_mul] at this
        omega
      · by_cases hlt : i < l.length
        · obtain ⟨ws, h4, h5⟩ := ho3 i hlt
          refine ⟨ws, by rw [List.getElem_append_left hlt]; exact hE.fr h4 hF2 (fun e => h0 e), fun j hj => ?_⟩
          have hm2 : (i + 1) * k ≤ l.length * k := Nat.mul_le_mul_right k hlt
          rw [Nat.add_mul, Nat.one_mul] at hm2
          rw [Nat.zero_add, Array.getElem?_append_left (by rw [List.size_toArray, List.length_append]; omega), List.getElem?_toArray, List.getElem?_append_left (by omega)]
          exact h5 j hj
        · have hi' : i < l.length + xs.length := by simpa using hi
          obtain ⟨ws, h4, h5⟩ := hx (i - l.length) (by omega)
          have hm3 : l.length * k + (i - l.length) * k = i * k := by rw [← Nat.add_mul]; congr 1; omega
          have hm2 : (i + 1) * k ≤ (l.length + xs.length) * k := Nat.mul_le_mul_right k hi'
          rw [Nat.add_mul, Nat.add_mul, Nat.one_mul] at hm2
          refine ⟨ws, by rw [List.getElem_append_right (by omega)]; exact hE.fr h4 hF2 (fun e => h0 e), fun j hj => ?_⟩
          rw [Nat.zero_add, Array.getElem?_append_left (by rw [List.size_toArray, List.length_append]; omega), List.getElem?_toArray, List.getElem?_append_right (by omega), ho1, show i * k + j - l.length * k = (i - l.length) * k + j by omega]
          exact h5 j hj
/-- the elements of such a slice as the source of an append -/
theorem ElAt.src {P : Program} {u : TypeId} {tt : TypeId} (ht : P.underlying tt = some (.slice u)) (hz : (P.info? u).map (·.size) = some k) (h : ElAt k E T w t A c l) (h0 : 0 < l.length) :
    ∃ vs : List Value, vs.length = l.length * k ∧ (∀ i (h : i < l.length), ∃ ws, E T w l[i] ws ∧ ∀ j, j < k → vs[i * k + j]? = ws[j]?) ∧ (∀ v ∈ vs, v.oneCell' = true) ∧ ∀ i, P.info? u = some i → Src P i.size tt (.slice A l.length c) l.length vs w := by
  obtain ⟨g, o, cur, rfl, hr, hsz, hT, hel⟩ := h.at_ (by have := h.le; omega)
  have hle := Nat.mul_le_mul_right k h.le
  have hlen : ((cur.toList.drop o).take (l.length * k)).length = l.length * k := by
    have hq : cur.toList.length = cur.size := Array.length_toList ..
    rw [List.length_take, List.length_drop]
    omega
  have hget : ∀ i (h : i < l.length), ∃ ws, E T w l[i] ws ∧ ∀ j, j < k → ((cur.toList.drop o).take (l.length * k))[i * k + j]? = ws[j]? := fun i hi => by
    obtain ⟨ws, h4, h5⟩ := hel i hi
    refine ⟨ws, h4, fun j hj => ?_⟩
    have hm2 : (i + 1) * k ≤ l.length * k := Nat.mul_le_mul_right k hi
    rw [Nat.add_mul, Nat.one_mul] at hm2
    rw [List.getElem?_take, if_pos (by omega), List.getElem?_drop, Array.getElem?_toList, ← h5 j hj]
    congr 1
    omega
  have hone : ∀ v ∈ (cur.toList.drop o).take (l.length * k), v.oneCell' = true := fun v hv => by
    obtain ⟨x, hx, rfl⟩ := List.getElem_of_mem hv
    have hk : 0 < k := by
      rcases Nat.eq_zero_or_pos k with e | e
      · subst e; rw [hlen] at hx; omega
      · exact e
    rw [hlen] at hx
    have hi : x / k < l.length := Nat.div_lt_of_lt_mul (by rw [Nat.mul_comm]; exact hx)
    obtain ⟨ws, h4, h5⟩ := hget (x / k) hi
    have h6 := h5 (x % k) (Nat.mod_lt _ hk)
    rw [show x / k * k + x % k = x by rw [Nat.mul_comm]; exact Nat.div_add_mod x k, List.getElem?_eq_getElem (by rw [hlen]; exact hx)] at h6
    exact hE.one h4 _ (List.mem_of_getElem? h6.symm)
  refine ⟨(cur.toList.drop o).take (l.length * k), hlen, hget, hone, fun i hq => ?_⟩
  have hs : i.size = k := by rw [hq] at hz; exact Option.some.inj hz
  exact Src.ofSlice w ht ⟨g, o, none⟩ l.length c _ (by rw [hlen, hs]) (fun j y hy => by
    rw [List.getElem?_take] at hy
    split at hy
    · rw [add_mid]
      show w.cell? ⟨g, o + j, none⟩ = _
      rw [cell_row hr, ← hy, List.getElem?_drop, Array.getElem?_toList]
    · cases hy) hone
end
theorem wpl_appSrc {α : Type} {k : Nat} {E : Mk → World → α → List Value → Prop} (hE : ElOk k E) {T : Mk} {w : World} {tg c : Nat} {A : Option Addr} {l : List α} {P : Program} {ops : Array Oper} {rest : List Oper} {o : Oper} {a : Act} {Q : Exit → Act → World → Prop} (hgd : o.guard = none) (s y : Operand) {t u : TypeId} {z : Value} {bytes : Nat}
    (ho : o.op = .call { callee := .builtin .append, args := #[s, y], argTypes := #[t, t] }) (ht : P.underlying t = some (.slice u)) (hi : (P.info? u).map (fun i => (i.zero, i.size, i.bytes)) = some (some z, k, bytes)) (hz : z.cells.size = k) (hk : 0 < k) (hb : bytes ≤ 1000)
    (hA : ElAt k E T w tg A c l) {V : Value} {xs : List α} {vs : List Value} (hSS : ∀ i, P.info? u = some i → Src P i.size t V xs.length vs w) (hvl : vs.length = xs.length * k) (hx : ∀ i (h : i < xs.length), ∃ ws, E T w xs[i] ws ∧ ∀ j, j < k → vs[i * k + j]? = ws[j]?) (hm0 : 0 < xs.length) (hone : ∀ v ∈ vs, v.oneCell' = true) (hl : l.length + xs.length ≤ 1000000000) (h0 : 0 ≠ tg)
    (hv : a.eval s = .slice A l.length c) (hy : a.eval y = V)
    (h : ∀ A' c' w', ElAt k E (paint T w.heap.size tg) w' tg A' c' (l ++ xs) → Fr T (paint T w.heap.size tg) (fun c => c = tg) w w' → wpList P ops Q rest (a.put o.dst (.slice A' (l.length + xs.length) c')) w') : wpList P ops Q (o :: rest) a w := by
  refine wpList_plain hgd fun K hK => ?_
  obtain ⟨A', c', w', a1, a2, a3⟩ := run_appSrc hE (ty := o.type) ht hi hz hk hb hA hSS hvl hx hm0 hone hl h0
  unfold Oper.wp execOp
  simp only [ho, resolve, invoke, builtin, Sem.run_bind, Sem.run_pure, Result.andThen_ok, List.map_toArray, List.map_cons, List.map_nil, hv, hy, a1]
  exact hK _ _ (h A' c' w' a2 a3)
/-- the block that an append may write to -/
def blk (A : Option Addr) (c : Nat) : List Nat := if 0 < c then A.toList.map (·.block) else []
section
variable {α : Type} {k : Nat} {E : Mk → World → α → List Value → Prop} (hE : ElOk k E) {T T' T2 : Mk} {H : Nat → Prop} {w w' : World} {t : Nat} {A : Option Addr} {c : Nat} {l : List α}
include hE
/-- elements out of another row, laid behind an empty literal: a new row, or none -/
theorem run_appNil {P : Program} {ty u : TypeId} {tt : TypeId} {z : Value} {bytes : Nat} (ht : P.underlying tt = some (.slice u)) (hi : (P.info? u).map (fun i => (i.zero, i.size, i.bytes)) = some (some z, k, bytes)) (hz : z.cells.size = k) (hk : 0 < k) (hb : bytes ≤ 1000)
    (h : ElAt k E T w t A c l) (hl : l.length ≤ 1000000000) (p t' : Nat) :
    ∃ A' c' w', (Builtin.append_ #[tt, tt] ty #[.slice (some ⟨p, 0, none⟩) 0 0, .slice A l.length c]).run P w = .ok (.slice A' l.length c') w' ∧ ElAt k E (paint T w.heap.size t') w' t' A' c' l ∧ Below w.heap.size w w' ∧ ∀ k ∈ blk A' c', w.heap.size ≤ k ∧ k < w'.heap.size := by
  cases hq : P.info? u with
  | none => rw [hq] at hi; cases hi
  | some i =>
    have hi0 := hi
    rw [hq] at hi
    have e0 : (i.zero, i.size, i.bytes) = (some z, k, bytes) := Option.some.inj hi
    simp only [Prod.mk.injEq] at e0
    obtain ⟨z0, z1, z2⟩ := e0
    by_cases hm0 : 0 < l.length
    · obtain ⟨vs, hvl, hx, hone, hSS⟩ := ElAt.src hE (P := P) ht (by rw [hq]; exact congrArg some z1) h hm0
      have hS := hSS i hq
      have hrun := run_append_grow_src (P := P) w tt tt ty u i z ht hq z0 (some ⟨p, 0, none⟩) 0 0 [] (run_firstCells_some w.drew i.size 0 ⟨p, 0, none⟩ 0 0 [] (by simp) (fun j y hy => by simp at hy)) (.slice A l.length c) l.length vs hS (by omega) (by omega) (growslice_fits (by omega) (by rw [z2]; have := Nat.mul_le_mul (show 0 + l.length ≤ 1000000001 by omega) hb; omega))
      have hge := grownCap_ge w (0 + l.length) 0 u
      have hgm := grownCap_le_maxLen w (0 + l.length) 0 u (by unfold maxLen; omega)
      obtain ⟨cap, hcap⟩ : ∃ cap, cap = grownCap w (0 + l.length) 0 u := ⟨_, rfl⟩
      rw [← hcap] at hrun hge hgm
      rw [Nat.zero_add] at hrun hge
      have hb2 : Below w.heap.size w (w.drew.alloc (.cells (([] ++ vs).toArray ++ Builtin.zeroCells z.cells (cap - l.length)) u)) := (Below.refl w.heap.size w).drew.alloc (Nat.le_refl _) _
      have hF2 : Fr T (paint T w.heap.size t') (fun _ => False) w (w.drew.alloc (.cells (([] ++ vs).toArray ++ Builtin.zeroCells z.cells (cap - l.length)) u)) := Fr.new hb2 t'
      refine ⟨_, _, _, hrun, ⟨hge, hgm, fun _ => ⟨w.heap.size, 0, _, rfl, row_alloc_at w.drew _ _ _ rfl, ?_, paint_new (Nat.le_refl _), fun i hi => ?_⟩⟩, hb2, fun k hk => by
          unfold blk at hk
          rw [if_pos (by omega)] at hk
          have hk' : k = w.heap.size := by simpa using hk
          subst hk'
          exact ⟨Nat.le_refl _, by simp⟩⟩
      · rw [Array.size_append, size_zeroCells, hz, List.size_toArray, List.nil_append, hvl]
        have : cap * k = l.length * k + (cap - l.length) * k := by rw [← Nat.add_mul]; congr 1; omega
        omega
      · obtain ⟨ws, h4, h5⟩ := hx i hi
        have hm2 : (i + 1) * k ≤ l.length * k := Nat.mul_le_mul_right k hi
        rw [Nat.add_mul, Nat.one_mul] at hm2
        refine ⟨ws, hE.fr h4 hF2 (fun e => e), fun j hj => ?_⟩
        rw [Nat.zero_add, List.nil_append, Array.getElem?_append_left (by rw [List.size_toArray]; omega), List.getElem?_toArray]
        exact h5 j hj
    · have hl0 : l = [] := List.eq_nil_of_length_eq_zero (by omega)
      subst hl0
      have hS : Src P i.size tt (.slice A 0 c) 0 [] w := by
        cases A with
        | none => exact ⟨.inl ⟨u, ht⟩, fun w' => rfl, run_firstCells_none w i.size 0 0 c, run_firstCells_none w.drew i.size 0 0 c, by simp, fun _ h => by cases h⟩
        | some a => exact Src.ofSlice w ht a 0 c [] (by simp) (fun j y hy => by simp at hy) (fun _ h => by cases h)
      have hrun := run_append_room_src (P := P) w tt tt ty u i ht hq p 0 0 0 (.slice A 0 c) 0 [] hS (by omega) (fun j hj => absurd hj (by simp)) (fun j hj => absurd hj (by simp))
      exact ⟨_, _, _, hrun, ElAt.empty _ _ _ _, Below.refl _ _, fun k hk => by unfold blk at hk; rw [if_neg (by omega)] at hk; cases hk⟩
end
theorem wpl_appNil {α : Type} {k : Nat} {E : Mk → World → α → List Value → Prop} (hE : ElOk k E) {T : Mk} {w : World} {tg c : Nat} {A : Option Addr} {l : List α} {P : Program} {ops : Array Oper} {rest : List Oper} {o : Oper} {a : Act} {Q : Exit → Act → World → Prop} (hgd : o.guard = none) (s y : Operand) {t u : TypeId} {z : Value} {bytes : Nat}
    (ho : o.op = .call { callee := .builtin .append, args := #[s, y], argTypes := #[t, t] }) (ht : P.underlying t = some (.slice u)) (hi : (P.info? u).map (fun i => (i.zero, i.size, i.bytes)) = some (some z, k, bytes)) (hz : z.cells.size = k) (hk : 0 < k) (hb : bytes ≤ 1000)
    (hA : ElAt k E T w tg A c l) (hl : l.length ≤ 1000000000) (p t' : Nat)
    (hv : a.eval s = .slice (some ⟨p, 0, none⟩) 0 0) (hy : a.eval y = .slice A l.length c)
    (h : ∀ A' c' w', ElAt k E (paint T w.heap.size t') w' t' A' c' l → Below w.heap.size w w' → (∀ k ∈ blk A' c', w.heap.size ≤ k ∧ k < w'.heap.size) → wpList P ops Q rest (a.put o.dst (.slice A' l.length c')) w') : wpList P ops Q (o :: rest) a w := by
  refine wpList_plain hgd fun K hK => ?_
  obtain ⟨A', c', w', a1, a2, a3, a4⟩ := run_appNil hE (ty := o.type) ht hi hz hk hb hA hl p t'
  unfold Oper.wp execOp
  simp only [ho, resolve, invoke, builtin, Sem.run_bind, Sem.run_pure, Result.andThen_ok, List.map_toArray, List.map_cons, List.map_nil, hv, hy, a1]
  exact hK _ _ (h A' c' w' a2 a3 a4)
end Go.Proofs.Ythokiohdeclmhaa.Oct
