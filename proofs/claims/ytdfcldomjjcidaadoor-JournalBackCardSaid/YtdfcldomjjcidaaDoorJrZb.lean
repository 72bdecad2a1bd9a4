/- A row of structs: several laid behind it, out of another row; Contract: law 11's few; the reference's State. -/
import Derived.Test.YtdfcldomjjcidaaDoorJrZa
namespace Go.Proofs.YtdfcldomjjcidaaDoor.Oct
open Go.ChangeShapes Go.WideShapes Go.ChangeAt Go.RowKit
set_option linter.unusedVariables false

section
variable {α : Type} {k : Nat} {E : Mk → World → α → List Value → Prop} (hE : ElOk k E) {T T' T2 : Mk} {H : Nat → Prop} {w w' : World} {t : Nat} {A : Option Addr} {c : Nat} {l : List α}
include hE
/-- several are laid behind them, from wherever they lie -/
theorem run_appSrc {P : Program} {ty u : TypeId} {tt : TypeId} {z : Value} {bytes : Nat} (ht : P.underlying tt = some (.slice u)) (hi : (P.info? u).map (fun i => (i.zero, i.size, i.bytes)) = some (some z, k, bytes)) (hz : z.cells.size = k) (hk : 0 < k) (hb : bytes ≤ 1000)
    (h : ElAt k E T w t A c l) {V : Value} {xs : List α} {vs : List Value} (hSS : ∀ i, P.info? u = some i → Src P i.size tt V xs.length vs w) (hvl : vs.length = xs.length * k) (hx : ∀ i (h : i < xs.length), ∃ ws, E T w xs[i] ws ∧ ∀ j, j < k → vs[i * k + j]? = ws[j]?) (hm0 : 0 < xs.length) (hone : ∀ v ∈ vs, v.oneCell' = true) (hl : l.length + xs.length ≤ 1000000000) (h0 : 0 ≠ t) :
    ∃ A' c' w', (Builtin.append_ #[tt, tt] ty #[.slice A l.length c, V]).run P w = .ok (.slice A' (l.length + xs.length) c') w' ∧ ElAt k E (paint T w.heap.size t) w' t A' c' (l ++ xs) ∧ Fr T (paint T w.heap.size t) (fun c => c = t) w w' := by
  cases hq : P.info? u with
  | none => rw [hq] at hi; cases hi
  | some i =>
    rw [hq] at hi
    have e0 : (i.zero, i.size, i.bytes) = (some z, k, bytes) := Option.some.inj hi
    simp only [Prod.mk.injEq] at e0
    obtain ⟨z0, z1, z2⟩ := e0
    have hS := hSS i hq
    by_cases hroom : l.length + xs.length ≤ c
    · obtain ⟨g, o, cur, rfl, hr, hsz, hT, hel⟩ := h.at_ (by omega)
      have hm : (l.length + xs.length) * k ≤ c * k := Nat.mul_le_mul_right k hroom
      rw [Nat.add_mul] at hm
      have hrun := run_append_room_src (P := P) w tt tt ty u i ht hq g o l.length c V xs.length vs hS hroom
        (fun j hj => by rw [cell_row hr, z1]; simp only [Option.isSome_iff_exists]; exact ⟨_, Array.getElem?_eq_getElem (by omega)⟩) (fun j hj => froz_row hr _)
      rw [z1, setCells_row vs _ cur w hr] at hrun
      have hF : Fr T T (fun c => c = t) w (w.setRow g (spl cur (o + l.length * k) vs)) := Fr.row hT _
      have hF2 := hF.painted (t := t) w.heap.size (Nat.le_refl _)
      refine ⟨_, _, _, hrun, ⟨by rw [List.length_append]; exact hroom, h.big, fun _ => ⟨g, o, _, rfl, row_setRow hr _, by rw [spl_size]; exact hsz, by rw [paint_old (row_lt hr)]; exact hT, fun i hi => ?_⟩⟩, hF2⟩
      by_cases hlt : i < l.length
      · obtain ⟨ws, h4, h5⟩ := hel i hlt
        refine ⟨ws, by rw [List.getElem_append_left hlt]; exact hE.fr h4 hF2 (fun e => h0 e), fun j hj => ?_⟩
        have hm2 : (i + 1) * k ≤ l.length * k := Nat.mul_le_mul_right k hlt
        rw [Nat.add_mul, Nat.one_mul] at hm2
        rw [spl_get _ _ _ _ (by omega), if_neg (by omega)]
        exact h5 j hj
      · have hi' : i < l.length + xs.length := by simpa using hi
        obtain ⟨ws, h4, h5⟩ := hx (i - l.length) (by omega)
        have hm2 : (i + 1) * k ≤ (l.length + xs.length) * k := Nat.mul_le_mul_right k hi'
        have hm3 : l.length * k + (i - l.length) * k = i * k := by rw [← Nat.add_mul]; congr 1; omega
        rw [Nat.add_mul, Nat.add_mul, Nat.one_mul] at hm2
        refine ⟨ws, by rw [List.getElem_append_right (by omega)]; exact hE.fr h4 hF2 (fun e => h0 e), fun j hj => ?_⟩
        rw [spl_get _ _ _ _ (by omega), if_pos ⟨by omega, by omega⟩, show o + i * k + j - (o + l.length * k) = (i - l.length) * k + j by omega]
        exact h5 j hj
    · have hle := h.le
      -- what was there
      obtain ⟨olds, ho1, ho2, ho3⟩ : ∃ olds : List Value, olds.length = l.length * k ∧ (Builtin.firstCells i.size l.length (.slice A l.length c)).run P w.drew = .ok olds.toArray w.drew ∧ ∀ i (h : i < l.length), ∃ vs, E T w l[i] vs ∧ ∀ j, j < k → olds[i * k + j]? = vs[j]? := by
        by_cases hc0 : 0 < c
        · obtain ⟨g, o, cur, rfl, hr, hsz, hT, hel⟩ := h.at_ hc0
          have hlen : ((cur.toList.drop o).take (l.length * k)).length = l.length * k := by
            have hq : cur.toList.length = cur.size := Array.length_toList ..
            have hsz' : o + l.length * k ≤ cur.size := by have := Nat.mul_le_mul_right k hle; omega
            rw [List.length_take, List.length_drop]
            omega
          refine ⟨(cur.toList.drop o).take (l.length * k), hlen, ?_, fun i hi => ?_⟩
          · refine run_firstCells_some (P := P) w.drew i.size l.length ⟨g, o, none⟩ l.length c _ (by rw [hlen, z1]) (fun j y hy => ?_)
            rw [List.getElem?_take] at hy
            split at hy
            · rw [add_mid]
              show w.cell? ⟨g, o + j, none⟩ = _
              rw [cell_row hr, ← hy, List.getElem?_drop, Array.getElem?_toList]
            · cases hy
          · obtain ⟨ws, h4, h5⟩ := hel i hi
            refine ⟨ws, h4, fun j hj => ?_⟩
            have hm2 : (i + 1) * k ≤ l.length * k := Nat.mul_le_mul_right k hi
            rw [Nat.add_mul, Nat.one_mul] at hm2
            rw [List.getElem?_take, if_pos (by omega), List.getElem?_drop, Array.getElem?_toList, ← h5 j hj]
            congr 1
            omega
        · have hl0 : l.length = 0 := by omega
          refine ⟨[], by simp [hl0], ?_, fun i hi => by omega⟩
          rw [hl0]
          cases A with
          | none => exact run_firstCells_none w.drew i.size 0 0 c
          | some a => exact run_firstCells_some w.drew i.size 0 a 0 c [] (by simp) (fun j y hy => by simp at hy)
      have hcm := h.big
      have hrun := run_append_grow_src (P := P) w tt tt ty u i z ht hq z0 A l.length c olds ho2 V xs.length vs hS (by omega) (by omega) (growslice_fits (by omega) (by rw [z2]; have := Nat.mul_le_mul (show l.length + xs.length ≤ 1000000001 by omega) hb; omega))
      have hge := grownCap_ge w (l.length + xs.length) c u
      have hgm := grownCap_le_maxLen w (l.length + xs.length) c u (by unfold maxLen; omega)
      obtain ⟨cap, hcap⟩ : ∃ cap, cap = grownCap w (l.length + xs.length) c u := ⟨_, rfl⟩
      rw [← hcap] at hrun hge hgm
      have hb2 : Below w.heap.size w (w.drew.alloc (.cells ((olds ++ vs).toArray ++ Builtin.zeroCells z.cells (cap - (l.length + xs.length))) u)) := (Below.refl w.heap.size w).drew.alloc (Nat.le_refl _) _
      have hF2 : Fr T (paint T w.heap.size t) (fun c => c = t) w (w.drew.alloc (.cells ((olds ++ vs).toArray ++ Builtin.zeroCells z.cells (cap - (l.length + xs.length))) u)) := Fr.new hb2 t
      refine ⟨_, _, _, hrun, ⟨by rw [List.length_append]; exact hge, hgm, fun _ => ⟨w.heap.size, 0, _, rfl, row_alloc_at w.drew _ _ _ rfl, ?_, paint_new (Nat.le_refl _), fun i hi => ?_⟩⟩, hF2⟩
      · rw [Array.size_append, size_zeroCells, hz, List.size_toArray, List.length_append, ho1, hvl]
        have : cap * k = (l.length + xs.length) * k + (cap - (l.length + xs.length)) * k := by rw [← Nat.add_mul]; congr 1; omega
        rw [Nat.add_mul] at this
        omega
      · by_cases hlt : i < l.length
        · obtain ⟨ws, h4, h5⟩ := ho3 i hlt
          refine ⟨ws, by rw [List.getElem_append_left hlt]; exact hE.fr h4 hF2 (fun e => h0 e), fun j hj => ?_⟩
          have hm2 : (i + 1) * k ≤ l.length * k := Nat.mul_le_mul_right k hlt
          rw [Nat.add_mul, Nat.one_mul] at hm2
          rw [Nat.zero_add, Array.getElem?_append_left (by rw [List.size_toArray, List.length_append]; omega), List.getElem?_toArray, List.getElem?_append_left (by omega)]
          exact h5 j hj
        · have hi' : i < l.length + xs.length := by simpa using hi
          obtain ⟨ws, h4, h5⟩ := hx (i - l.length) (by omega)
          have hm3 : l.length * k + (i - l.length) * k = i * k := by rw [← Nat.add_mul]; congr 1; omega
          have hm2 : (i + 1) * k ≤ (l.length + xs.length) * k := Nat.mul_le_mul_right k hi'
          rw [Nat.add_mul, Nat.add_mul, Nat.one_mul] at hm2
          refine ⟨ws, by rw [List.getElem_append_right (by omega)]; exact hE.fr h4 hF2 (fun e => h0 e), fun j hj => ?_⟩
          rw [Nat.zero_add, Array.getElem?_append_left (by rw [List.size_toArray, List.length_append]; omega), List.getElem?_toArray, List.getElem?_append_right (by omega), ho1, show i * k + j - l.length * k = (i - l.length) * k + j by omega]
          exact h5 j hj
/-- the elements of such a slice as the source of an append -/
theorem ElAt.src {P : Program} {u : TypeId} {tt : TypeId} (ht : P.underlying tt = some (.slice u)) (hz : (P.info? u).map (·.size) = some k) (h : ElAt k E T w t A c l) (h0 : 0 < l.length) :
    ∃ vs : List Value, vs.length = l.length * k ∧ (∀ i (h : i < l.length), ∃ ws, E T w l[i] ws ∧ ∀ j, j < k → vs[i * k + j]? = ws[j]?) ∧ (∀ v ∈ vs, v.oneCell' = true) ∧ ∀ i, P.info? u = some i → Src P i.size tt (.slice A l.length c) l.length vs w := by
  obtain ⟨g, o, cur, rfl, hr, hsz, hT, hel⟩ := h.at_ (by have := h.le; omega)
  have hle := Nat.mul_le_mul_right k h.le
  have hlen : ((cur.toList.drop o).take (l.length * k)).length = l.length * k := by
    have hq : cur.toList.length = cur.size := Array.length_toList ..
    rw [List.length_take, List.length_drop]
    omega
  have hget : ∀ i (h : i < l.length), ∃ ws, E T w l[i] ws ∧ ∀ j, j < k → ((cur.toList.drop o).take (l.length * k))[i * k + j]? = ws[j]? := fun i hi => by
    obtain ⟨ws, h4, h5⟩ := hel i hi
    refine ⟨ws, h4, fun j hj => ?_⟩
    have hm2 : (i + 1) * k ≤ l.length * k := Nat.mul_le_mul_right k hi
    rw [Nat.add_mul, Nat.one_mul] at hm2
    rw [List.getElem?_take, if_pos (by omega), List.getElem?_drop, Array.getElem?_toList, ← h5 j hj]
    congr 1
    omega
  have hone : ∀ v ∈ (cur.toList.drop o).take (l.length * k), v.oneCell' = true := fun v hv => by
    obtain ⟨x, hx, rfl⟩ := List.getElem_of_mem hv
    have hk : 0 < k := by
      rcases Nat.eq_zero_or_pos k with e | e
      · subst e; rw [hlen] at hx; omega
      · exact e
    rw [hlen] at hx
    have hi : x / k < l.length := Nat.div_lt_of_lt_mul (by rw [Nat.mul_comm]; exact hx)
    obtain ⟨ws, h4, h5⟩ := hget (x / k) hi
    have h6 := h5 (x % k) (Nat.mod_lt _ hk)
    rw [show x / k * k + x % k = x by rw [Nat.mul_comm]; exact Nat.div_add_mod x k, List.getElem?_eq_getElem (by rw [hlen]; exact hx)] at h6
    exact hE.one h4 _ (List.mem_of_getElem? h6.symm)
  refine ⟨(cur.toList.drop o).take (l.length * k), hlen, hget, hone, fun i hq => ?_⟩
  have hs : i.size = k := by rw [hq] at hz; exact Option.some.inj hz
  exact Src.ofSlice w ht ⟨g, o, none⟩ l.length c _ (by rw [hlen, hs]) (fun j y hy => by
    rw [List.getElem?_take] at hy
    split at hy
    · rw [add_mid]
      show w.cell? ⟨g, o + j, none⟩ = _
      rw [cell_row hr, ← hy, List.getElem?_drop, Array.getElem?_toList]
    · cases hy) hone
end
theorem wpl_appSrc {α : Type} {k : Nat} {E : Mk → World → α → List Value → Prop} (hE : ElOk k E) {T : Mk} {w : World} {tg c : Nat} {A : Option Addr} {l : List α} {P : Program} {ops : Array Oper} {rest : List Oper} {o : Oper} {a : Act} {Q : Exit → Act → World → Prop} (hgd : o.guard = none) (s y : Operand) {t u : TypeId} {z : Value} {bytes : Nat}
    (ho : o.op = .call { callee := .builtin .append, args := #[s, y], argTypes := #[t, t] }) (ht : P.underlying t = some (.slice u)) (hi : (P.info? u).map (fun i => (i.zero, i.size, i.bytes)) = some (some z, k, bytes)) (hz : z.cells.size = k) (hk : 0 < k) (hb : bytes ≤ 1000)
    (hA : ElAt k E T w tg A c l) {V : Value} {xs : List α} {vs : List Value} (hSS : ∀ i, P.info? u = some i → Src P i.size t V xs.length vs w) (hvl : vs.length = xs.length * k) (hx : ∀ i (h : i < xs.length), ∃ ws, E T w xs[i] ws ∧ ∀ j, j < k → vs[i * k + j]? = ws[j]?) (hm0 : 0 < xs.length) (hone : ∀ v ∈ vs, v.oneCell' = true) (hl : l.length + xs.length ≤ 1000000000) (h0 : 0 ≠ tg)
    (hv : a.eval s = .slice A l.length c) (hy : a.eval y = V)
    (h : ∀ A' c' w', ElAt k E (paint T w.heap.size tg) w' tg A' c' (l ++ xs) → Fr T (paint T w.heap.size tg) (fun c => c = tg) w w' → wpList P ops Q rest (a.put o.dst (.slice A' (l.length + xs.length) c')) w') : wpList P ops Q (o :: rest) a w := by
  refine wpList_plain hgd fun K hK => ?_
  obtain ⟨A', c', w', a1, a2, a3⟩ := run_appSrc hE (ty := o.type) ht hi hz hk hb hA hSS hvl hx hm0 hone hl h0
  unfold Oper.wp execOp
  simp only [ho, resolve, invoke, builtin, Sem.run_bind, Sem.run_pure, Result.andThen_ok, List.map_toArray, List.map_cons, List.map_nil, hv, hy, a1]
  exact hK _ _ (h A' c' w' a2 a3)
theorem few11_any (n c : Nat) (A : Option Addr) (w : World) (hc : n ≤ c) : Calls Tryd.prog 8 #[.slice A n c] w fun e w' => e = .returned (.slice A (min n 40) c) ∧ w' = w := by
  go_enter Tryd.func8, Tryd.ntmps8
  by_cases h : 40 < n
  · have d1 : decide ((40 : Int) < (n : Int)) = true := decide_eq_true (by omega)
    have d2 : decide (40 < n) = true := decide_eq_true h
    have qu : ∀ w : World, (Instr.slice 22 (.slice A n c) none (some (.int .i64 40)) none).run Tryd.prog w = .ok (.slice A 40 c) w := fun w => run_uptoJ rcs_u rc_i A n c 40 (by omega) w
    go_wp2_with fail
    go_ret
    rw [Nat.min_eq_right (by omega)]
    exact ⟨rfl, rfl⟩
  · have d1 : decide ((40 : Int) < (n : Int)) = false := decide_eq_false (by omega)
    have d2 : decide (40 < n) = false := decide_eq_false h
    go_wp2_with fail
    go_ret
    rw [Nat.min_eq_left (by omega)]
    exact ⟨rfl, rfl⟩
theorem strr_i : (Tryd.prog.info? 39).map (·.size) = some 6 := by kernel_rfl
@[go_sem ↓] theorem strr_l (p : Value) : Instr.loadAt 39 p = ldA 39 p := rfl
@[go_sem ↓] theorem strr_s (p v : Value) : Instr.storeAt 39 p v = stA 39 p v := rfl
@[go_sem ↓] theorem strr_bd (parts : Array (Nat × Value)) : Instr.build 39 parts = bdA 39 parts := rfl
theorem strr_bdu (parts : Array (Nat × Value)) (w : World) (v : Value) (h : (Instr.build 39 parts).run Tryd.prog w = .ok v w) : (bdA 39 parts).run Tryd.prog w = .ok v w := h
@[go_sem] theorem strr_b0 (w : World) : (bdA 39 #[]).run Tryd.prog w = .ok (.agg (stC .zero nilS)) w := strr_bdu _ _ _ (by unfold stC; kernel_rfl)
@[go_sem] theorem strr_ld (w : World) (b o : Nat) : (ldA 39 (.pointer (some ⟨b, o, none⟩))).run Tryd.prog w = ldR Tryd.prog 39 6 w b o (row w b) := ld_rowJ _ _ Tryd.underlying39 rfl 6 strr_i w b o
@[go_sem] theorem strr_st (w : World) (b o : Nat) (c : Array Value) : (stA 39 (.pointer (some ⟨b, o, none⟩)) (.agg c)).run Tryd.prog w = stR Tryd.prog 39 6 w b o (.agg c) (row w b) := st_rule _ 6 strr_i w b o c
end Go.Proofs.YtdfcldomjjcidaaDoor.Oct
