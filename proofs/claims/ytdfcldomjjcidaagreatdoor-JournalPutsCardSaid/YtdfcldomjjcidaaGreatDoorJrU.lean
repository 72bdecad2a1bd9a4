/- Rows of records: several laid behind at once; literals; Contract: law 11's entry. -/
import Derived.Test.YtdfcldomjjcidaaGreatDoorJrT
namespace Go.Proofs.YtdfcldomjjcidaaGreatDoor.Oct
open Go.ChangeShapes Go.WideShapes Go.ChangeAt Go.RowKit
set_option linter.unusedVariables false

section
variable {α : Type} {k : Nat} {E : Mk → World → α → List Value → Prop} (hE : ElOk k E) {T T' T2 : Mk} {H : Nat → Prop} {w w' : World} {t : Nat} {A : Option Addr} {c : Nat} {l : List α}
include hE
/-- several are laid behind them -/
theorem run_appAts {P : Program} {ty u : TypeId} {tt : TypeId} {z : Value} {bytes : Nat} (ht : P.underlying tt = some (.slice u)) (hi : (P.info? u).map (fun i => (i.zero, i.size, i.bytes)) = some (some z, k, bytes)) (hz : z.cells.size = k) (hk : 0 < k) (hb : bytes ≤ 1000)
    (h : ElAt k E T w t A c l) {p : Nat} {xs : List α} {vs : List Value} (hp : row w p = some vs.toArray) (hvl : vs.length = xs.length * k) (hx : ∀ i (h : i < xs.length), ∃ ws, E T w xs[i] ws ∧ ∀ j, j < k → vs[i * k + j]? = ws[j]?) (hm0 : 0 < xs.length) (hone : ∀ v ∈ vs, v.oneCell' = true) (hl : l.length + xs.length ≤ 1000000000) (h0 : 0 ≠ t) :
    ∃ A' c' w', (Builtin.append_ #[tt, tt] ty #[.slice A l.length c, .slice (some ⟨p, 0, none⟩) xs.length xs.length]).run P w = .ok (.slice A' (l.length + xs.length) c') w' ∧ ElAt k E (paint T w.heap.size t) w' t A' c' (l ++ xs) ∧ Fr T (paint T w.heap.size t) (fun c => c = t) w w' := by
  cases hq : P.info? u with
  | none => rw [hq] at hi; cases hi
  | some i =>
    rw [hq] at hi
    have e0 : (i.zero, i.size, i.bytes) = (some z, k, bytes) := Option.some.inj hi
    simp only [Prod.mk.injEq] at e0
    obtain ⟨z0, z1, z2⟩ := e0
    have hS : Src P i.size tt (.slice (some ⟨p, 0, none⟩) xs.length xs.length) xs.length vs w := Src.ofSlice w ht ⟨p, 0, none⟩ xs.length xs.length vs (by rw [hvl, z1]) (fun j y hy => by rw [add_mid, Nat.zero_add, cell_row hp, List.getElem?_toArray]; exact hy) hone
    by_cases hroom : l.length + xs.length ≤ c
    · obtain ⟨g, o, cur, rfl, hr, hsz, hT, hel⟩ := h.at_ (by omega)
      have hm : (l.length + xs.length) * k ≤ c * k := Nat.mul_le_mul_right k hroom
      rw [Nat.add_mul] at hm
      have hrun := run_append_room_src (P := P) w tt tt ty u i ht hq g o l.length c (.slice (some ⟨p, 0, none⟩) xs.length xs.length) xs.length vs hS hroom
        (fun j hj => by rw [cell_row hr, z1]; simp only [Option.isSome_iff_exists]; exact ⟨_, Array.getElem?_eq_getElem (by omega)⟩) (fun j hj => froz_row hr _)
      rw [z1, setCells_row vs _ cur w hr] at hrun
      have hF : Fr T T (fun c => c = t) w (w.setRow g (spl cur (o + l.length * k) vs)) := Fr.row hT _
      have hF2 := hF.painted (t := t) w.heap.size (Nat.le_refl _)
      refine ⟨_, _, _, hrun, ⟨by rw [List.length_append]; exact hroom, h.big, fun _ => ⟨g, o, _, rfl, row_setRow hr _, by rw [spl_size]; exact hsz, by rw [paint_old (row_lt hr)]; exact hT, fun i hi => ?_⟩⟩, hF2⟩
      by_cases hlt : i < l.length
      · obtain ⟨ws, h4, h5⟩ := hel i hlt
        refine ⟨ws, by rw [List.getElem_append_left hlt]; exact hE.fr h4 hF2 (fun e => h0 e), fun j hj => ?_⟩
        have hm2 : (i + 1) * k ≤ l.length * k := Nat.mul_le_mul_right k hlt
        rw [Nat.add_mul, Nat.one_mul] at hm2
        rw [spl_get _ _ _ _ (by omega), if_neg (by omega)]
        exact h5 j hj
      · have hi' : i < l.length + xs.length := by simpa using hi
        obtain ⟨ws, h4, h5⟩ := hx (i - l.length) (by omega)
        have hm2 : (i + 1) * k ≤ (l.length + xs.length) * k := Nat.mul_le_mul_right k hi'
        have hm3 : l.length * k + (i - l.length) * k = i * k := by rw [← Nat.add_mul]; congr 1; omega
        rw [Nat.add_mul, Nat.add_mul, Nat.one_mul] at hm2
        refine ⟨ws, by rw [List.getElem_append_right (by omega)]; exact hE.fr h4 hF2 (fun e => h0 e), fun j hj => ?_⟩
        rw [spl_get _ _ _ _ (by omega), if_pos ⟨by omega, by omega⟩, show o + i * k + j - (o + l.length * k) = (i - l.length) * k + j by omega]
        exact h5 j hj
    · have hle := h.le
      -- what was there
      obtain ⟨olds, ho1, ho2, ho3⟩ : ∃ olds : List Value, olds.length = l.length * k ∧ (Builtin.firstCells i.size l.length (.slice A l.length c)).run P w.drew = .ok olds.toArray w.drew ∧ ∀ i (h : i < l.length), ∃ vs, E T w l[i] vs ∧ ∀ j, j < k → olds[i * k + j]? = vs[j]? := by
        by_cases hc0 : 0 < c
        · obtain ⟨g, o, cur, rfl, hr, hsz, hT, hel⟩ := h.at_ hc0
          have hlen : ((cur.toList.drop o).take (l.length * k)).length = l.length * k := by
            have hq : cur.toList.length = cur.size := Array.length_toList ..
            have hsz' : o + l.length * k ≤ cur.size := by have := Nat.mul_le_mul_right k hle; omega
            rw [List.length_take, List.length_drop]
            omega
          refine ⟨(cur.toList.drop o).take (l.length * k), hlen, ?_, fun i hi => ?_⟩
          · refine run_firstCells_some (P := P) w.drew i.size l.length ⟨g, o, none⟩ l.length c _ (by rw [hlen, z1]) (fun j y hy => ?_)
            rw [List.getElem?_take] at hy
            split at hy
            · rw [add_mid]
              show w.cell? ⟨g, o + j, none⟩ = _
              rw [cell_row hr, ← hy, List.getElem?_drop, Array.getElem?_toList]
            · cases hy
          · obtain ⟨ws, h4, h5⟩ := hel i hi
            refine ⟨ws, h4, fun j hj => ?_⟩
            have hm2 : (i + 1) * k ≤ l.length * k := Nat.mul_le_mul_right k hi
            rw [Nat.add_mul, Nat.one_mul] at hm2
            rw [List.getElem?_take, if_pos (by omega), List.getElem?_drop, Array.getElem?_toList, ← h5 j hj]
            congr 1
            omega
        · have hl0 : l.length = 0 := by omega
          refine ⟨[], by simp [hl0], ?_, fun i hi => by omega⟩
          rw [hl0]
          cases A with
          | none => exact run_firstCells_none w.drew i.size 0 0 c
          | some a => exact run_firstCells_some w.drew i.size 0 a 0 c [] (by simp) (fun j y hy => by simp at hy)
      have hcm := h.big
      have hrun := run_append_grow_src (P := P) w tt tt ty u i z ht hq z0 A l.length c olds ho2 (.slice (some ⟨p, 0, none⟩) xs.length xs.length) xs.length vs hS (by omega) (by omega) (growslice_fits (by omega) (by rw [z2]; have := Nat.mul_le_mul (show l.length + xs.length ≤ 1000000001 by omega) hb; omega))
      have hge := grownCap_ge w (l.length + xs.length) c u
      have hgm := grownCap_le_maxLen w (l.length + xs.length) c u (by unfold maxLen; omega)
      obtain ⟨cap, hcap⟩ : ∃ cap, cap = grownCap w (l.length + xs.length) c u := ⟨_, rfl⟩
      rw [← hcap] at hrun hge hgm
      have hb2 : Below w.heap.size w (w.drew.alloc (.cells ((olds ++ vs).toArray ++ Builtin.zeroCells z.cells (cap - (l.length + xs.length))) u)) := (Below.refl w.heap.size w).drew.alloc (Nat.le_refl _) _
      have hF2 : Fr T (paint T w.heap.size t) (fun c => c = t) w (w.drew.alloc (.cells ((olds ++ vs).toArray ++ Builtin.zeroCells z.cells (cap - (l.length + xs.length))) u)) := Fr.new hb2 t
      refine ⟨_, _, _, hrun, ⟨by rw [List.length_append]; exact hge, hgm, fun _ => ⟨w.heap.size, 0, _, rfl, row_alloc_at w.drew _ _ _ rfl, ?_, paint_new (Nat.le_refl _), fun i hi => ?_⟩⟩, hF2⟩
      · rw [Array.size_append, size_zeroCells, hz, List.size_toArray, List.length_append, ho1, hvl]
        have : cap * k = (l.length + xs.length) * k + (cap - (l.length + xs.length)) * k := by rw [← Nat.add_mul]; congr 1; omega
        rw [Nat.add_mul] at this
        omega
      · by_cases hlt : i < l.length
        · obtain ⟨ws, h4, h5⟩ := ho3 i hlt
          refine ⟨ws, by rw [List.getElem_append_left hlt]; exact hE.fr h4 hF2 (fun e => h0 e), fun j hj => ?_⟩
          have hm2 : (i + 1) * k ≤ l.length * k := Nat.mul_le_mul_right k hlt
          rw [Nat.add_mul, Nat.one_mul] at hm2
          rw [Nat.zero_add, Array.getElem?_append_left (by rw [List.size_toArray, List.length_append]; omega), List.getElem?_toArray, List.getElem?_append_left (by omega)]
          exact h5 j hj
        · have hi' : i < l.length + xs.length := by simpa using hi
          obtain ⟨ws, h4, h5⟩ := hx (i - l.length) (by omega)
          have hm3 : l.length * k + (i - l.length) * k = i * k := by rw [← Nat.add_mul]; congr 1; omega
          have hm2 : (i + 1) * k ≤ (l.length + xs.length) * k := Nat.mul_le_mul_right k hi'
          rw [Nat.add_mul, Nat.add_mul, Nat.one_mul] at hm2
          refine ⟨ws, by rw [List.getElem_append_right (by omega)]; exact hE.fr h4 hF2 (fun e => h0 e), fun j hj => ?_⟩
          rw [Nat.zero_add, Array.getElem?_append_left (by rw [List.size_toArray, List.length_append]; omega), List.getElem?_toArray, List.getElem?_append_right (by omega), ho1, show i * k + j - l.length * k = (i - l.length) * k + j by omega]
          exact h5 j hj
end
theorem wpl_appAts {α : Type} {k : Nat} {E : Mk → World → α → List Value → Prop} (hE : ElOk k E) {T : Mk} {w : World} {tg c : Nat} {A : Option Addr} {l : List α} {P : Program} {ops : Array Oper} {rest : List Oper} {o : Oper} {a : Act} {Q : Exit → Act → World → Prop} (hgd : o.guard = none) (s y : Operand) {t u : TypeId} {z : Value} {bytes : Nat}
    (ho : o.op = .call { callee := .builtin .append, args := #[s, y], argTypes := #[t, t] }) (ht : P.underlying t = some (.slice u)) (hi : (P.info? u).map (fun i => (i.zero, i.size, i.bytes)) = some (some z, k, bytes)) (hz : z.cells.size = k) (hk : 0 < k) (hb : bytes ≤ 1000)
    (hA : ElAt k E T w tg A c l) {p : Nat} {xs : List α} {vs : List Value} (hp : row w p = some vs.toArray) (hvl : vs.length = xs.length * k) (hx : ∀ i (h : i < xs.length), ∃ ws, E T w xs[i] ws ∧ ∀ j, j < k → vs[i * k + j]? = ws[j]?) (hm0 : 0 < xs.length) (hone : ∀ v ∈ vs, v.oneCell' = true) (hl : l.length + xs.length ≤ 1000000000) (h0 : 0 ≠ tg)
    (hv : a.eval s = .slice A l.length c) (hy : a.eval y = .slice (some ⟨p, 0, none⟩) xs.length xs.length)
    (h : ∀ A' c' w', ElAt k E (paint T w.heap.size tg) w' tg A' c' (l ++ xs) → Fr T (paint T w.heap.size tg) (fun c => c = tg) w w' → wpList P ops Q rest (a.put o.dst (.slice A' (l.length + xs.length) c')) w') : wpList P ops Q (o :: rest) a w := by
  refine wpList_plain hgd fun K hK => ?_
  obtain ⟨A', c', w', a1, a2, a3⟩ := run_appAts hE (ty := o.type) ht hi hz hk hb hA hp hvl hx hm0 hone hl h0
  unfold Oper.wp execOp
  simp only [ho, resolve, invoke, builtin, Sem.run_bind, Sem.run_pure, Result.andThen_ok, List.map_toArray, List.map_cons, List.map_nil, hv, hy, a1]
  exact hK _ _ (h A' c' w' a2 a3)
/-- records of the call's own, read -/
theorem ElAt.rcs {T : Mk} {w : World} {t : Nat} {A : Option Addr} {c : Nat} {l : List Rc} (h : ElAt 10 rcEl T w t A c l) : RcS w A l.length c (gt l) := by
  refine ⟨h.le, fun i hi => ?_⟩
  obtain ⟨g, o, cur, e, hr, hs, hT, hel⟩ := h.at_ (by have := h.le; omega)
  obtain ⟨vs, ⟨D, k, D', k', rfl, h1, h2⟩, h3⟩ := hel i hi
  have hg : gt l i = l[i] := by simp [gt, hi]
  rw [hg]
  exact ⟨g, o, D, k, D', k', e, row_lt hr, fun j hj => by rw [cell_row hr, h3 j hj, Array.getElem?_toList], ⟨h1.sl, h2.sl⟩⟩
/-- records without texts, without members: their cells, one behind the other -/
def bare (r : Rc) : Prop := r.e.T = 0 ∧ r.e.n = 0
theorem sl_none (w : World) (f : Bf) : Sl w w.heap.size none 0 0 f := ⟨Nat.le_refl _, fun h => absurd h (by omega)⟩
theorem enR_none (w : World) (e : En) (hT : e.T = 0) (hn : e.n = 0) : EnR w e none 0 none 0 := ⟨by rw [hT]; exact sl_none _ _, by rw [hn]; exact ⟨Nat.le_refl _, fun h => absurd h (by omega)⟩⟩
theorem rc_bare {r : Rc} (h : bare r) : rcC r nilS nilS = rcC r (.slice none r.e.T 0) (.slice none r.e.n 0) := by rw [h.1, h.2]
theorem rcEl_bare {T : Mk} {w : World} {r : Rc} (h : bare r) : rcEl T w r (rcC r nilS nilS).toList :=
  ⟨none, 0, none, 0, by rw [rc_bare h], ⟨(enR_none w r.e h.1 h.2).d, fun _ a ha => by cases ha⟩, ⟨(enR_none w r.e h.1 h.2).m, fun _ a ha => by cases ha⟩⟩
def litC : List Rc → List Value
  | [] => []
  | r :: l => (rcC r nilS nilS).toList ++ litC l
theorem litC_len : ∀ l : List Rc, (litC l).length = l.length * 10
  | [] => rfl
  | r :: l => by rw [litC, List.length_append, litC_len l, Array.length_toList, rc_size, List.length_cons]; omega
theorem litC_get : ∀ (l : List Rc) (i : Nat) (h : i < l.length) (j : Nat), j < 10 → (litC l)[i * 10 + j]? = (rcC l[i] nilS nilS).toList[j]?
  | r :: l, 0, h, j, hj => by rw [litC, List.getElem?_append_left (by rw [Array.length_toList, rc_size]; omega)]; simp
  | r :: l, i + 1, h, j, hj => by
    rw [litC, List.getElem?_append_right (by rw [Array.length_toList, rc_size]; omega), Array.length_toList, rc_size, show (i + 1) * 10 + j - 10 = i * 10 + j by omega]
    exact litC_get l i (by simpa using h) j hj
theorem litC_one : ∀ (l : List Rc), ∀ v ∈ litC l, v.oneCell' = true
  | [], v, hv => by cases hv
  | r :: l, v, hv => by
    rw [litC, List.mem_append] at hv
    rcases hv with hv | hv
    · exact (Array.all_eq_true_iff_forall_mem.1 (rc_ones r (D := nilS) (M := nilS) rfl rfl)) v (by simpa using hv)
    · exact litC_one l v hv
theorem litC_els {T : Mk} {w : World} {l : List Rc} (h : ∀ r, r ∈ l → bare r) (i : Nat) (hi : i < l.length) : ∃ ws, rcEl T w l[i] ws ∧ ∀ j, j < 10 → (litC l)[i * 10 + j]? = ws[j]? :=
  ⟨_, rcEl_bare (h _ (List.getElem_mem hi)), fun j hj => litC_get l i hi j hj⟩
theorem litC_rcs {w : World} {B : Nat} {l : List Rc} (hr : row w B = some (litC l).toArray) (h : ∀ r, r ∈ l → bare r) : RcS w (some ⟨B, 0, none⟩) l.length l.length (gt l) :=
  ⟨Nat.le_refl _, fun i hi => by
    have hb := h _ (List.getElem_mem hi)
    have hg : gt l i = l[i] := by simp [gt, hi]
    rw [hg]
    exact ⟨B, 0, none, 0, none, 0, rfl, row_lt hr, fun j hj => by rw [cell_row hr, ← rc_bare hb, List.getElem?_toArray, Nat.zero_add, litC_get l i hi j hj, Array.getElem?_toList], enR_none _ _ hb.1 hb.2⟩⟩
@[go_sem] theorem rcs_b3 (r1 r2 r3 : Rc) (w : World) : (bsA 43 3 #[(0, .agg (rcC r1 nilS nilS)), (1, .agg (rcC r2 nilS nilS)), (2, .agg (rcC r3 nilS nilS))]).run Tryz.prog w = .ok (.slice (some ⟨w.heap.size, 0, none⟩) 3 3) (w.alloc (.cells (litC [r1, r2, r3]).toArray 29)) :=
  bsA_of _ _ _ _ _ _ (by unfold litC litC litC litC rcC; kernel_rfl)
/-- the literals of the statements -/
def rHard (a b : Int) : Rc := ⟨1, 0, 0, 0, a, b, .zero⟩
def rEnt (i t : Int) : Rc := ⟨2, i, 0, 0, 0, 0, ⟨t, 0, 0, nF, 0, fun _ => 0⟩⟩
def rBase (i t n : Int) : Rc := ⟨3, i, t, n, 0, 0, .zero⟩
@[go_sem] theorem rc_bh (a b : Int) (w : World) : (bdA 29 #[(0, .int .i64 1), (4, .agg #[.int .i64 a, .int .i64 b])]).run Tryz.prog w = .ok (.agg (rcC (rHard a b) nilS nilS)) w := rc_bdu _ _ _ (by unfold rcC; kernel_rfl)
@[go_sem] theorem rc_be (i t : Int) (w : World) : (bdA 29 #[(0, .int .i64 2), (1, .int .i64 i), (5, .agg #[.int .i64 t, .int .i64 0, nilS, nilS])]).run Tryz.prog w = .ok (.agg (rcC (rEnt i t) nilS nilS)) w := rc_bdu _ _ _ (by unfold rcC; kernel_rfl)
@[go_sem] theorem rc_bb (i t n : Int) (w : World) : (bdA 29 #[(0, .int .i64 3), (1, .int .i64 i), (2, .int .i64 t), (3, .int .i64 n)]).run Tryz.prog w = .ok (.agg (rcC (rBase i t n) nilS nilS)) w := rc_bdu _ _ _ (by unfold rcC; kernel_rfl)
@[go_sem] theorem rc_bb0 (i t : Int) (w : World) : (bdA 29 #[(0, .int .i64 3), (1, .int .i64 i), (2, .int .i64 t)]).run Tryz.prog w = .ok (.agg (rcC (rBase i t 0) nilS nilS)) w := rc_bdu _ _ _ (by unfold rcC; kernel_rfl)
theorem ent11_any (i t : Int) (w : World) : Calls Tryz.prog 14 #[.int .i64 i, .int .i64 t] w fun e w' => e = .returned (.agg (rcC (rEnt i t) nilS nilS)) ∧ Below w.heap.size w w' := by
  obtain ⟨w1, hw1⟩ : ∃ w1, w1 = w.alloc (.cells (rcC .zero nilS nilS) 29) := ⟨_, rfl⟩
  have bw : Below w.heap.size w w1 := by rw [hw1]; exact (Below.refl _ _).alloc (Nat.le_refl _) _
  have rx : row w1 w.heap.size = some (rcC .zero nilS nilS) := by rw [hw1]; exact row_alloc_at _ _ _ _ rfl
  have B1 := Lib.hid bw
  have R1 := Lib.hid rx
  clear bw
  go_enter Tryz.func14, Tryz.ntmps14
  go_upto_region 1 with fail
  simp only [rc_lit0]
  simp only [← hw1]
  clear hw1
  go_wp2_with fail
  exact bodyPost_ret (v := .agg (rcC (rEnt i t) nilS nilS)) (res_c Tryz.results14 _ _ w.heap.size _ _ rfl (row_setRow R1.out _) Tryz.underlying29 rfl (by rw [rc_i, rc_size])) rfl ⟨rfl, below_setRow B1.out (Nat.le_refl _) _⟩
end Go.Proofs.YtdfcldomjjcidaaGreatDoor.Oct
