/- The reference's table of sessions; Contracts: New, at, Open of the reference. -/
import Derived.Test.YthokiohdeclmhaaSsT
namespace Go.Proofs.Ythokiohdeclmhaa.Oct
open Go.ChangeShapes Go.WideShapes Go.ChangeAt Go.RowKit Go.Maps
set_option linter.unusedVariables false

section
variable {α : Type} {k : Nat} {E : Mk → World → α → List Value → Prop} (hE : ElOk k E) {T T' T2 : Mk} {H : Nat → Prop} {w w' : World} {t : Nat} {A : Option Addr} {c : Nat} {l : List α}
include hE
/-- elements out of another row, laid behind an empty literal: a new row, or none; where it lies -/
theorem run_appNilS {P : Program} {ty u : TypeId} {tt : TypeId} {z : Value} {bytes : Nat} (ht : P.underlying tt = some (.slice u)) (hi : (P.info? u).map (fun i => (i.zero, i.size, i.bytes)) = some (some z, k, bytes)) (hz : z.cells.size = k) (hk : 0 < k) (hb : bytes ≤ 1000)
    (h : ElAt k E T w t A c l) (hl : l.length ≤ 1000000000) (p t' : Nat) :
    ∃ A' c' w', (Builtin.append_ #[tt, tt] ty #[.slice (some ⟨p, 0, none⟩) 0 0, .slice A l.length c]).run P w = .ok (.slice A' l.length c') w' ∧ ElAt k E (paint T w.heap.size t') w' t' A' c' l ∧ Below w.heap.size w w' ∧ ∃ q, A' = some ⟨q, 0, none⟩ := by
  cases hq : P.info? u with
  | none => rw [hq] at hi; cases hi
  | some i =>
    have hi0 := hi
    rw [hq] at hi
    have e0 : (i.zero, i.size, i.bytes) = (some z, k, bytes) := Option.some.inj hi
    simp only [Prod.mk.injEq] at e0
    obtain ⟨z0, z1, z2⟩ := e0
    by_cases hm0 : 0 < l.length
    · obtain ⟨vs, hvl, hx, hone, hSS⟩ := ElAt.src hE (P := P) ht (by rw [hq]; exact congrArg some z1) h hm0
      have hS := hSS i hq
      have hrun := run_append_grow_src (P := P) w tt tt ty u i z ht hq z0 (some ⟨p, 0, none⟩) 0 0 [] (run_firstCells_some w.drew i.size 0 ⟨p, 0, none⟩ 0 0 [] (by simp) (fun j y hy => by simp at hy)) (.slice A l.length c) l.length vs hS (by omega) (by omega) (growslice_fits (by omega) (by rw [z2]; have := Nat.mul_le_mul (show 0 + l.length ≤ 1000000001 by omega) hb; omega))
      have hge := grownCap_ge w (0 + l.length) 0 u
      have hgm := grownCap_le_maxLen w (0 + l.length) 0 u (by unfold maxLen; omega)
      obtain ⟨cap, hcap⟩ : ∃ cap, cap = grownCap w (0 + l.length) 0 u := ⟨_, rfl⟩
      rw [← hcap] at hrun hge hgm
      rw [Nat.zero_add] at hrun hge
      have hb2 : Below w.heap.size w (w.drew.alloc (.cells (([] ++ vs).toArray ++ Builtin.zeroCells z.cells (cap - l.length)) u)) := (Below.refl w.heap.size w).drew.alloc (Nat.le_refl _) _
      have hF2 : Fr T (paint T w.heap.size t') (fun _ => False) w (w.drew.alloc (.cells (([] ++ vs).toArray ++ Builtin.zeroCells z.cells (cap - l.length)) u)) := Fr.new hb2 t'
      refine ⟨_, _, _, hrun, ⟨hge, hgm, fun _ => ⟨w.heap.size, 0, _, rfl, row_alloc_at w.drew _ _ _ rfl, ?_, paint_new (Nat.le_refl _), fun i hi => ?_⟩⟩, hb2, _, rfl⟩
      · rw [Array.size_append, size_zeroCells, hz, List.size_toArray, List.nil_append, hvl]
        have : cap * k = l.length * k + (cap - l.length) * k := by rw [← Nat.add_mul]; congr 1; omega
        omega
      · obtain ⟨ws, h4, h5⟩ := hx i hi
        have hm2 : (i + 1) * k ≤ l.length * k := Nat.mul_le_mul_right k hi
        rw [Nat.add_mul, Nat.one_mul] at hm2
        refine ⟨ws, hE.fr h4 hF2 (fun e => e), fun j hj => ?_⟩
        rw [Nat.zero_add, List.nil_append, Array.getElem?_append_left (by rw [List.size_toArray]; omega), List.getElem?_toArray]
        exact h5 j hj
    · have hl0 : l = [] := List.eq_nil_of_length_eq_zero (by omega)
      subst hl0
      have hS : Src P i.size tt (.slice A 0 c) 0 [] w := by
        cases A with
        | none => exact ⟨.inl ⟨u, ht⟩, fun w' => rfl, run_firstCells_none w i.size 0 0 c, run_firstCells_none w.drew i.size 0 0 c, by simp, fun _ h => by cases h⟩
        | some a => exact Src.ofSlice w ht a 0 c [] (by simp) (fun j y hy => by simp at hy) (fun _ h => by cases h)
      have hrun := run_append_room_src (P := P) w tt tt ty u i ht hq p 0 0 0 (.slice A 0 c) 0 [] hS (by omega) (fun j hj => absurd hj (by simp)) (fun j hj => absurd hj (by simp))
      exact ⟨_, _, _, hrun, ElAt.empty _ _ _ _, Below.refl _ _, _, rfl⟩
end
theorem wpl_appNilS {α : Type} {k : Nat} {E : Mk → World → α → List Value → Prop} (hE : ElOk k E) {T : Mk} {w : World} {tg c : Nat} {A : Option Addr} {l : List α} {P : Program} {ops : Array Oper} {rest : List Oper} {o : Oper} {a : Act} {Q : Exit → Act → World → Prop} (hgd : o.guard = none) (s y : Operand) {t u : TypeId} {z : Value} {bytes : Nat}
    (ho : o.op = .call { callee := .builtin .append, args := #[s, y], argTypes := #[t, t] }) (ht : P.underlying t = some (.slice u)) (hi : (P.info? u).map (fun i => (i.zero, i.size, i.bytes)) = some (some z, k, bytes)) (hz : z.cells.size = k) (hk : 0 < k) (hb : bytes ≤ 1000)
    (hA : ElAt k E T w tg A c l) (hl : l.length ≤ 1000000000) (p t' : Nat)
    (hv : a.eval s = .slice (some ⟨p, 0, none⟩) 0 0) (hy : a.eval y = .slice A l.length c)
    (h : ∀ q c' w', ElAt k E (paint T w.heap.size t') w' t' (some ⟨q, 0, none⟩) c' l → Below w.heap.size w w' → wpList P ops Q rest (a.put o.dst (.slice (some ⟨q, 0, none⟩) l.length c')) w') : wpList P ops Q (o :: rest) a w := by
  refine wpList_plain hgd fun K hK => ?_
  obtain ⟨A', c', w', a1, a2, a3, q, rfl⟩ := run_appNilS hE (ty := o.type) ht hi hz hk hb hA hl p t'
  unfold Oper.wp execOp
  simp only [ho, resolve, invoke, builtin, Sem.run_bind, Sem.run_pure, Result.andThen_ok, List.map_toArray, List.map_cons, List.map_nil, hv, hy, a1]
  exact hK _ _ (h q c' w' a2 a3)
/-- nothing is laid behind them -/
theorem run_appNo {P : Program} {ty u : TypeId} {tt : TypeId} {k : Nat} (ht : P.underlying tt = some (.slice u)) (hi : (P.info? u).map (·.size) = some k) (q n c : Nat) (V : Option Addr) (cV : Nat) (hn : n ≤ c) (w : World) :
    (Builtin.append_ #[tt, tt] ty #[.slice (some ⟨q, 0, none⟩) n c, .slice V 0 cV]).run P w = .ok (.slice (some ⟨q, 0, none⟩) n c) w := by
  cases hq : P.info? u with
  | none => rw [hq] at hi; cases hi
  | some i =>
    have hS : Src P i.size tt (.slice V 0 cV) 0 [] w := by
      cases V with
      | none => exact ⟨.inl ⟨u, ht⟩, fun w' => rfl, run_firstCells_none w i.size 0 0 cV, run_firstCells_none w.drew i.size 0 0 cV, by simp, fun _ h => by cases h⟩
      | some a => exact Src.ofSlice w ht a 0 cV [] (by simp) (fun j y hy => by simp at hy) (fun _ h => by cases h)
    exact run_append_room_src (P := P) w tt tt ty u i ht hq q 0 n c (.slice V 0 cV) 0 [] hS (by omega) (fun j hj => absurd hj (by simp)) (fun j hj => absurd hj (by simp))
theorem wpl_appNo {w : World} {P : Program} {ops : Array Oper} {rest : List Oper} {o : Oper} {a : Act} {Q : Exit → Act → World → Prop} (hgd : o.guard = none) (s y : Operand) {t u : TypeId} {k : Nat}
    (ho : o.op = .call { callee := .builtin .append, args := #[s, y], argTypes := #[t, t] }) (ht : P.underlying t = some (.slice u)) (hi : (P.info? u).map (·.size) = some k) {q n c cV : Nat} {V : Option Addr} (hn : n ≤ c)
    (hv : a.eval s = .slice (some ⟨q, 0, none⟩) n c) (hy : a.eval y = .slice V 0 cV)
    (h : wpList P ops Q rest (a.put o.dst (.slice (some ⟨q, 0, none⟩) n c)) w) : wpList P ops Q (o :: rest) a w := by
  refine wpList_plain hgd fun K hK => ?_
  have a1 := run_appNo (P := P) (ty := o.type) ht hi q n c V cV hn w
  unfold Oper.wp execOp
  simp only [ho, resolve, invoke, builtin, Sem.run_bind, Sem.run_pure, Result.andThen_ok, List.map_toArray, List.map_cons, List.map_nil, hv, hy, a1]
  exact hK _ _ h
/-- one seat's cells within a row -/
theorem ElAt.seat {T : Mk} {w : World} {t : Nat} {A : Option Addr} {c : Nat} {l : List Se} (h : ElAt 6 seEl T w t A c l) {i : Nat} (hi : i < l.length) :
    ∃ g o cur A' c', A = some ⟨g, o, none⟩ ∧ Oct.row w g = some cur ∧ T g = t ∧ o + c * 6 ≤ cur.size ∧ RdS T w 0 A' (l[i]).T c' (l[i]).f ∧ w.cell? ⟨g, o + i * 6, none⟩ = some (.int .i64 (l[i]).id) ∧ w.cell? ⟨g, o + i * 6 + 1, none⟩ = some (.int .i64 (l[i]).q) ∧
      (∀ P t, ldR P t 4 w g (o + i * 6 + 2) (some cur) = .ok (repV (l[i]).c (l[i]).n (l[i]).m (.slice A' (l[i]).T c')) w) ∧ (∀ P t, ldR P t 6 w g (o + i * 6) (some cur) = .ok (seV l[i] (.slice A' (l[i]).T c')) w) := by
  have hle := h.le
  obtain ⟨g, o, cur, e, hr, hs, hT, hel⟩ := h.at_ (by omega)
  obtain ⟨vs, ⟨A', c', rfl, hrd⟩, hc⟩ := hel i hi
  have hm : (i + 1) * 6 ≤ c * 6 := Nat.mul_le_mul_right 6 (by omega)
  have g0 := hc 0 (by omega)
  have g1 := hc 1 (by omega)
  have g2 := hc 2 (by omega)
  have g3 := hc 3 (by omega)
  have g4 := hc 4 (by omega)
  have g5 := hc 5 (by omega)
  rw [Nat.add_zero] at g0
  refine ⟨g, o, cur, A', c', e, hr, hT, hs, hrd, by rw [cell_row hr]; exact g0, by rw [cell_row hr]; exact g1, fun P t => ?_, fun P t => ?_⟩
  · unfold ldR
    simp only [if_pos (show o + i * 6 + 2 + 4 ≤ cur.size by omega)]
    congr 2
    apply Array.ext_getElem?
    intro j
    rw [Array.getElem?_extract]
    match j with
    | 0 => rw [if_pos (by omega)]; exact g2
    | 1 => rw [if_pos (by omega)]; exact g3
    | 2 => rw [if_pos (by omega)]; exact g4
    | 3 => rw [if_pos (by omega)]; exact g5
    | j + 4 => rw [if_neg (by omega)]; rfl
  · unfold ldR
    simp only [if_pos (show o + i * 6 + 6 ≤ cur.size by omega)]
    congr 2
    apply Array.ext_getElem?
    intro j
    rw [Array.getElem?_extract]
    match j with
    | 0 => rw [if_pos (by omega)]; exact g0
    | 1 => rw [if_pos (by omega)]; exact g1
    | 2 => rw [if_pos (by omega)]; exact g2
    | 3 => rw [if_pos (by omega)]; exact g3
    | 4 => rw [if_pos (by omega)]; exact g4
    | 5 => rw [if_pos (by omega)]; exact g5
    | j + 6 => rw [if_neg (by omega)]; rfl
/-- the reference's table in block B -/
structure YtAt (T : Mk) (w : World) (t B : Nat) (A : Option Addr) (c : Nat) (l : List Se) (g : Int) : Prop where
  row : Oct.row w B = some #[.slice A l.length c, .int .i64 (g + 1)]
  tg : T B = t
  el : ElAt 6 seEl T w (t + 1) A c l
theorem YtAt.fr {T T' : Mk} {H : Nat → Prop} {w w' : World} {t B : Nat} {A : Option Addr} {c : Nat} {l : List Se} {g : Int} (h : YtAt T w t B A c l g) (hf : Fr T T' H w w') (h1 : ¬ H t) (h2 : ¬ H (t + 1)) (h0 : ¬ H 0) : YtAt T' w' t B A c l g :=
  ⟨hf.rowAt h.row (by rw [h.tg]; exact h1), by rw [hf.tag B (row_lt h.row)]; exact h.tg, h.el.fr seEl_ok hf h2 h0⟩
theorem rt_b1 (w : World) : (Instr.build 48 #[(1, .int .i64 1)]).run Try.prog w = .ok (.agg #[.slice none 0 0, .int .i64 1]) w := by kernel_rfl
set_option maxHeartbeats 1000000 in
theorem rnew15_any (T : Mk) (t : Nat) (w : World) : Calls Try.prog 10 #[] w fun e w' => ∃ B, e = .returned (.pointer (some ⟨B, 0, none⟩)) ∧ YtAt (paint T w.heap.size t) w' t B none 0 [] 0 ∧ Below w.heap.size w w' := by
  have bd := rt_b1
  go_enter Try.func10, Try.ntmps10
  go_wp2_with fail
  go_ret
  exact ⟨_, rfl, ⟨row_alloc_at _ _ _ _ rfl, paint_new (Nat.le_refl _), ElAt.nil _ _ _⟩, (Below.refl _ _).alloc (Nat.le_refl _) _⟩
set_option maxRecDepth 20000 in
set_option maxHeartbeats 4000000 in
/-- a session's place -/
theorem rat_any (T : Mk) (t B : Nat) (A : Option Addr) (c : Nat) (l : List Se) (g id : Int) (w : World) (hY : YtAt T w t B A c l g) (hl : l.length < 1000) :
    Calls Try.prog 29 #[.pointer (some ⟨B, 0, none⟩), .int .i64 id] w fun e w' => w' = w ∧ ((∃ (i : Nat) (h : i < l.length), e = .returned (.int .i64 (i : Int)) ∧ (l[i]).id = id ∧ ∀ j (hj : j < i), (l[j]).id ≠ id) ∨ (e = .returned (.int .i64 (-1)) ∧ ∀ s ∈ l, s.id ≠ id)) := by
  have HY := Lib.hid hY
  clear hY
  go_enter Try.func29, Try.ntmps29
  go_wp2_with fail
  go_loopw [5] (fun iv wr => ∃ j : Nat, j ≤ l.length ∧ iv = .int .i64 (j : Int) ∧ wr = w ∧ ∀ i (h : i < l.length), i < j → (l[i]).id ≠ id) (fun iv _ => l.length - (intOf iv).toNat)
  case atStart => exact ⟨0, by omega, rfl, rfl, fun i _ h => absurd h (by omega)⟩
  case round =>
    obtain ⟨j, hj, rfl, rfl, hno⟩ := hrel
    have HN := Lib.hid hno
    clear hno
    obtain ⟨a0, a1⟩ := cells2S HY.out.row
    by_cases hlt : j < l.length
    · have hd : decide ((j : Int) < (l.length : Int)) = true := by simp; omega
      obtain ⟨gk, ok, cur, A', c', rfl, hr, -, -, -, b0, b1, -, -⟩ := HY.out.el.seat hlt
      have hle := HY.out.el.le
      have hw : IntKind.i64.wrap ((j : Int) + 1) = (j : Int) + 1 := IntWalk.i64_in _ (by omega)
      clear hr b1
      by_cases he : (l[j]).id = id
      · have hq : ((l[j]).id == id) = true := beq_iff_eq.2 he
        have HE := Lib.hid he
        clear he
        go_wp2_with fail
        go_ret
        exact ⟨rfl, .inl ⟨j, hlt, rfl, HE.out, fun i hi => HN.out i (by omega) hi⟩⟩
      · have hq : ((l[j]).id == id) = false := beq_eq_false_iff_ne.2 he
        have HE := Lib.hid he
        clear he
        go_wp2_with fail
        refine ⟨⟨j + 1, by omega, by rw [Int.natCast_succ], trivial, fun i hi hij => ?_⟩, ?_⟩
        · rcases Nat.lt_or_ge i j with h | h
          · exact HN.out i hi h
          · have : i = j := by omega
            subst this
            exact HE.out
        · simp only [intOf]
          omega
    · obtain rfl : j = l.length := by omega
      have hd : decide ((l.length : Int) < (l.length : Int)) = false := by simp
      go_wp2_with fail
      go_ret
      refine ⟨rfl, .inr ⟨rfl, fun s hs => ?_⟩⟩
      obtain ⟨i, hi, rfl⟩ := List.getElem_of_mem hs
      exact HN.out i hi hi
end Go.Proofs.Ythokiohdeclmhaa.Oct
