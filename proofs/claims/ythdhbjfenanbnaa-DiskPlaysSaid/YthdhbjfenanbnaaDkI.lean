/- Contracts: slices.Clone of changes, disk's file's clone. -/
import Derived.Test.YthdhbjfenanbnaaDkH
namespace Go.Proofs.Ythdhbjfenanbnaa.Oct
open Go.ChangeShapes Go.WideShapes Go.ChangeAt Go.RowKit
set_option linter.unusedVariables false

/-- the cells of a slice of structs, one behind the other -/
theorem ElSl.cells {k : Nat} {E : Mk → World → Ch → List Value → Prop} (hE : ElOk k E) (hk : 0 < k) {T : Mk} {w : World} {t : Nat} {a : Addr} {c : Nat} {l : List Ch} (h : ElSl k E T w t (some a) c l) :
    ∃ xs : List Value, xs.length = l.length * k ∧ (∀ j u, xs[j]? = some u → w.cell? (a.add j) = some u) ∧ (∀ u ∈ xs, u.oneCell' = true) ∧ ∀ i (h : i < l.length), ∃ vs, E T w l[i] vs ∧ ∀ j, j < k → xs[i * k + j]? = vs[j]? := by
  rcases Nat.eq_zero_or_pos l.length with h0 | h0
  · exact ⟨[], by rw [h0]; simp, (fun j u hu => by simp at hu), (fun u hu => absurd hu (by simp)), (fun i hi => absurd hi (by omega))⟩
  obtain ⟨g, o, e, hg, hT, hc⟩ := h.at_ h0
  cases e
  have key : ∀ j, j < l.length * k → ∃ u, w.cell? ⟨g, o + j, none⟩ = some u ∧ u.oneCell' = true := fun j hj => by
    have hi : j / k < l.length := Nat.div_lt_of_lt_mul (by rw [Nat.mul_comm]; exact hj)
    obtain ⟨vs, h1, h2⟩ := hc (j / k) hi
    have hr := Nat.mod_lt j hk
    have e := h2 (j % k) hr
    have hl := hE.len h1
    rw [List.getElem?_eq_getElem (by omega)] at e
    rw [Nat.add_assoc, show j / k * k + j % k = j by rw [Nat.mul_comm]; exact Nat.div_add_mod j k] at e
    exact ⟨_, e, hE.one h1 _ (List.getElem_mem _)⟩
  refine ⟨(List.range (l.length * k)).map fun j => (w.cell? ⟨g, o + j, none⟩).getD undef, by simp, fun j u hu => ?_, fun u hu => ?_, fun i hi => ?_⟩
  · rw [List.getElem?_map] at hu
    by_cases hj : j < l.length * k
    · obtain ⟨u', h1, h2⟩ := key j hj
      rw [List.getElem?_range hj] at hu
      simp only [Option.map_some, h1, Option.getD_some, Option.some.injEq] at hu
      rw [add_mid, h1, hu]
    · rw [List.getElem?_eq_none (by simp; omega)] at hu
      cases hu
  · simp only [List.mem_map, List.mem_range] at hu
    obtain ⟨j, hj, rfl⟩ := hu
    obtain ⟨u', h1, h2⟩ := key j hj
    rw [h1]; exact h2
  · obtain ⟨vs, h1, h2⟩ := hc i hi
    refine ⟨vs, h1, fun j hj => ?_⟩
    have hlt : i * k + j < l.length * k := by
      have := Nat.mul_le_mul_right k (show i + 1 ≤ l.length by omega)
      rw [Nat.add_mul] at this
      omega
    rw [List.getElem?_map, List.getElem?_range hlt]
    have e := h2 j hj
    obtain ⟨u', h3, _⟩ := key (i * k + j) hlt
    rw [Nat.add_assoc] at e
    simp only [Option.map_some, h3, Option.getD_some]
    rw [← e, h3]
theorem wpl_appXs {P : Program} {w : World} {ops : Array Oper} {rest : List Oper} {o : Oper} {a : Act} {Q : Exit → Act → World → Prop} (hgd : o.guard = none) (s y : Operand) {t u : TypeId} {z : Value} {k bytes : Nat} (ho : o.op = .call { callee := .builtin .append, args := #[s, y], argTypes := #[t, t] })
    (ht : P.underlying t = some (.slice u)) (hi : (P.info? u).map (fun i => (i.zero, i.size, i.bytes)) = some (some z, k, bytes)) (hz : z.cells.size = k) (hk : 0 < k) (hb : bytes ≤ 64)
    {base : Nat} {v : Value} (hown : w.ownsRow base u k v 0 []) {ad : Addr} {m c : Nat} {vs : List Value} (hl : vs.length = m * k) (hc : ∀ j x, vs[j]? = some x → w.cell? (ad.add j) = some x) (h1 : ∀ x ∈ vs, x.oneCell' = true) (hn : m ≤ 1000000000000) (hbase : base ≤ w.heap.size)
    (hv : a.eval s = v) (hy : a.eval y = .slice (some ad) m c)
    (h : ∀ v' w', w'.ownsRow base u k v' m vs → w.grownBy w' v.ownBlock → (v'.ownBlock = v.ownBlock ∨ v'.ownBlock = some w.heap.size) → wpList P ops Q rest (a.put o.dst v') w') : wpList P ops Q (o :: rest) a w := by
  refine wpList_plain hgd fun K hK => ?_
  cases hq : P.info? u with
  | none => rw [hq] at hi; cases hi
  | some i =>
    rw [hq] at hi
    have h0 : (i.zero, i.size, i.bytes) = (some z, k, bytes) := Option.some.inj hi
    simp only [Prod.mk.injEq] at h0
    obtain ⟨z0, z1, z2⟩ := h0
    obtain ⟨v', w', a1, a2, a3, _, a5⟩ := run_append_own_at (P := P) w base t o.type u i z k bytes ht hq z0 z1 z2 hz hk v 0 [] hown ad m c vs hl hc h1 (by unfold maxLen; omega) (by have := Nat.mul_le_mul (show 0 + m ≤ 1000000000000 by omega) hb; omega) hbase
    unfold Oper.wp execOp
    simp only [ho, resolve, invoke, builtin, Sem.run_bind, Sem.run_pure, Result.andThen_ok, List.map_toArray, List.map_cons, List.map_nil, hv, hy, a1]
    rw [Nat.zero_add, List.nil_append] at a2
    exact hK _ _ (h v' w' a2 a3 a5)
set_option maxHeartbeats 1000000 in
theorem cclone_any (T : Mk) (tp c n t : Nat) (A : Option Addr) (l : List Ch) (w : World) (hp : ElSl 2 chE T w tp A c l) (hn : n = l.length) (hl : l.length ≤ 1000000000000) :
    Calls Try.prog 43 #[.slice A n c] w fun e w' => ∃ v, e = .returned v ∧ ElOw 2 chE (paint T w.heap.size t) w' t 67 v l ∧ Below w.heap.size w w' := by
  subst hn
  have HP := Lib.hid hp
  go_enter Try.func43, Try.ntmps43
  cases A with
  | none =>
    have h0 : l.length = 0 := by
      rcases Nat.eq_zero_or_pos l.length with h | h
      · exact h
      · obtain ⟨_, _, e, _⟩ := hp.at_ h; cases e
    obtain rfl : l = [] := List.eq_nil_of_length_eq_zero h0
    clear hp
    have qT := fun (w : World) (n c : Nat) => Lib.run_eql_slice_nil (P := Try.prog) w 56 67 none n c 0 0 slc_u
    go_wp2_with fail
    go_ret
    exact ⟨_, rfl, ElOw.nil, Below.refl _ _⟩
  | some a =>
    clear hp
    have qT := fun (w : World) (n c : Nat) => Lib.run_eql_slice_nil (P := Try.prog) w 56 67 (some a) n c 0 0 slc_u
    have B1 := (Below.refl w.heap.size w).alloc (Nat.le_refl _) (.cells #[] 67)
    obtain ⟨xs, x1, x2, x3, x4⟩ := HP.out.cells chE_ok (by omega)
    have X2 := Lib.hid (show ∀ j x, xs[j]? = some x → (w.alloc (.cells #[] 67)).cell? (a.add j) = some x from fun j x hx => (B1.cell (World.block_lt_of_cell? w _ (x2 j x hx))).trans (x2 j x hx))
    have X3 := Lib.hid x3
    have X4 := Lib.hid x4
    have hb : w.heap.size ≤ (w.alloc (.cells #[] 67)).heap.size := by simp
    have O1 := Lib.hid (World.ownsRow_made (e := 67) (size := 2) w #[] 0 (Nat.le_refl _) (Nat.zero_le _) rfl)
    clear x2 x3 x4
    go_wp2_with (at_builtin; refine wpl_appXs rfl (.tmp 5) (.tmp 6) rfl slc_u chg_info rfl (by decide) (by decide) O1.out x1 X2.out X3.out hl hb rfl rfl ?_; intro v4 w4 ho4 hg4 ht4)
    have b4 := B1.grown hg4 hb (fun k hk => by simp [Value.ownBlock] at hk; omega)
    go_ret
    refine ⟨_, rfl, ⟨⟨xs, ?_, fun i hi => ?_⟩, fun g hg => paint_new ((World.ownsRow.lt ho4 g hg).1)⟩, b4⟩
    · refine ⟨ho4.1, ?_⟩
      rcases ho4.2 with hn | ⟨g, cap, cur, e, _, rest⟩
      · exact .inl hn
      · exact .inr ⟨g, cap, cur, e, Nat.zero_le _, rest⟩
    · obtain ⟨vs, h1, h2⟩ := X4.out i hi
      exact ⟨vs, chE_ok.fr h1 (Fr.new (T := T) (H := fun _ => False) b4 t) (fun e => e), h2⟩

theorem res_rowK {P : Program} {fn : Func} {p : Tmp} {ty : TypeId} (h : fn.results = #[.cell p ty]) (tmps : Array Value) (w : World) (b : Nat) (c : Array Value) (d : TypeDesc)
    (hp : tmps.getD p undef = .pointer (some ⟨b, 0, none⟩)) (hr : row w b = some c) (hu : P.underlying ty = some d) (hd : (match d with | .struct _ | .array _ _ => true | _ => false) = true) (hi : (P.info? ty).map (·.size) = some c.size) :
    (results fn tmps).run P w = .ok (.agg c) w := by
  obtain ⟨t', ht⟩ := row_is hr
  exact results_cell_row h tmps w b t' c (0, 0) d hp ht hu hd hi
set_option maxHeartbeats 2000000 in
theorem fclone_any (T : Mk) (td tp t1 t2 B o : Nat) (C : Array Value) (vd vp : Value) (s : By) (l : List Ch) (w : World) (hr : row w B = some C) (h1 : C[o]? = some vd) (h2 : C[o + 1]? = some vp)
    (hd : OwB T w td 5 vd s) (hp : ElOw 2 chE T w tp 67 vp l) (hok : Okc s l) (hl : l.length ≤ 1000000000000) :
    Calls Try.prog 24 #[.pointer (some ⟨B, o, none⟩)] w fun e w' => ∃ (T' : Mk) (vd' vp' : Value), e = .returned (.agg #[vd', vp']) ∧ (∀ k, k < w.heap.size → T' k = T k) ∧ Below w.heap.size w w' ∧ OwB T' w' t1 5 vd' s ∧ ElOw 2 chE T' w' t2 67 vp' l := by
  have hlen := hok.first
  have hM := maxF_eq
  obtain ⟨A1, c1, hv1, hr1, -⟩ := hd.rd
  obtain ⟨A2, c2, hv2, hp2, -⟩ := hp.sl
  subst hv1
  subst hv2
  have HR := Lib.hid hr
  have H1 := Lib.hid h1
  have H2 := Lib.hid h2
  have HD := Lib.hid hr1
  have HP := Lib.hid hp2
  clear hr h1 h2 hd hp hok hr1 hp2
  go_enter Try.func24, Try.ntmps24
  go_wp2_with fail
  have b0 : Below w.heap.size w (w.alloc (.cells #[.slice none 0 0, .slice none 0 0] 58)) := (Below.refl _ _).alloc (Nat.le_refl _) _
  have r0 := row_alloc_at w #[.slice none 0 0, .slice none 0 0] 58 w.heap.size rfl
  obtain ⟨w0, hw0⟩ : ∃ w0, w0 = w.alloc (.cells #[.slice none 0 0, .slice none 0 0] 58) := ⟨_, rfl⟩
  rw [← hw0] at b0 r0 ⊢
  clear hw0
  refine flow_seen [([0, 1, 2, 3, 5, 6, 7, 8], 4, false), ([], 9, true), ([10], 11, true)] [] (by kernel_rfl) (by kernel_rfl) (fun _ _ _ _ _ h => h) fun X => ?_
  have B1 := Lib.hid (onto b0 b0.size X.below)
  have Z1 := Lib.hid (carry X.below r0)
  have R1 := carry B1.out HR.out
  obtain ⟨w1, hw1⟩ : ∃ w1, w1 = X.val := ⟨_, rfl⟩
  rw [← hw1] at B1 R1 Z1 ⊢
  clear hw1 X b0 r0
  have e1 : ∀ y : After w1, y.val.cell? ⟨B, o, none⟩ = some (.slice A1 s.length c1) := fun y => by rw [cell_row (After.row R1 y)]; exact H1.out
  have e2 : ∀ y : After w1, y.val.cell? ⟨B, o + 1, none⟩ = some (.slice A2 l.length c2) := fun y => by rw [cell_row (After.row R1 y)]; exact H2.out
  simp only [wpFs, pk, List.getElem?_cons_zero, List.getElem?_cons_succ]
  repeat (go_big_quiet_step (fail))
  refine wpQuiet_nil ?_
  clear e1 e2
  have HC := Lib.hid (clone_any s.length c1 A1 (lf s) w1 ((HD.out.sl.below B1.out).more B1.out.size) (by omega))
  go_wp2_with fail
  refine HC.out.mono ?_
  rintro e w2 ⟨v2, rfl, o2, b2⟩
  have zz := B1.out.size
  have hz := row_lt Z1.out
  obtain ⟨T2, hT2⟩ : ∃ T2, T2 = paint (paint T w.heap.size (t1 + t2 + 1)) w1.heap.size t1 := ⟨_, rfl⟩
  have hTo : ∀ k, k < w.heap.size → T2 k = T k := fun k hk => by rw [hT2, paint_old (by omega), paint_old hk]
  have O2 := OwB.of_new (l := s) o2 rfl (fun _ _ => rfl) (paint T w.heap.size (t1 + t2 + 1)) t1
  rw [← hT2] at O2
  have B2 := Lib.hid (onto B1.out B1.out.size b2)
  have Z2 := Lib.hid (carry b2 Z1.out)
  have P2 := Lib.hid (HP.out.fr chE_ok (Fr.calm (T' := T2) (H := fun _ => False) B2.out hTo) (fun e => e) (fun e => e))
  have O2 := Lib.hid O2
  obtain ⟨A3, c3, hv3, -, -⟩ := O2.out.rd
  subst hv3
  clear HC o2 R1
  go_wp2_with fail
  first | refine ⟨.inr b2, ?_⟩ | refine ⟨b2, ?_⟩
  show wpQuiet _ _ _ _ _ _
  refine wpQuiet_nil ?_
  have HC := Lib.hid (cclone_any T2 tp c2 l.length t2 A2 l w2 P2.out rfl hl)
  go_wp2_with fail
  refine HC.out.mono ?_
  rintro e w3 ⟨v3, rfl, o3, b3⟩
  obtain ⟨A4, c4, hv4, -, -⟩ := o3.sl
  subst hv4
  have O3 := Lib.hid o3
  have Q3 := Lib.hid (O2.out.fr (Fr.new (H := fun _ => False) b3 t2) (fun e => e))
  have B3 := Lib.hid (onto B2.out B2.out.size b3)
  have Z3 := Lib.hid (carry b3 Z2.out)
  have z2 := B2.out.size
  have HTz := Lib.hid (show paint T2 w2.heap.size t2 w.heap.size = t1 + t2 + 1 from by rw [paint_old (Nat.lt_of_lt_of_le hz b2.size), hT2, paint_old hz, paint_new (Nat.le_refl _)])
  have HTo := Lib.hid (show ∀ k, k < w.heap.size → paint T2 w2.heap.size t2 k = T k from fun k hk => by rw [paint_old (by omega)]; exact hTo k hk)
  clear HC o3 O2 B2 Z2 P2 hTo hT2
  go_wp2_with fail
  first | refine ⟨.inl trivial, ?_⟩ | skip
  show wpQuiet _ _ _ _ _ _
  repeat (go_big_quiet_step (fail))
  refine wpQuiet_nil ?_
  have k0 : w3.cell? ⟨w.heap.size, 0, none⟩ = some (.slice none 0 0) := by rw [cell_row Z3.out]; rfl
  have k1 : w3.cell? ⟨w.heap.size, 1, none⟩ = some (.slice none 0 0) := by rw [cell_row Z3.out]; rfl
  have y0 := froz_row Z3.out 0
  have y1 := froz_row Z3.out 1
  go_wp2_with fail
  rw [set2 Z3.out]
  have f4 := Fr.row (T := paint T2 w2.heap.size t2) (w := w3) (H := fun y => y = t1 + t2 + 1) (B := w.heap.size) HTz.out #[.slice A3 s.length c3, .slice A4 l.length c4]
  have O4 := Lib.hid (O3.out.fr chE_ok f4 (by omega) (by omega))
  have Q4 := Lib.hid (Q3.out.fr f4 (by omega))
  have Z4 := Lib.hid (row_setRow Z3.out #[.slice A3 s.length c3, .slice A4 l.length c4])
  have B4 := Lib.hid (show Below w.heap.size w (w3.setRow w.heap.size #[.slice A3 s.length c3, .slice A4 l.length c4]) from below_setRow B3.out (Nat.le_refl _) _)
  obtain ⟨w4, hw4⟩ : ∃ w4, w4 = w3.setRow w.heap.size #[.slice A3 s.length c3, .slice A4 l.length c4] := ⟨_, rfl⟩
  rw [← hw4] at O4 Q4 Z4 B4 ⊢
  clear hw4 f4 k0 k1 y0 y1
  first | refine ⟨.inl trivial, ?_⟩ | skip
  show wpQuiet _ _ _ _ _ _
  refine wpQuiet_nil ?_
  go_wp2_with fail
  exact bodyPost_ret (v := .agg #[.slice A3 s.length c3, .slice A4 l.length c4]) (res_rowK Try.results24 _ _ w.heap.size _ _ rfl Z4.out Try.underlying58 rfl (by kernel_rfl)) rfl ⟨_, _, _, rfl, HTo.out, B4.out, Q4.out, O4.out⟩
end Go.Proofs.Ythdhbjfenanbnaa.Oct
