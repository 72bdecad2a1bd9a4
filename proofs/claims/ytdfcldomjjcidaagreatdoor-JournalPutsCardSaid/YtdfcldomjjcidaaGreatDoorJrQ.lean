/- Contracts: slices.Clone of ints; journal's lay. -/
import Derived.Test.YtdfcldomjjcidaaGreatDoorJrP
namespace Go.Proofs.YtdfcldomjjcidaaGreatDoor.Oct
open Go.ChangeShapes Go.WideShapes Go.ChangeAt Go.RowKit
set_option linter.unusedVariables false

theorem wpl_appAt {α : Type} {k : Nat} {E : Mk → World → α → List Value → Prop} (hE : ElOk k E) {T : Mk} {w : World} {tg c : Nat} {A : Option Addr} {l : List α} {P : Program} {ops : Array Oper} {rest : List Oper} {o : Oper} {a : Act} {Q : Exit → Act → World → Prop} (hgd : o.guard = none) (s y : Operand) {t u : TypeId} {z : Value} {bytes : Nat}
    (ho : o.op = .call { callee := .builtin .append, args := #[s, y], argTypes := #[t, t] }) (ht : P.underlying t = some (.slice u)) (hi : (P.info? u).map (fun i => (i.zero, i.size, i.bytes)) = some (some z, k, bytes)) (hz : z.cells.size = k) (hk : 0 < k) (hb : bytes ≤ 1000)
    (hA : ElAt k E T w tg A c l) {p : Nat} {x : α} {vs : List Value} (hp : row w p = some vs.toArray) (hx : E T w x vs) (hl : l.length ≤ 1000000000) (h0 : 0 ≠ tg)
    (hv : a.eval s = .slice A l.length c) (hy : a.eval y = .slice (some ⟨p, 0, none⟩) 1 1)
    (h : ∀ A' c' w', ElAt k E (paint T w.heap.size tg) w' tg A' c' (l ++ [x]) → Fr T (paint T w.heap.size tg) (fun c => c = tg) w w' → wpList P ops Q rest (a.put o.dst (.slice A' (l.length + 1) c')) w') : wpList P ops Q (o :: rest) a w := by
  refine wpList_plain hgd fun K hK => ?_
  obtain ⟨A', c', w', a1, a2, a3⟩ := run_appAt hE (ty := o.type) ht hi hz hk hb hA hp hx hl h0
  unfold Oper.wp execOp
  simp only [ho, resolve, invoke, builtin, Sem.run_bind, Sem.run_pure, Result.andThen_ok, List.map_toArray, List.map_cons, List.map_nil, hv, hy, a1]
  exact hK _ _ (h A' c' w' a2 a3)
theorem ints_info : (Tryz.prog.info? 3).map (fun i => (i.zero, i.size, i.bytes)) = some (some (.int .i64 0), 1, 8) := by kernel_rfl
/-- ints laid behind an empty row -/
theorem wpl_appI {P : Program} {w : World} {ops : Array Oper} {rest : List Oper} {o : Oper} {a : Act} {Q : Exit → Act → World → Prop} (hgd : o.guard = none) (s y : Operand) {t u : TypeId} {z : Value} (ho : o.op = .call { callee := .builtin .append, args := #[s, y], argTypes := #[t, t] })
    (ht : P.underlying t = some (.slice u)) (hi : (P.info? u).map (fun i => (i.zero, i.size, i.bytes)) = some (some z, 1, 8)) (hz : z.cells.size = 1)
    {base : Nat} {v : Value} (hown : w.ownsRow base u 1 v 0 []) (hbase : base ≤ w.heap.size) {ad : Addr} {m c : Nat} {V : Nat → Value} (hs : SlG w w.heap.size (some ad) m c V) (h1 : ∀ i, i < m → (V i).oneCell' = true) (hm : m * 8 ≤ 140737488355328)
    (hv : a.eval s = v) (hy : a.eval y = .slice (some ad) m c)
    (h : ∀ v' w', w'.ownsRow base u 1 v' m ((List.range m).map V) → w.grownBy w' v.ownBlock → (v'.ownBlock = v.ownBlock ∨ v'.ownBlock = some w.heap.size) → wpList P ops Q rest (a.put o.dst v') w') : wpList P ops Q (o :: rest) a w := by
  refine wpList_plain hgd fun K hK => ?_
  cases hq : P.info? u with
  | none => rw [hq] at hi; cases hi
  | some i =>
    rw [hq] at hi
    have h0 : (i.zero, i.size, i.bytes) = (some z, 1, 8) := Option.some.inj hi
    simp only [Prod.mk.injEq] at h0
    obtain ⟨z0, z1, z2⟩ := h0
    obtain ⟨v', w', a1, a2, a3, _, a5⟩ := run_append_own_at (P := P) w base t o.type u i z 1 8 ht hq z0 z1 z2 hz (by decide) v 0 [] hown ad m c ((List.range m).map V) (by simp)
      (fun j x hx => by
        have hj : j < m := by have := (List.getElem?_eq_some_iff.1 hx).1; simpa using this
        obtain ⟨g, o, e, -, hc⟩ := hs.at_ (by omega)
        cases e
        rw [add_mid, hc j hj]
        simpa [hj] using hx)
      (fun x hx => by obtain ⟨j, hj, rfl⟩ := List.mem_map.1 hx; exact h1 j (by simpa using hj)) (by unfold maxLen; omega) (by omega) hbase
    unfold Oper.wp execOp
    simp only [ho, resolve, invoke, builtin, Sem.run_bind, Sem.run_pure, Result.andThen_ok, List.map_toArray, List.map_cons, List.map_nil, hv, hy, a1]
    rw [Nat.zero_add, List.nil_append] at a2
    exact hK _ _ (h v' w' a2 a3 a5)
set_option maxHeartbeats 1000000 in
theorem iclone_any (n c : Nat) (A : Option Addr) (x : Nat → Int) (w : World) (hs : SlG w w.heap.size A n c (iV x)) (hn : n * 8 ≤ 140737488355328) :
    Calls Tryz.prog 89 #[.slice A n c] w fun e w' => ∃ A' c', e = .returned (.slice A' n c') ∧ SlG w' w'.heap.size A' n c' (iV x) ∧ (∀ a, A' = some a → w.heap.size ≤ a.block) ∧ Below w.heap.size w w' := by
  have HS := Lib.hid hs
  go_enter Tryz.func89, Tryz.ntmps89
  cases A with
  | none =>
    have h0 : n = 0 := by
      rcases Nat.eq_zero_or_pos n with h | h
      · exact h
      · obtain ⟨_, _, e, _⟩ := hs.at_ h; cases e
    subst h0
    clear hs
    have qT := fun (w : World) (n c : Nat) => Lib.run_eql_slice_nil (P := Tryz.prog) w 25 3 none n c 0 0 ints_u
    go_wp2_with fail
    go_ret
    exact ⟨_, _, rfl, ⟨Nat.le_refl _, fun e => absurd e (by omega)⟩, fun a ha => (by cases ha), Below.refl _ _⟩
  | some a =>
    clear hs
    have qT := fun (w : World) (n c : Nat) => Lib.run_eql_slice_nil (P := Tryz.prog) w 25 3 (some a) n c 0 0 ints_u
    have B1 := (Below.refl w.heap.size w).alloc (Nat.le_refl _) (.cells #[] 3)
    have hb : w.heap.size ≤ (w.alloc (.cells #[] 3)).heap.size := by simp
    have S1 := Lib.hid ((HS.out.below B1).more hb)
    have O1 := Lib.hid (World.ownsRow_made (e := 3) (size := 1) w #[] 0 (Nat.le_refl _) (Nat.zero_le _) rfl)
    go_wp2_with (at_builtin; refine wpl_appI rfl (.tmp 5) (.tmp 6) rfl ints_u ints_info rfl O1.out hb S1.out (fun _ _ => rfl) hn rfl rfl ?_; intro v4 w4 ho4 hg4 ht4)
    have b4 := B1.grown hg4 hb (fun k hk => by simp [Value.ownBlock] at hk; omega)
    obtain ⟨A4, c4, hv4, hs4, -, hA4⟩ := ownsRow_slG ho4
    subst hv4
    go_ret
    refine ⟨A4, c4, rfl, hs4.congr fun i hi => by simp [nth, hi], fun a ha => ?_, b4⟩
    rcases hA4 with e | ⟨g, e, hg⟩
    · rw [e] at ha; cases ha
    · rw [e] at ha; cases ha; exact hg
/-- a state in block B; its entries in a row of the call's own -/
structure StAt (T : Mk) (w : World) (B : Nat) (s : St) : Prop where
  ex : ∃ A c, row w B = some (stC s (.slice A s.l.length c)) ∧ ElAt 4 enEl T w 1 A c s.l
  tB : T B = 2
abbrev Hst : Nat → Prop := fun m => m = 1 ∨ m = 2
/-- what a step ends in -/
def stP (T : Mk) (B : Nat) (o : Option St) (w : World) (e : Ending) (w' : World) : Prop := ∃ T', Fr T T' Hst w w' ∧ ((∃ s', o = some s' ∧ e = .returned (.tuple #[]) ∧ StAt T' w' B s') ∨ (o = none ∧ e = .panicked (pnE 110)))
def layS (s : St) (i : Int) (e : En) : Option St := if i ≤ s.i then some s else if (s.l.length : Int) < i - s.i - 1 then none else some { s with l := s.l.take (i - s.i - 1).toNat ++ [e] }
theorem ens_u : Tryz.prog.underlying 49 = some (.slice 27) := by kernel_rfl
theorem en_info : (Tryz.prog.info? 27).map (fun i => (i.zero, i.size, i.bytes)) = some (some (.agg #[.int .i64 0, .int .i64 0, nilS, nilS]), 4, 64) := by kernel_rfl
theorem st_set5 {w : World} {B : Nat} {s : St} {V : Value} (h : row w B = some (stC s V)) (l : List En) (V' : Value) : w.setCell ⟨B, 5, none⟩ V' = w.setRow B (stC { s with l := l } V') := by
  rw [setCell_row h]; unfold stC; rfl
set_option maxRecDepth 20000 in
set_option maxHeartbeats 4000000 in
theorem lay_any (T : Mk) (B : Nat) (s : St) (i : Int) (e : En) (A A' : Option Addr) (c c' : Nat) (w : World) (hS : StAt T w B s) (hE : EnR w e A c A' c') (hT : e.T ≤ 140737488355328) (hn : e.n * 8 ≤ 140737488355328)
    (hi : -4398046511104 ≤ i ∧ i ≤ 4398046511104) (hs : -4398046511104 ≤ s.i ∧ s.i ≤ 4398046511104) (hl : s.l.length ≤ 1000000) :
    Calls Tryz.prog 61 #[.pointer (some ⟨B, 0, none⟩), .int .i64 i, entV e.t e.k (.slice A e.T c) (.slice A' e.n c')] w (stP T B (layS s i e) w) := by
  obtain ⟨V, cV, hr, hel⟩ := hS.ex
  have HTB := Lib.hid hS.tB
  obtain ⟨w1, hw1⟩ : ∃ w1, w1 = w.alloc (.cells #[.int .i64 e.t, .int .i64 e.k, .slice A e.T c, .slice A' e.n c'] 27) := ⟨_, rfl⟩
  have bw : Below w.heap.size w w1 := by rw [hw1]; exact (Below.refl _ _).alloc (Nat.le_refl _) _
  have rx : row w1 w.heap.size = some #[.int .i64 e.t, .int .i64 e.k, .slice A e.T c, .slice A' e.n c'] := by rw [hw1]; exact row_alloc_at _ _ _ _ rfl
  have rB := carry bw hr
  have hBlt := row_lt hr
  have B1 := Lib.hid bw
  have RX := Lib.hid rx
  have RB := Lib.hid rB
  have HEL := Lib.hid hel
  have HR := Lib.hid hr
  have HE := Lib.hid hE
  obtain ⟨k0, k1, k2, k3, k4, k5⟩ := st_cells rB
  clear bw rx rB hel hr hE hS
  go_enter Tryz.func61, Tryz.ntmps61
  go_upto_region 1 with fail
  simp only [← hw1]
  clear hw1
  have w1' : IntKind.i64.wrap (i - s.i) = i - s.i := by rw [IntKind.wrap_i64]; omega
  have w2' : IntKind.i64.wrap (i - s.i - 1) = i - s.i - 1 := by rw [IntKind.wrap_i64]; omega
  by_cases h1 : i ≤ s.i
  · have hd : decide (i ≤ s.i) = true := by simp; omega
    have HL := Lib.hid (show layS s i e = some s by unfold layS; rw [if_pos h1])
    clear h1
    go_wp2_with fail
    refine bodyPost_ret (v := .tuple #[]) (results_none rfl _ _ _) rfl ⟨paint T w.heap.size 0, Fr.new B1.out 0, .inl ⟨s, HL.out, rfl, ⟨V, cV, RB.out, HEL.out.fr enEl_ok (Fr.new (H := fun _ => False) B1.out 0) (fun e => e) (fun e => e)⟩, by rw [paint_old hBlt]; exact HTB.out⟩⟩
  · have hd : decide (i ≤ s.i) = false := by simp; omega
    by_cases h2 : (s.l.length : Int) < i - s.i - 1
    · have hd2 : decide ((s.l.length : Int) < i - s.i - 1) = true := by simp; omega
      have HL := Lib.hid (show layS s i e = none by unfold layS; rw [if_neg h1, if_pos h2])
      clear h1 h2
      go_wp2_with fail
      exact ⟨rfl, paint T w.heap.size 0, Fr.new B1.out 0, .inr ⟨HL.out, rfl⟩⟩
    · have hd2 : decide ((s.l.length : Int) < i - s.i - 1) = false := by simp; omega
      obtain ⟨a, ha⟩ : ∃ a : Nat, i - s.i - 1 = (a : Int) := ⟨(i - s.i - 1).toNat, by omega⟩
      have hal : a ≤ s.l.length := by omega
      have HL := Lib.hid (show layS s i e = some { s with l := s.l.take a ++ [e] } by unfold layS; rw [if_neg h1, if_neg h2, ha]; rfl)
      rw [ha] at w2' hd2
      have e1 : i - s.i - 1 = (a : Int) := ha
      clear h1 h2 ha
      have hd3 : decide (s.l.length < a) = false := by simp; omega
      go_upto_region 5 with fail
      clear k0 k1 k2 k3 k4 k5 w1' w2' hd hd2 hd3 e1
      refine flow_seen [([0, 1, 3, 4], 2, false), ([6], 5, false), ([], 7, true), ([8], 9, true)] [] (by kernel_rfl) (by kernel_rfl) (fun _ _ _ _ _ h => h) fun Z => ?_
      have R2 := carry Z.below RX.out
      have Q2 := Lib.hid (carry Z.below RB.out)
      have B2 := Lib.hid (onto B1.out B1.out.size Z.below)
      have E2 := Lib.hid ((HE.out.below B1.out).below Z.below)
      obtain ⟨w2, hw2⟩ : ∃ w2, w2 = Z.val := ⟨_, rfl⟩
      rw [← hw2] at R2 Q2 B2 E2 ⊢
      clear hw2 Z RX RB B1
      have RX2 := Lib.hid R2
      have hz1 : w.heap.size < w2.heap.size := row_lt R2
      have cc := fun x : After w2 => cells4 (After.row R2 x)
      have H1 := Lib.hid (clone_any e.T c A e.f w2 E2.out.d hT)
      simp only [wpFs, pk, List.getElem?_cons_zero, List.getElem?_cons_succ]
      repeat (go_big_quiet_step (fail))
      refine wpQuiet_nil ?_
      clear cc R2
      go_wp2_with fail
      refine H1.out.mono ?_
      rintro e3 w3 ⟨v3, rfl, ho3, hb3⟩
      obtain ⟨A3, c3, hv3, hs3, -, hA3⟩ := ho3.sl
      subst hv3
      have N3 := Lib.hid (show Nw w2.heap.size e.T A3 from fun k hk => off_own ho3 hk)
      have S3 := Lib.hid hs3
      have RX3 := Lib.hid (carry hb3 RX2.out)
      have Q3 := Lib.hid (carry hb3 Q2.out)
      have B3 := Lib.hid (onto B2.out B2.out.size hb3)
      have hz2 := hb3.size
      have H2 := Lib.hid (iclone_any e.n c' A' e.x w3 ((E2.out.m.below hb3).more hb3.size) hn)
      clear ho3 hs3 hA3 RX2 Q2 H1
      go_wp2_with fail
      refine ⟨.inr hb3, ?_⟩
      clear hb3
      show wpQuiet _ _ _ _ _ _
      repeat (go_big_quiet_step (fail))
      refine wpQuiet_nil ?_
      go_wp2_with fail
      refine H2.out.mono ?_
      rintro e4 w4 ⟨A4, c4, rfl, hs4, hA4, hb4⟩
      have N4 := Lib.hid hA4
      have S4 := Lib.hid hs4
      have S3' := Lib.hid ((S3.out.below hb4).more hb4.size)
      have RX4 := Lib.hid (carry hb4 RX3.out)
      have Q4 := Lib.hid (carry hb4 Q3.out)
      have B4 := Lib.hid (onto B3.out B3.out.size hb4)
      have hz3 := hb4.size
      obtain ⟨j0, j1, j2, j3⟩ := cells4 RX4.out
      have y2 := froz_row RX4.out 2
      have y3 := froz_row RX4.out 3
      clear hs4 hA4 H2 S3 RX3 Q3 B3 E2
      go_wp2_with fail
      first | refine ⟨.inr hb4, ?_⟩ | refine ⟨.inl trivial, ?_⟩
      clear hb4
      show wpQuiet _ _ _ _ _ _
      repeat (go_big_quiet_step (fail))
      refine wpQuiet_nil ?_
      go_wp2_with fail
      refine ⟨.inl trivial, ?_⟩
      show wpQuiet _ _ _ _ _ _
      repeat (go_big_quiet_step (fail))
      refine wpQuiet_nil ?_
      go_wp2_with fail
      refine ⟨.inl trivial, ?_⟩
      show wpQuiet _ _ _ _ _ _
      refine wpQuiet_nil ?_
      have hset : (w4.setCell ⟨w.heap.size, 2, none⟩ (.slice A3 e.T c3)).setCell ⟨w.heap.size, 3, none⟩ (.slice A4 e.n c4) = w4.setRow w.heap.size #[.int .i64 e.t, .int .i64 e.k, .slice A3 e.T c3, .slice A4 e.n c4] := by
        rw [setCell_row RX4.out, setCell_row (row_setRow RX4.out _), setRow_setRow]; rfl
      rw [hset]
      have hP : Put w.heap.size #[.int .i64 e.t, .int .i64 e.k, .slice A3 e.T c3, .slice A4 e.n c4] w4 (w4.setRow w.heap.size #[.int .i64 e.t, .int .i64 e.k, .slice A3 e.T c3, .slice A4 e.n c4]) := Put.of (Below.refl _ _) (row_lt RX4.out) _
      obtain ⟨w5, hw5⟩ : ∃ w5, w5 = w4.setRow w.heap.size #[.int .i64 e.t, .int .i64 e.k, .slice A3 e.T c3, .slice A4 e.n c4] := ⟨_, rfl⟩
      rw [← hw5] at hP ⊢
      have B5 := Lib.hid (show Below w.heap.size w w5 by rw [hw5]; exact below_setRow B4.out (Nat.le_refl _) _)
      have X5 := Lib.hid (show row w5 w.heap.size = some #[.int .i64 e.t, .int .i64 e.k, .slice A3 e.T c3, .slice A4 e.n c4] by rw [hw5]; exact row_setRow RX4.out _)
      have Q5 := Lib.hid (hP.other (by omega) Q4.out)
      obtain ⟨T5, hT5⟩ : ∃ T5, T5 = paint T w.heap.size 0 := ⟨_, rfl⟩
      have F5 : Fr T T5 (fun _ => False) w w5 := by rw [hT5]; exact Fr.new B5.out 0
      have EL5 := Lib.hid (HEL.out.fr enEl_ok F5 (fun e => e) (fun e => e))
      have EN5 := Lib.hid (show enEl T5 w5 e [.int .i64 e.t, .int .i64 e.k, .slice A3 e.T c3, .slice A4 e.n c4] from ⟨A3, c3, A4, c4, rfl,
        ⟨(hP.sl S3'.out (Nat.le_refl _) (N3.out _ hz1)).more hP.size, fun hn a ha => by
          rw [hT5]
          refine paint_new ?_
          by_cases h : w.heap.size ≤ a.block
          · exact h
          · exact absurd rfl (N3.out a.block (by omega) hn a ha)⟩,
        ⟨(hP.slG S4.out (Nat.le_refl _) (fun a ha => by have := N4.out a ha; omega)).more hP.size, fun hn a ha => by rw [hT5]; exact paint_new (by have := N4.out a ha; omega)⟩⟩)
      have hB5 : T5 B = 2 := by rw [hT5, paint_old hBlt]; exact HTB.out
      have HT5 := Lib.hid hT5
      have FF5 := Lib.hid F5
      clear hset hw5 hP F5 hT5 S3' S4 N3 N4 RX4 Q4 B4 j0 j1 j2 j3 y2 y3 HEL HE B2 hz2 hz3
      go_upto_region 6 with fail
      refine flow_frees [0, 1, 5] [([2, 3, 4, 6, 7], 8, false), ([], 9, true), ([10, 11], 12, true)] [] (by kernel_rfl) (by kernel_rfl) (fun _ _ _ _ _ h => h) ?_
      have hne : Nonempty (In (fun _ => True)) := ⟨⟨w5, trivial⟩⟩
      simp only [pk, List.getElem?_cons_zero, List.getElem?_cons_succ]
      repeat (go_big_quiet_step (fail))
      refine wpQuiet_nil ?_
      clear hne
      intro Z
      have R6 := carry Z.below X5.out
      have Q6 := carry Z.below Q5.out
      have B6 := Lib.hid (onto B5.out B5.out.size Z.below)
      have F6 : Fr T5 T5 (fun _ => False) w5 Z.val := Fr.calm Z.below fun _ _ => rfl
      have EL6 := Lib.hid (EL5.out.fr enEl_ok F6 (fun e => e) (fun e => e))
      have EN6 := Lib.hid (enEl_ok.fr EN5.out F6 (fun e => e))
      have FF6 := Lib.hid (FF5.out.trans F6)
      obtain ⟨w6, hw6⟩ : ∃ w6, w6 = Z.val := ⟨_, rfl⟩
      rw [← hw6] at R6 Q6 B6 EL6 EN6 FF6 ⊢
      clear hw6 Z F6 X5 Q5 B5 EL5 EN5 FF5
      have QQ6 := Lib.hid Q6
      have cc := fun x : After w6 => cells4 (After.row R6 x)
      have dd := fun x : After w6 => st_cells (After.row Q6 x)
      have hcap : a ≤ cV := by have := EL6.out.le; omega
      have qu := fun w => run_uptoJ (P := Tryz.prog) (t := 49) (u := 27) (m := 4) (by kernel_rfl) (by kernel_rfl) V s.l.length cV a hcap w
      simp only [wpFs, pk, List.getElem?_cons_zero, List.getElem?_cons_succ]
      repeat (go_big_quiet_step (fail))
      refine wpQuiet_nil ?_
      clear cc dd R6
      go_wp2_with fail
      have bx := (Below.refl w6.heap.size w6).alloc (Nat.le_refl _) (.cells #[.int .i64 e.t, .int .i64 e.k, .slice A3 e.T c3, .slice A4 e.n c4] 27)
      refine ⟨.inr bx, ?_⟩
      have F7 : Fr T5 T5 (fun _ => False) w6 (w6.alloc (.cells #[.int .i64 e.t, .int .i64 e.k, .slice A3 e.T c3, .slice A4 e.n c4] 27)) := Fr.calm bx fun _ _ => rfl
      have r7 : row (w6.alloc (.cells #[.int .i64 e.t, .int .i64 e.k, .slice A3 e.T c3, .slice A4 e.n c4] 27)) w6.heap.size = some ([.int .i64 e.t, .int .i64 e.k, .slice A3 e.T c3, .slice A4 e.n c4] : List Value).toArray := row_alloc_at _ _ _ _ rfl
      have EL7 := (EL6.out.fr enEl_ok F7 (fun e => e) (fun e => e)).upto a hal
      have hla := EL7.1
      have EL7' := Lib.hid EL7.2
      have EN7 := Lib.hid (enEl_ok.fr EN6.out F7 (fun e => e))
      have FF7 := Lib.hid (FF6.out.trans F7)
      have Q7 := Lib.hid (carry bx Q6)
      have B7 := Lib.hid (onto B6.out B6.out.size bx)
      have z6 : w6.heap.size < (w6.alloc (.cells #[.int .i64 e.t, .int .i64 e.k, .slice A3 e.T c3, .slice A4 e.n c4] 27)).heap.size := by simp
      have hl7 : (s.l.take a).length ≤ 1000000000 := by omega
      clear F7 EL7 bx EL6 EN6 FF6 B6 Q6 QQ6
      show wpQuiet _ _ _ _ _ _
      refine wpQuiet_nil ?_
      refine wpl_appAt enEl_ok rfl (.tmp 42) (.tmp 44) rfl ens_u en_info rfl (by decide) (by decide) EL7'.out r7 EN7.out hl7 (by decide) (by simp [Act.eval, hla]) (by simp [Act.eval]) ?_
      intro A8 c8 w8 hel8 hf8
      go_wp2_with fail
      first | refine ⟨.inl trivial, ?_⟩ | skip
      have Q8 := hf8.rowAt Q7.out (by show ¬ T5 B = 1; rw [hB5]; decide)
      have y8 := froz_row Q8 5
      have k8 : w8.cell? ⟨B, 5, none⟩ = some (.slice V s.l.length cV) := (st_cells Q8).2.2.2.2.2
      have HEL8 := Lib.hid hel8
      have HF8 := Lib.hid hf8
      clear hel8 hf8 r7
      show wpQuiet _ _ _ _ _ _
      repeat (go_big_quiet_step (fail))
      refine wpQuiet_nil ?_
      go_wp2_with fail
      first | refine ⟨.inl trivial, ?_⟩ | skip
      show wpQuiet _ _ _ _ _ _
      refine wpQuiet_nil ?_
      go_wp2_with fail
      obtain ⟨w7, hw7⟩ : ∃ w7, w7 = w6.alloc (.cells #[.int .i64 e.t, .int .i64 e.k, .slice A3 e.T c3, .slice A4 e.n c4] 27) := ⟨_, rfl⟩
      rw [← hw7] at HEL8 HF8 FF7
      obtain ⟨T8, hT8⟩ : ∃ T8, T8 = paint T5 w7.heap.size 1 := ⟨_, rfl⟩
      rw [← hT8] at HEL8 HF8
      have hB8 : T8 B = 2 := by rw [HF8.out.tag B (by rw [hw7]; have := B7.out.size; omega)]; exact hB5
      rw [st_set5 Q8 (s.l.take a ++ [e])]
      have hlen : (s.l.take a ++ [e]).length = a + 1 := by rw [List.length_append, hla]; rfl
      have F9 : Fr T8 T8 (fun m => m = 2) w8 (w8.setRow B (stC { s with l := s.l.take a ++ [e] } (.slice A8 (a + 1) c8))) := Fr.row hB8 _
      go_end0
      refine ⟨T8, ((FF7.out.mono (fun _ h => h.elim)).trans (HF8.out.mono (fun _ h => .inl h))).trans (F9.mono fun _ h => .inr h), .inl ⟨_, HL.out, rfl, ⟨A8, c8, ?_, HEL8.out.fr enEl_ok F9 (by decide) (by decide)⟩, hB8⟩⟩
      show row _ B = some (stC { s with l := s.l.take a ++ [e] } (.slice A8 (s.l.take a ++ [e]).length c8))
      rw [hlen]
      exact row_setRow Q8 _
end Go.Proofs.YtdfcldomjjcidaaGreatDoor.Oct
