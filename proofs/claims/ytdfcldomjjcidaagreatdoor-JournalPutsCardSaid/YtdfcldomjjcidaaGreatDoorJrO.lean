/- Rows of records and of entries; Contract: journal's Scan. -/
import Derived.Test.YtdfcldomjjcidaaGreatDoorJrN
namespace Go.Proofs.YtdfcldomjjcidaaGreatDoor.Oct
open Go.ChangeShapes Go.WideShapes Go.ChangeAt Go.RowKit
set_option linter.unusedVariables false

/-- one-cell values that are read, in a block of mark t -/
structure RdG (T : Mk) (w : World) (t : Nat) (A : Option Addr) (n c : Nat) (V : Nat → Value) : Prop where
  sl : SlG w w.heap.size A n c V
  tg : 0 < n → ∀ a, A = some a → T a.block = t
theorem RdG.fr {T T' : Mk} {H : Nat → Prop} {w w' : World} {t : Nat} {A : Option Addr} {n c : Nat} {V : Nat → Value} (h : RdG T w t A n c V) (hf : Fr T T' H w w') (ht : ¬ H t) : RdG T' w' t A n c V := by
  refine ⟨⟨h.sl.le, fun hn => ?_⟩, fun hn a ha => ?_⟩
  · obtain ⟨g, o, e, hg, hc⟩ := h.sl.at_ hn
    have e1 := h.tg hn _ e
    refine ⟨g, o, e, Nat.lt_of_lt_of_le hg hf.size, fun i hi => ?_⟩
    rw [hf.cellAt hg (by simp only at e1; rw [e1]; exact ht)]
    exact hc i hi
  · obtain ⟨g, o, e, hg, hc⟩ := h.sl.at_ hn
    rw [e] at ha
    cases ha
    rw [hf.tag g hg]
    exact h.tg hn _ e
theorem RdG.re {T T2 : Mk} {w : World} {t t2 : Nat} {A : Option Addr} {n c : Nat} {V : Nat → Value} (h : RdG T w t A n c V) (ht : ∀ k, T k = t → T2 k = t2) : RdG T2 w t2 A n c V := ⟨h.sl, fun hn a ha => ht _ (h.tg hn a ha)⟩
/-- an entry's cells, a record's, in blocks that nobody writes -/
def enEl (T : Mk) (w : World) (e : En) (vs : List Value) : Prop := ∃ A c A' c', vs = [.int .i64 e.t, .int .i64 e.k, .slice A e.T c, .slice A' e.n c'] ∧ RdS T w 0 A e.T c e.f ∧ RdG T w 0 A' e.n c' (iV e.x)
def rcEl (T : Mk) (w : World) (r : Rc) (vs : List Value) : Prop := ∃ A c A' c', vs = (rcC r (.slice A r.e.T c) (.slice A' r.e.n c')).toList ∧ RdS T w 0 A r.e.T c r.e.f ∧ RdG T w 0 A' r.e.n c' (iV r.e.x)
theorem enEl_ok : ElOk 4 enEl where
  len := fun {T w x vs} h => by obtain ⟨A, c, A', c', rfl, -, -⟩ := h; rfl
  one := fun {T w x vs} h v hv => by
    obtain ⟨A, c, A', c', rfl, -, -⟩ := h
    simp only [List.mem_cons, List.not_mem_nil, or_false] at hv
    rcases hv with rfl | rfl | rfl | rfl <;> rfl
  fr := fun h hf ht => by
    obtain ⟨A, c, A', c', rfl, h1, h2⟩ := h
    exact ⟨A, c, A', c', rfl, h1.fr hf ht, h2.fr hf ht⟩
  re := fun h ht => by
    obtain ⟨A, c, A', c', rfl, h1, h2⟩ := h
    exact ⟨A, c, A', c', rfl, h1.re ht, h2.re ht⟩
theorem rcEl_ok : ElOk 10 rcEl where
  len := fun {T w x vs} h => by obtain ⟨A, c, A', c', rfl, -, -⟩ := h; rw [Array.length_toList, rc_size]
  one := fun {T w x vs} h v hv => by
    obtain ⟨A, c, A', c', rfl, -, -⟩ := h
    exact (Array.all_eq_true_iff_forall_mem.1 (rc_ones x (D := .slice A x.e.T c) (M := .slice A' x.e.n c') rfl rfl)) v (by simpa using hv)
  fr := fun h hf ht => by
    obtain ⟨A, c, A', c', rfl, h1, h2⟩ := h
    exact ⟨A, c, A', c', rfl, h1.fr hf ht, h2.fr hf ht⟩
  re := fun h ht => by
    obtain ⟨A, c, A', c', rfl, h1, h2⟩ := h
    exact ⟨A, c, A', c', rfl, h1.re ht, h2.re ht⟩
/-- records that are read -/
structure RcS (w : World) (A : Option Addr) (n c : Nat) (R : Nat → Rc) : Prop where
  le : n ≤ c
  at_ : ∀ i, i < n → ∃ g o D k D' k', A = some ⟨g, o, none⟩ ∧ g < w.heap.size ∧ (∀ j, j < 10 → w.cell? ⟨g, o + i * 10 + j, none⟩ = (rcC (R i) (.slice D (R i).e.T k) (.slice D' (R i).e.n k'))[j]?) ∧ EnR w (R i).e D k D' k'
theorem RcS.below {w w' : World} {A : Option Addr} {n c : Nat} {R : Nat → Rc} (h : RcS w A n c R) (hb : Below w.heap.size w w') : RcS w' A n c R :=
  ⟨h.le, fun i hi => by
    obtain ⟨g, o, D, k, D', k', e, hg, hc, he⟩ := h.at_ i hi
    exact ⟨g, o, D, k, D', k', e, Nat.lt_of_lt_of_le hg hb.size, fun j hj => by rw [hb.cell (p := ⟨g, o + i * 10 + j, none⟩) hg]; exact hc j hj, he.below hb⟩⟩
theorem RcS.upto {w : World} {A : Option Addr} {n c : Nat} {R : Nat → Rc} (h : RcS w A n c R) (m : Nat) (hm : m ≤ n) : RcS w A m c R := ⟨Nat.le_trans hm h.le, fun i hi => h.at_ i (by omega)⟩
theorem RcS.congr {w : World} {A : Option Addr} {n c : Nat} {R R' : Nat → Rc} (h : RcS w A n c R) (e : ∀ i, i < n → R i = R' i) : RcS w A n c R' := ⟨h.le, fun i hi => by rw [← e i hi]; exact h.at_ i hi⟩
theorem ElOw.rcs {T : Mk} {w : World} {t : Nat} {u : TypeId} {v : Value} {l : List Rc} (h : ElOw 10 rcEl T w t u v l) : ∃ A c, v = .slice A l.length c ∧ RcS w A l.length c (gt l) ∧ c ≤ maxLen := by
  obtain ⟨A, c, e, hs, hm⟩ := h.sl
  refine ⟨A, c, e, ⟨hs.le, fun i hi => ?_⟩, hm⟩
  obtain ⟨g, o, e2, hg, -, hc⟩ := hs.at_ (by omega)
  obtain ⟨vs, ⟨D, k, D', k', rfl, h1, h2⟩, h3⟩ := hc i hi
  have hgt : gt l i = l[i] := by simp [gt, hi]
  rw [hgt]
  exact ⟨g, o, D, k, D', k', e2, hg, fun j hj => by rw [h3 j hj, Array.getElem?_toList], ⟨h1.sl, h2.sl⟩⟩
theorem wpl_appSt {P : Program} {w : World} {ops : Array Oper} {rest : List Oper} {o : Oper} {a : Act} {Q : Exit → Act → World → Prop} (hgd : o.guard = none) (s y : Operand) {t u : TypeId} {z : Value} {k bytes : Nat} (ho : o.op = .call { callee := .builtin .append, args := #[s, y], argTypes := #[t, t] })
    (ht : P.underlying t = some (.slice u)) (hi : (P.info? u).map (fun i => (i.zero, i.size, i.bytes)) = some (some z, k, bytes)) (hz : z.cells.size = k) (hk : 0 < k) (hb : bytes ≤ 1000)
    {v : Value} {n : Nat} {xs : List Value} (hown : w.ownsRow 0 u k v n xs) {p : Nat} {vs : List Value} (hr : row w p = some vs.toArray) (hl : vs.length = k) (h1 : ∀ x ∈ vs, x.oneCell' = true) (hn : n ≤ 1000000000)
    (hv : a.eval s = v) (hy : a.eval y = .slice (some ⟨p, 0, none⟩) 1 1)
    (h : ∀ v' w', w'.ownsRow 0 u k v' (n + 1) (xs ++ vs) → w.grownBy w' v.ownBlock → (v'.ownBlock = v.ownBlock ∨ v'.ownBlock = some w.heap.size) → wpList P ops Q rest (a.put o.dst v') w') : wpList P ops Q (o :: rest) a w := by
  refine wpList_plain hgd fun K hK => ?_
  cases hq : P.info? u with
  | none => rw [hq] at hi; cases hi
  | some i =>
    rw [hq] at hi
    have h0 : (i.zero, i.size, i.bytes) = (some z, k, bytes) := Option.some.inj hi
    simp only [Prod.mk.injEq] at h0
    obtain ⟨z0, z1, z2⟩ := h0
    obtain ⟨v', w', a1, a2, a3, _, a5⟩ := run_append_own_at (P := P) w 0 t o.type u i z k bytes ht hq z0 z1 z2 hz hk v n xs hown ⟨p, 0, none⟩ 1 1 vs (by omega)
      (fun j x hx => by rw [add_mid, Nat.zero_add, cell_row hr, List.getElem?_toArray]; exact hx) h1 (by unfold maxLen; omega) (by have := Nat.mul_le_mul (show n + 1 ≤ 1000000001 by omega) hb; omega) (Nat.zero_le _)
    unfold Oper.wp execOp
    simp only [ho, resolve, invoke, builtin, Sem.run_bind, Sem.run_pure, Result.andThen_ok, List.map_toArray, List.map_cons, List.map_nil, hv, hy, a1]
    exact hK _ _ (h v' w' a2 a3 a5)
theorem rcs_u : Tryz.prog.underlying 43 = some (.slice 29) := by kernel_rfl
theorem rc_info : (Tryz.prog.info? 29).map (fun i => (i.zero, i.size, i.bytes)) = some (some (.agg (rcC .zero nilS nilS)), 10, 112) := by unfold rcC; kernel_rfl
/-- a literal of records keeps its name till its parts are known -/
def bsA (t : TypeId) (n : Nat) (parts : Array (Nat × Value)) : Sem Value := Instr.buildSlice t n parts
@[go_sem ↓] theorem rcs_bs (n : Nat) (parts : Array (Nat × Value)) : Instr.buildSlice 43 n parts = bsA 43 n parts := rfl
theorem bsA_of (t : TypeId) (n : Nat) (parts : Array (Nat × Value)) (w : World) (v : Value) (w' : World) (h : (Instr.buildSlice t n parts).run Tryz.prog w = .ok v w') : (bsA t n parts).run Tryz.prog w = .ok v w' := h
@[go_sem] theorem rcs_b1 (r : Rc) (D M : Value) (w : World) : (bsA 43 1 #[(0, .agg (rcC r D M))]).run Tryz.prog w = .ok (.slice (some ⟨w.heap.size, 0, none⟩) 1 1) (w.alloc (.cells (rcC r D M) 29)) :=
  bsA_of _ _ _ _ _ _ (by unfold rcC; kernel_rfl)
/-- what Scan ends in -/
def scP (n : Nat) (f : Bf) (w : World) (e : Ending) (w' : World) : Prop := Below w.heap.size w w' ∧ ∃ l A c, e = .returned (.tuple #[.slice A l.length c, .int .i64 (lnS l : Nat)]) ∧ ScR n f l ∧ RcS w' A l.length c (gt l)
theorem len_le : ∀ l : List Rc, 5 * l.length ≤ lnS l
  | [] => by simp
  | r :: l => by have := len_le l; have := pcL_pos r; simp only [List.length_cons, lnS]; omega
set_option maxRecDepth 20000 in
set_option maxHeartbeats 4000000 in
theorem scan_any (n c : Nat) (A : Option Addr) (f : Bf) (w : World) (ht : Tab w) (hs : Sl w w.heap.size A n c f) (hn : n ≤ 1000000) (hc : c ≤ maxLen) :
    Calls Tryz.prog 11 #[.slice A n c] w (scP n f w) := by
  have HS := Lib.hid hs
  have HT := Lib.hid ht
  clear hs ht
  go_enter Tryz.func11, Tryz.ntmps11
  go_wp2_with fail
  go_loopw [2, 3] (fun v sv wr => ∃ (T : Mk) (l : List Rc), sv = .int .i64 (lnS l : Nat) ∧ ElOw 10 rcEl T wr 1 29 v l ∧ StL n f l ∧ Below w.heap.size w wr ∧ (∀ k, k < w.heap.size → T k = 0)) (fun _ sv _ => n - (intOf sv).toNat)
  case atStart => exact ⟨fun _ => 0, [], rfl, ElOw.nil, trivial, Below.refl _ _, fun _ _ => rfl⟩
  case round =>
    obtain ⟨T, l, rfl, ho, hst, hb, hT⟩ := hrel
    obtain ⟨wo, rfl⟩ : ∃ wo : World, wo = wr := ⟨_, rfl⟩
    have hle := hst.le
    obtain ⟨L, hL⟩ : ∃ L, L = lnS l := ⟨_, rfl⟩
    rw [← hL] at hle ⊢
    have hLn : L ≤ n := hle
    have q1 := fun w => run_from (P := Tryz.prog) sli_u u8_i A n c L hLn w
    have HO := Lib.hid ho
    have HST := Lib.hid hst
    have HB := Lib.hid hb
    have HTT := Lib.hid hT
    have HL := Lib.hid hL
    have H1 := Lib.hid (first_any (n - L) (c - L) (cutA A c L) (offF f L) wo (HT.out.below hb HT.out.pos) ((((HS.out.below hb).from_ L hLn)).more hb.size) (by omega) (by omega))
    clear ho hst hb hT hle hL
    go_wp2_with fail
    refine H1.out.mono ?_
    rintro e w1 ⟨hb1, ⟨hk, v1, rfl, hG⟩ | ⟨hk, rfl⟩⟩
    · obtain ⟨A3, c3, A3', c3', rfl, he, hn3, hn3'⟩ := hG.ex
      obtain ⟨r, hr⟩ : ∃ r, r = fsR (offF f L) := ⟨_, rfl⟩
      rw [← hr] at he hn3 ⊢
      have hstand := fs_stands hk
      rw [← hr] at hstand
      have hpl := hstand.le
      have HSD := Lib.hid hstand
      obtain ⟨T1, hT1⟩ : ∃ T1, T1 = paint T wo.heap.size 0 := ⟨_, rfl⟩
      have F1 : Fr T T1 (fun _ => False) wo w1 := by rw [hT1]; exact Fr.new hb1 0
      have hz0 := HB.out.size
      have HTT1 := Lib.hid (show ∀ k, k < w.heap.size → T1 k = 0 from fun k hk => by rw [F1.tag k (by omega)]; exact HTT.out k hk)
      have O1 := HO.out.fr rcEl_ok F1 (fun e => e) (fun e => e)
      have B1 := onto HB.out HB.out.size hb1
      obtain ⟨C, hC⟩ : ∃ C, C = rcC r (.slice A3 r.e.T c3) (.slice A3' r.e.n c3') := ⟨_, rfl⟩
      -- its element, new
      have hel : rcEl T1 w1 r C.toList := ⟨A3, c3, A3', c3', by rw [hC], ⟨he.d, fun hn a ha => by
          rw [hT1]
          refine paint_new ?_
          by_cases e : wo.heap.size ≤ a.block
          · exact e
          · exact absurd rfl (hn3 a.block (by omega) hn a ha)⟩, ⟨he.m, fun hn a ha => by rw [hT1]; exact paint_new (hn3' a ha)⟩⟩
      have b2 : Below w1.heap.size w1 ((w1.alloc (.cells C 29)).alloc (.cells C 29)) := ((Below.refl _ _).alloc (Nat.le_refl _) _).alloc (by simp) _
      obtain ⟨T2, hT2⟩ : ∃ T2, T2 = paint T1 w1.heap.size 0 := ⟨_, rfl⟩
      have F2 : Fr T1 T2 (fun _ => False) w1 ((w1.alloc (.cells C 29)).alloc (.cells C 29)) := by rw [hT2]; exact Fr.new b2 0
      have O2 := Lib.hid (O1.fr rcEl_ok F2 (fun e => e) (fun e => e))
      have EL2 := Lib.hid (rcEl_ok.fr hel F2 (fun e => e))
      have B2 := Lib.hid (onto B1 B1.size b2)
      have HTT2 := Lib.hid (show ∀ k, k < w.heap.size → T2 k = 0 from fun k hk => by rw [F2.tag k (by have := B1.size; omega)]; exact HTT1.out k hk)
      have rP : row (w1.alloc (.cells C 29)) w1.heap.size = some C := row_alloc_at _ _ _ _ rfl
      have rQ : row ((w1.alloc (.cells C 29)).alloc (.cells C 29)) (w1.heap.size + 1) = some C := row_alloc_at _ _ _ _ (by simp)
      rw [hC] at rP rQ O2 EL2 B2
      have RQ := Lib.hid rQ
      obtain ⟨PL, hPL⟩ : ∃ PL, PL = pcL r := ⟨_, rfl⟩
      rw [← hPL] at hpl ⊢
      have HPL := Lib.hid hPL
      obtain ⟨xs, hx1, hx2⟩ := O2.out.own
      have HX1 := Lib.hid hx1
      have HX2 := Lib.hid hx2
      have hLL : l.length ≤ 1000000000 := by have := len_le l; have := HL.out; omega
      have hw := show IntKind.i64.wrap ((L : Int) + (PL : Int)) = ((L + PL : Nat) : Int) by rw [IntKind.wrap_i64]; omega
      clear he hn3 hn3' hG hk hb1 hr hstand hT1 F1 O1 B1 hC hel b2 hT2 F2 hx1 hx2 H1 rQ hPL HTT1
      go_upto_region 4 with fail
      go_wp2_with (at_builtin; refine wpl_appSt rfl (.tmp 19) (.tmp 21) rfl rcs_u rc_info (rc_size _ _ _) (by decide) (by decide) HX1.out (p := w1.heap.size + 1) (by rw [Array.toArray_toList]; exact RQ.out) (by rw [Array.length_toList, rc_size]) (rcEl_ok.one EL2.out) hLL rfl (by simp [Act.eval]) ?_; intro v4 w4 ho4 hg4 ht4)
      obtain ⟨W, hW⟩ : ∃ W, W = (w1.alloc (.cells (rcC r (.slice A3 r.e.T c3) (.slice A3' r.e.n c3')) 29)).alloc (.cells (rcC r (.slice A3 r.e.T c3) (.slice A3' r.e.n c3')) 29) := ⟨_, rfl⟩
      rw [← hW] at O2 EL2 B2 RQ HX1 HX2 hg4 ht4
      have F4 : Fr T2 (paint T2 W.heap.size 1) (fun c => c = 1) W w4 := Fr.grown hg4 (fun g hg => O2.out.tg g hg) 1
      have hL2 : lnS (l ++ [r]) = L + PL := by rw [lnS_app, ← HL.out, HPL.out]; rfl
      refine ⟨⟨paint T2 W.heap.size 1, l ++ [r], by rw [hL2]; rfl, O2.out.one rcEl_ok ho4 hg4 ht4 (rcEl_ok.fr EL2.out F4 (by omega)) (by omega) HX1.out HX2.out, HST.out.snoc (by rw [← HL.out]; exact HSD.out), B2.out.trans (F4.below B2.out.size fun k hk => by rw [HTT2.out k hk]; omega), fun k hk => by rw [F4.tag k (by have := B2.out.size; omega)]; exact HTT2.out k hk⟩, ?_⟩
      have hpp := pcL_pos r
      rw [← HPL.out] at hpp
      simp [intOf]
      omega
    · have B1 := Lib.hid (onto HB.out HB.out.size hb1)
      have HK := Lib.hid hk
      have O1 := HO.out.fr rcEl_ok (Fr.new (H := fun _ => False) hb1 0) (fun e => e) (fun e => e)
      obtain ⟨A4, c4, hv, hrs, -⟩ := O1.rcs
      subst hv
      have HRS := Lib.hid hrs
      clear hk hb1 H1 O1 hrs
      go_wp2_with fail
      refine bodyPost_ret (v := .tuple #[.slice A4 l.length c4, .int .i64 (L : Nat)]) (by simp [results, Tryz.results11, go_sem]) rfl ⟨?_, l, A4, c4, by rw [HL.out], ⟨HST.out, by rw [← HL.out]; exact HK.out⟩, ?_⟩
      · exact B1.out.alloc B1.out.size _
      · exact HRS.out.below ((Below.refl _ _).alloc (Nat.le_refl _) _)
end Go.Proofs.YtdfcldomjjcidaaGreatDoor.Oct
