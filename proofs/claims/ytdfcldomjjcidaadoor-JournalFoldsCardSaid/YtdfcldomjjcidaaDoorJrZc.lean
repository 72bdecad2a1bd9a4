/- Contract: the reference's Fold. -/
import Derived.Test.YtdfcldomjjcidaaDoorJrZe
import Derived.Test.YtdfcldomjjcidaaDoorJrUc
namespace Go.Proofs.YtdfcldomjjcidaaDoor.Oct
open Go.ChangeShapes Go.WideShapes Go.ChangeAt Go.RowKit
set_option linter.unusedVariables false

@[go_sem ↓] theorem ens_bs (n : Nat) (parts : Array (Nat × Value)) : Instr.buildSlice 33 n parts = bsA 33 n parts := rfl
@[go_sem] theorem ens_b0 (w : World) : (bsA 33 0 #[]).run Tryd.prog w = .ok (.slice (some ⟨w.heap.size, 0, none⟩) 0 0) (w.alloc (.cells #[] 30)) := bsA_of _ _ _ _ _ _ (by kernel_rfl)
@[go_sem] theorem ens_b1 (t k : Int) (A A' : Option Addr) (n c n' c' : Nat) (w : World) : (bsA 33 1 #[(0, .agg #[.int .i64 t, .int .i64 k, .slice A n c, .slice A' n' c'])]).run Tryd.prog w = .ok (.slice (some ⟨w.heap.size, 0, none⟩) 1 1) (w.alloc (.cells #[.int .i64 t, .int .i64 k, .slice A n c, .slice A' n' c'] 30)) := bsA_of _ _ _ _ _ _ (by kernel_rfl)
theorem from_run {T : Mk} {w : World} {A : Option Addr} {c : Nat} {l : List En} (h : ElAt 4 enEl T w 1 A c l) (m : Nat) (hm : m ≤ l.length) :
    ∃ A', (∀ w, (Instr.slice 33 (.slice A l.length c) (some (.int .i64 (m : Int))) none none).run Tryd.prog w = .ok (.slice A' (l.length - m) (c - m)) w) ∧ ElAt 4 enEl T w 1 A' (c - m) (l.drop m) :=
  ⟨_, fun w => run_fromJ (t := 33) (u := 30) (m := 4) (by kernel_rfl) (by kernel_rfl) A l.length c m hm w, (h.from_ m hm).2⟩
theorem st_setM {w : World} {B : Nat} {s : St} {V : Value} (h : row w B = some (stC s V)) (l : List En) (V' : Value) (i t f : Int) : (((w.setCell ⟨B, 5, none⟩ V').setCell ⟨B, 2, none⟩ (.int .i64 i)).setCell ⟨B, 3, none⟩ (.int .i64 t)).setCell ⟨B, 4, none⟩ (.int .i64 f) = w.setRow B (stC ⟨s.a, s.b, i, t, f, l⟩ V') := by
  rw [setCell_row h, setCell_row (row_setRow h _), setRow_setRow, setCell_row (row_setRow h _), setRow_setRow, setCell_row (row_setRow h _), setRow_setRow]; unfold stC; rfl
/-- what the reference's Fold ends in -/
def rfP (o : Option St) (w : World) (e : Ending) (w' : World) : Prop := Below w.heap.size w w' ∧
  ((∃ s A c, o = some s ∧ e = .returned (.tuple #[.agg (stC s (.slice A s.l.length c)), .int .i64 0]) ∧ EnS 0 w' A s.l.length c (ge s.l)) ∨ (o = none ∧ e = .returned (.tuple #[.agg (stC .zero nilS), .int .i64 110])))
set_option maxRecDepth 20000 in
set_option maxHeartbeats 4000000 in
theorem rfold_any (n c : Nat) (A : Option Addr) (R : Nat → Rc) (w : World) (hR : RcS w A n c R) (hB : ∀ i, i < n → RcB (R i)) (hn : n ≤ 100000) :
    Calls Tryd.prog 10 #[.slice A n c] w (rfP (fdS R n) w) := by
  obtain ⟨w1, hw1⟩ : ∃ w1, w1 = (w.alloc (.cells #[.int .i64 0, .int .i64 0, .int .i64 0, .int .i64 0, .int .i64 0, .slice none 0 0] 39)).alloc (.cells (stC .zero nilS) 39) := ⟨_, rfl⟩
  have bw : Below w.heap.size w w1 := by rw [hw1]; exact ((Below.refl _ _).alloc (Nat.le_refl _) _).alloc (by simp) _
  have r0 : row w1 w.heap.size = some (stC .zero nilS) := by rw [hw1, ← st_lit0]; exact row_alloc (row_alloc_at _ _ _ _ rfl) _
  have r1 : row w1 (w.heap.size + 1) = some (stC .zero nilS) := by rw [hw1]; exact row_alloc_at _ _ _ _ (by simp)
  have hz1 : w1.heap.size = w.heap.size + 2 := by rw [hw1]; simp
  obtain ⟨T1, hT1⟩ : ∃ T1 : Mk, T1 = fun k => if k < w.heap.size then 0 else if k = w.heap.size + 1 then 2 else 4 := ⟨_, rfl⟩
  have hT1a : T1 w.heap.size = 4 := by rw [hT1]; simp
  have hT1b : T1 (w.heap.size + 1) = 2 := by rw [hT1]; show (if w.heap.size + 1 < w.heap.size then _ else if w.heap.size + 1 = w.heap.size + 1 then 2 else 4) = 2; rw [if_neg (by omega), if_pos rfl]
  have HT1 := Lib.hid (show ∀ k, k < w.heap.size → T1 k = 0 from fun k hk => by rw [hT1]; exact if_pos hk)
  have BW := Lib.hid bw
  have HRR := Lib.hid hR
  have S1 := Lib.hid (show StAt T1 w1 (w.heap.size + 1) .zero from ⟨⟨none, 0, r1, ElAt.nil T1 w1 1⟩, hT1b⟩)
  have HR0 := Lib.hid r0
  have HB := Lib.hid hB
  clear bw r0 r1 hT1 hR hB
  go_enter Tryd.func10, Tryd.ntmps10
  go_upto_region 2 with fail
  simp only [← hw1]
  clear hw1
  go_wp2_with fail
  go_loopw [5, 3] (fun iv ev wr => ∃ (j : Nat) (T : Mk) (s : St), j ≤ n ∧ iv = .int .i64 (j : Int) ∧ ev = .int .i64 0 ∧ fdS R j = some s ∧ StAt T wr (w.heap.size + 1) s ∧ Fr T1 T Hst w1 wr ∧ s.l.length ≤ j ∧ (-4398046511104 ≤ s.i ∧ s.i ≤ 4398046511104)) (fun iv _ _ => n - (intOf iv).toNat)
  case atStart => exact ⟨0, T1, .zero, by omega, rfl, rfl, rfl, S1.out, Fr.refl _ _ _, Nat.le_refl _, by decide⟩
  case round =>
    obtain ⟨j, T, s, hj, rfl, rfl, hfs, hst, hfr, hlen, hsi⟩ := hrel
    obtain ⟨wo, rfl⟩ : ∃ wo : World, wo = wr := ⟨_, rfl⟩
    have HFS := Lib.hid hfs
    have HST := Lib.hid hst
    have HFR := Lib.hid hfr
    clear hfs hst hfr
    by_cases hlt : j < n
    · have d1 : decide ((j : Int) < (n : Int)) = true := decide_eq_true (by omega)
      have d2 : decide (j < n) = true := decide_eq_true hlt
      have d3 : 0 ≤ (j : Int) ∧ (j : Int) < (n : Int) := by omega
      have d4 : IntKind.i64.wrap ((j : Int) + 1) = (j : Int) + 1 := by rw [IntKind.wrap_i64]; omega
      have hbo : Below w.heap.size w wo := BW.out.trans (HFR.out.below (by omega) fun k hk => by show ¬ (_ ∨ _); rw [HT1.out k hk]; decide)
      obtain ⟨g, o, D, k, D', k', hA, hg, hcl, he⟩ := HRR.out.at_ j hlt
      subst hA
      have q1 := rc_lw (w := wo) (g := g) (o := o + j * 10) (r := R j) fun z hz => by rw [hbo.cell (p := ⟨g, o + j * 10 + z, none⟩) hg]; exact hcl z hz
      have hTo : ∀ k, k < w.heap.size → T k = 0 := fun k hk => by rw [HFR.out.tag k (by omega)]; exact HT1.out k hk
      obtain ⟨w2, hw2⟩ : ∃ w2, w2 = wo.alloc (.cells (rcC (R j) (.slice D (R j).e.T k) (.slice D' (R j).e.n k')) 32) := ⟨_, rfl⟩
      have b2 : Below wo.heap.size wo w2 := by rw [hw2]; exact (Below.refl _ _).alloc (Nat.le_refl _) _
      have q2 : row w2 wo.heap.size = some (rcC (R j) (.slice D (R j).e.T k) (.slice D' (R j).e.n k')) := by rw [hw2]; exact row_alloc_at _ _ _ _ rfl
      obtain ⟨T2, hT2⟩ : ∃ T2, T2 = paint T wo.heap.size 0 := ⟨_, rfl⟩
      have F2 : Fr T T2 (fun _ => False) wo w2 := by rw [hT2]; exact Fr.new b2 0
      obtain ⟨V, cV, hrS, hel⟩ := HST.out.ex
      have hrS2 := carry b2 hrS
      have EL2 := Lib.hid (hel.fr enEl_ok F2 (fun e => e) (fun e => e))
      have TB2 : T2 (w.heap.size + 1) = 2 := by rw [hT2, paint_old (row_lt hrS)]; exact HST.out.tB
      have hbw2 := onto hbo hbo.size b2
      have EN2 := Lib.hid (show enEl T2 w2 (R j).e [.int .i64 (R j).e.t, .int .i64 (R j).e.k, .slice D (R j).e.T k, .slice D' (R j).e.n k'] from ⟨D, k, D', k', rfl, ⟨(he.below hbw2).d, fun hn a ha => by
          obtain ⟨g3, o3, e3, hg3, -⟩ := he.d.at_ hn
          rw [ha] at e3
          cases e3
          rw [hT2, paint_old (show g3 < wo.heap.size by have := hbo.size; omega)]
          exact hTo g3 hg3⟩, ⟨(he.below hbw2).m, fun hn a ha => by
          obtain ⟨g3, o3, e3, hg3, -⟩ := he.m.at_ hn
          rw [ha] at e3
          cases e3
          rw [hT2, paint_old (show g3 < wo.heap.size by have := hbo.size; omega)]
          exact hTo g3 hg3⟩⟩)
      have FF2 := Lib.hid (HFR.out.trans (F2.mono fun _ h => h.elim))
      have HRB := Lib.hid (HB.out j hlt)
      have HQ2 := Lib.hid q2
      have HS2 := Lib.hid hrS2
      obtain ⟨a0, a1, a2, a3, a4, a5, a6, a7, a8, a9⟩ := rc_cells q2
      obtain ⟨s0, s1, s2, s3, s4, s5⟩ := st_cells hrS2
      have z0 := froz_row hrS2 0
      have z1 := froz_row hrS2 1
      have z2 := froz_row hrS2 2
      have z3 := froz_row hrS2 3
      have z4 := froz_row hrS2 4
      have z5 := froz_row hrS2 5
      have hzz := HFR.out.size
      clear hcl he hTo b2 hT2 F2 hrS hrS2 hel hbo hbw2 q2 HFR HST
      go_upto_region 6 with fail
      simp only [← hw2]
      clear hw2 q1
      by_cases h1 : (R j).k = 1
      · have e1 : ((R j).k == 1) = true := by simp; omega
        have HE := Lib.hid (show fdS R (j + 1) = some { s with a := (R j).a, b := (R j).b } by rw [fdS, HFS.out, Option.bind_some]; unfold stp; rw [if_pos h1])
        clear h1
        go_wp2_with fail
        rw [st_setH HS2.out]
        have F3 : Fr T2 T2 (fun m => m = 2) w2 (w2.setRow (w.heap.size + 1) (stC { s with a := (R j).a, b := (R j).b } (.slice V s.l.length cV))) := Fr.row TB2 _
        exact ⟨⟨j + 1, T2, _, by omega, rfl, rfl, HE.out, ⟨⟨V, cV, row_setRow HS2.out _, EL2.out.fr enEl_ok F3 (by decide) (by decide)⟩, TB2⟩, FF2.out.trans (F3.mono fun _ h => .inr h), by show s.l.length ≤ _; omega, hsi⟩, by simp [intOf]; omega⟩
      have e1 : ((R j).k == 1) = false := by simp; omega
      by_cases h2 : (R j).k = 2
      · have e2 : ((R j).k == 2) = true := by simp; omega
        have HP := Lib.hid (show stp s (R j) = layS s (R j).i (R j).e by unfold stp; rw [if_neg h1, if_pos h2])
        have hri := HRB.out.i
        clear h1 h2
        have v1 : IntKind.i64.wrap ((R j).i - s.i) = (R j).i - s.i := by rw [IntKind.wrap_i64]; omega
        by_cases hneg : (R j).i ≤ s.i
        · have v2 : IntKind.i64.wrap ((R j).i - s.i - 1) = (R j).i - s.i - 1 := by rw [IntKind.wrap_i64]; omega
          have v3 : decide ((R j).i - s.i - 1 < 0) = true := decide_eq_true (by omega)
          have HE := Lib.hid (show fdS R (j + 1) = some s by rw [fdS, HFS.out, Option.bind_some, HP.out]; unfold layS; rw [if_pos hneg])
          clear hneg
          go_wp2_with fail
          exact ⟨⟨j + 1, T2, s, by omega, rfl, rfl, HE.out, ⟨⟨V, cV, HS2.out, EL2.out⟩, TB2⟩, FF2.out, by omega, hsi⟩, by simp [intOf]; omega⟩
        obtain ⟨a, ha⟩ : ∃ a : Nat, (R j).i - s.i - 1 = (a : Int) := ⟨((R j).i - s.i - 1).toNat, by omega⟩
        have v2 : IntKind.i64.wrap ((R j).i - s.i - 1) = (a : Int) := by rw [IntKind.wrap_i64]; omega
        by_cases hfar : s.l.length < a
        · have v4 : decide ((s.l.length : Int) < (a : Int)) = true := decide_eq_true (by omega)
          have v5 : decide (s.l.length < a) = true := decide_eq_true hfar
          have HE := Lib.hid (show fdS R n = none by
            have h3 : fdS R (j + 1) = none := by rw [fdS, HFS.out, Option.bind_some, HP.out]; unfold layS; rw [if_neg hneg, if_pos (by omega)]
            have h4 := fdS_none R h3 (n - (j + 1))
            rw [show j + 1 + (n - (j + 1)) = n by omega] at h4
            exact h4)
          have hra := FF2.out.rowAt HR0.out (by show ¬ (_ ∨ _); rw [hT1a]; decide)
          have hw := BW.out.trans (FF2.out.below (by omega) fun k hk => by show ¬ (_ ∨ _); rw [HT1.out k hk]; decide)
          have BW2 := Lib.hid hw
          clear hneg hfar ha hw
          go_wp2_with fail
          have q5 : w2.setRow w.heap.size (stC .zero nilS) = w2 := setRow_self hra
          exact bodyPost_ret (v := .tuple #[.agg (stC .zero nilS), .int .i64 110]) (res_ct Tryd.results10 _ _ w.heap.size _ _ rfl (row_setRow hra _) Tryd.underlying39 rfl (by rw [strr_i, st_size])) rfl ⟨below_setRow BW2.out (Nat.le_refl _) _, .inr ⟨HE.out, rfl⟩⟩
        have v4 : decide ((s.l.length : Int) < (a : Int)) = false := decide_eq_false (by omega)
        have v5 : decide (s.l.length < a) = false := decide_eq_false hfar
        have HE := Lib.hid (show fdS R (j + 1) = some { s with l := s.l.take a ++ [(R j).e] } by
          rw [fdS, HFS.out, Option.bind_some, HP.out]
          unfold layS
          rw [if_neg hneg, if_neg (by omega), show ((R j).i - s.i - 1).toNat = a by omega])
        have hal : a ≤ s.l.length := by omega
        clear hneg hfar ha
        go_upto_region 14 with fail
        have hBl := row_lt HS2.out
        have hRl := row_lt HQ2.out
        have hcap : a ≤ cV := by have := EL2.out.le; omega
        have qu := fun w => run_uptoJ (P := Tryd.prog) (t := 33) (u := 30) (m := 4) (by kernel_rfl) (by kernel_rfl) V s.l.length cV a hcap w
        have f5 : ∀ y : In (CbJ w2), y.val.cell? ⟨w.heap.size + 1, 5, none⟩ = some (.slice V s.l.length cV) := fun y => (Below.cell y.ok (p := ⟨w.heap.size + 1, 5, none⟩) hBl).trans s5
        have f6 : ∀ y : In (CbJ w2), y.val.cell? ⟨wo.heap.size, 6, none⟩ = some (.int .i64 (R j).e.t) := fun y => (Below.cell y.ok (p := ⟨wo.heap.size, 6, none⟩) hRl).trans a6
        have f7 : ∀ y : In (CbJ w2), y.val.cell? ⟨wo.heap.size, 7, none⟩ = some (.int .i64 (R j).e.k) := fun y => (Below.cell y.ok (p := ⟨wo.heap.size, 7, none⟩) hRl).trans a7
        have f8 : ∀ y : In (CbJ w2), y.val.cell? ⟨wo.heap.size, 8, none⟩ = some (.slice D (R j).e.T k) := fun y => (Below.cell y.ok (p := ⟨wo.heap.size, 8, none⟩) hRl).trans a8
        have f9 : ∀ y : In (CbJ w2), y.val.cell? ⟨wo.heap.size, 9, none⟩ = some (.slice D' (R j).e.n k') := fun y => (Below.cell y.ok (p := ⟨wo.heap.size, 9, none⟩) hRl).trans a9
        refine flow_shut 11 [.inl [1, 2, 3, 4, 6, 7], pS 0, pS 8, pU 0, pE 5, pU 8, pE 9, .inl [10], pE 11] (CbJ w2) [w.heap.size + 1] (by kernel_rfl) (by kernel_rfl) (fun _ _ _ _ _ h => h) (fun _ _ _ _ _ h => h) CbJ.alloc (below_drewN (Below.refl _ _) 1) (fun k hk => by simp at hk; rw [hk]; exact hBl) ?_
        have hne : Nonempty (In (CbJ w2)) := ⟨⟨w2, Below.refl _ _⟩⟩
        obtain ⟨w3, hw3⟩ : ∃ w3, w3 = w2.drewN 1 := ⟨_, rfl⟩
        rw [← hw3]
        clear hw3
        refine wpM_q ?_
        simp only [pk, List.getElem?_cons_zero, List.getElem?_cons_succ]
        repeat (go_big_quiet_step (fail))
        refine wpQuiet_nil ?_
        clear f5 f6 f7 f8 f9
        refine wpM_s (fun p => .slice (some ⟨p, 0, none⟩) 0 0) (.cells #[] 30) _ rfl rfl (fun w => by simp [execOp, go_sem, Result.andThen]) ?_
        refine wpM_s (fun p => .slice (some ⟨p, 0, none⟩) 1 1) (.cells #[.int .i64 (R j).e.t, .int .i64 (R j).e.k, .slice D (R j).e.T k, .slice D' (R j).e.n k'] 30) _ rfl rfl (fun w => by simp [execOp, go_sem, Act.eval, Result.andThen]) ?_
        refine wpM_u _ _ _ 44 (.tail _ (.head _)) rfl rfl (fun x1 hx1 p0 hp1 hp2 hp3 hp4 => ?_)
        refine wpM_e _ rfl (fun x2 hx2 => ?_)
        have B4 := Lib.hid (show Below w2.heap.size w2 x2.val from hx2)
        obtain ⟨w4, hw4⟩ : ∃ w4, w4 = x2.val := ⟨_, rfl⟩
        rw [← hw4] at B4 ⊢
        clear hw4 hx2 hx1 hp4 hp3 hp2 hp1
        have EL4 := Lib.hid (EL2.out.fr enEl_ok (Fr.calm B4.out fun _ _ => rfl : Fr T2 T2 (fun _ => False) w2 w4) (fun e => e) (fun e => e))
        have ELa := (EL4.out.upto a hal)
        have hla := ELa.1
        have EL5 := Lib.hid ELa.2
        clear ELa
        go_wp2_with (at_builtin; refine wpl_appNil enEl_ok rfl (.tmp 44) (.tmp 48) rfl ens_u en_info rfl (by decide) (by decide) EL5.out (by omega) p0 1 (by simp [Act.eval, Act.put]) (by simp [Act.eval, Act.put, hla]) ?_; intro A5 c5 w5 hel5 hb5 hk5)
        have B5 := Lib.hid (onto B4.out B4.out.size hb5)
        have hT5 : (paint T2 w4.heap.size 1) (w.heap.size + 1) = 2 := by rw [paint_old (by have := B4.out.size; omega)]; exact TB2
        obtain ⟨T5, hT5'⟩ : ∃ T5, T5 = paint T2 w4.heap.size 1 := ⟨_, rfl⟩
        have F5 : Fr T2 T5 (fun _ => False) w4 w5 := by rw [hT5']; exact Fr.new hb5 1
        rw [← hT5'] at hel5 hT5
        clear hT5'
        have EL6 := Lib.hid hel5
        have EN6 := Lib.hid (enEl_ok.fr (enEl_ok.fr EN2.out (Fr.calm B4.out fun _ _ => rfl : Fr T2 T2 (fun _ => False) w2 w4) (fun e => e)) F5 (fun e => e))
        have HK5 := Lib.hid hk5
        have HZ5 := hb5.size
        have HZ4 := B4.out.size
        have hh5 : ∀ q ∈ ((w.heap.size + 1) :: blk A5 c5), (q ∈ [p0, w.heap.size + 1] ∨ w4.heap.size ≤ q) ∧ q < w5.heap.size := fun q hq => by
          rcases List.mem_cons.1 hq with rfl | hq
          · exact ⟨.inl (by simp), by omega⟩
          · exact ⟨.inr (hk5 q hq).1, (hk5 q hq).2⟩
        refine same_class (C := CbJ w2) ((w.heap.size + 1) :: blk A5 c5) (Frm.of hb5) hh5 B5.out CbJ.alloc ?_
        clear hel5 hb5 hk5 hh5 EL5 EL4 B4
        refine wpM_u _ _ _ 52 (.head _) rfl rfl (fun x3 hx3 p8 hp1 hp2 hp3 hp4 => ?_)
        refine wpM_e _ rfl (fun x4 hx4 => ?_)
        have R6 := Lib.hid (show row x4.val p8 = some ([.int .i64 (R j).e.t, .int .i64 (R j).e.k, .slice D (R j).e.T k, .slice D' (R j).e.n k'] : List Value).toArray from carry x4.below (row_of hp4))
        have B6 := Lib.hid (show Below w2.heap.size w2 x4.val from hx4)
        have bx := onto x3.below x3.below.size x4.below
        obtain ⟨w6, hw6⟩ : ∃ w6, w6 = x4.val := ⟨_, rfl⟩
        rw [← hw6] at R6 B6 bx ⊢
        clear hw6 hx4 hx3 hp4 hp3 hp2 hp1 x4 x3
        have F6 : Fr T5 T5 (fun _ => False) w5 w6 := Fr.calm bx fun _ _ => rfl
        have EL7 := Lib.hid (EL6.out.fr enEl_ok F6 (fun e => e) (fun e => e))
        have EN7 := Lib.hid (enEl_ok.fr EN6.out F6 (fun e => e))
        have HZ6 := bx.size
        clear bx F6 EL6 EN6 x2 x1
        go_wp2_with (at_builtin; refine wpl_appAtF enEl_ok rfl (.tmp 49) (.tmp 52) rfl ens_u en_info rfl (by decide) (by decide) EL7.out R6.out EN7.out (by omega) (by decide) (by simp [Act.eval, Act.put, hla]) (by simp [Act.eval, Act.put]) ?_; intro A8 c8 w8 hel8 hfm8 hbb8)
        have B8 := Lib.hid (B6.out.trans (hbb8 w2.heap.size (by omega) fun q hq => by have := (HK5.out q hq).1; omega))
        have HZ8 := hfm8.size
        have hh8 : ∀ q ∈ [w.heap.size + 1], (q ∈ (p8 :: (w.heap.size + 1) :: blk A5 c5) ∨ w6.heap.size ≤ q) ∧ q < w8.heap.size := fun q hq => by
          have hq' : q = w.heap.size + 1 := by simpa using hq
          subst hq'
          exact ⟨.inl (by simp), by omega⟩
        obtain ⟨T8, hT8⟩ : ∃ T8, T8 = paint T5 w6.heap.size 1 := ⟨_, rfl⟩
        rw [← hT8] at hel8
        have EL8 := Lib.hid hel8
        have HT8 := Lib.hid (show ∀ q, q < w2.heap.size → T8 q = T2 q from fun q hq => by rw [hT8, paint_old (by omega), F5.tag q (by omega)])
        have hlen8 : (s.l.take a ++ [(R j).e]).length = a + 1 := by rw [List.length_append, hla]; rfl
        refine same_class (C := CbJ w2) [w.heap.size + 1] (hfm8.more fun q hq => by simp [hq]) hh8 B8.out CbJ.alloc ?_
        clear hel8 hfm8 hbb8 hh8 hT8 EL7 EN7 R6 B6 B5
        refine wpM_q ?_
        simp only [pk, List.getElem?_cons_zero, List.getElem?_cons_succ]
        repeat (go_big_quiet_step (fail))
        refine wpQuiet_nil ?_
        refine wpM_e _ rfl (fun x5 hx5 => ?_)
        have B9 := Lib.hid (show Below w2.heap.size w2 x5.val from hx5)
        have E9 := Lib.hid (EL8.out.fr enEl_ok (Fr.calm x5.below fun _ _ => rfl : Fr T8 T8 (fun _ => False) w8 x5.val) (fun e => e) (fun e => e))
        obtain ⟨w9, hw9⟩ : ∃ w9, w9 = x5.val := ⟨_, rfl⟩
        rw [← hw9] at B9 E9 ⊢
        clear hw9 hx5 x5
        have R9 := carry B9.out HS2.out
        have y5 := froz_row R9 5
        have k5 : w9.cell? ⟨w.heap.size + 1, 5, none⟩ = some (.slice V s.l.length cV) := (st_cells R9).2.2.2.2.2
        go_wp2_with fail
        rw [st_set5 R9 (s.l.take a ++ [(R j).e])]
        refine end_class (fun _ => True) [] (Frm.row w9 _ (by simp)) hot_none trivial (fun _ _ _ => trivial) ?_
        refine wpM_nil (fun y => ?_)
        have tB8 : T8 (w.heap.size + 1) = 2 := by rw [HT8.out _ hBl]; exact TB2
        have F9 : Fr T8 T8 (fun m => m = 2) w9 (w9.setRow (w.heap.size + 1) (stC { s with l := s.l.take a ++ [(R j).e] } (.slice A8 (a + 1) c8))) := Fr.row tB8 _
        have F10 : Fr T8 T8 (fun _ => False) (w9.setRow (w.heap.size + 1) (stC { s with l := s.l.take a ++ [(R j).e] } (.slice A8 (a + 1) c8))) y.val := Fr.calm y.below fun _ _ => rfl
        have E10 := Lib.hid ((E9.out.fr enEl_ok F9 (by decide) (by decide)).fr enEl_ok F10 (fun e => e) (fun e => e))
        have R10 := Lib.hid (show row y.val (w.heap.size + 1) = some (stC { s with l := s.l.take a ++ [(R j).e] } (.slice A8 (s.l.take a ++ [(R j).e]).length c8)) by rw [hlen8]; exact carry y.below (row_setRow R9 _))
        have FFF := Lib.hid (((FF2.out.trans ((Fr.calm B9.out fun q hq => HT8.out q hq : Fr T2 T8 (fun _ => False) w2 w9).mono fun _ h => h.elim)).trans (F9.mono fun _ h => .inr h)).trans (F10.mono fun _ h => h.elim))
        obtain ⟨w10, hw10⟩ : ∃ w10, w10 = y.val := ⟨_, rfl⟩
        rw [← hw10] at E10 R10 FFF ⊢
        clear hw10 F9 F10 y k5 y5 R9 E9
        go_wp2_with fail
        exact ⟨⟨j + 1, T8, _, by omega, rfl, rfl, HE.out, ⟨⟨A8, c8, R10.out, E10.out⟩, tB8⟩, FFF.out, by show (s.l.take a ++ [(R j).e]).length ≤ _; omega, hsi⟩, by simp [intOf]; omega⟩
      have e2 : ((R j).k == 2) = false := by simp; omega
      by_cases h3 : (R j).k = 3
      · have e3 : ((R j).k == 3) = true := by simp; omega
        have HP := Lib.hid (show stp s (R j) = some (mvS s (R j).i (R j).t (R j).n) by unfold stp; rw [if_neg h1, if_neg h2, if_pos h3])
        have hri := HRB.out.i
        clear h1 h2 h3
        have v1 : IntKind.i64.wrap ((R j).i - s.i) = (R j).i - s.i := by rw [IntKind.wrap_i64]; omega
        by_cases hneg : (R j).i < s.i
        · have v3 : decide ((R j).i - s.i < 0) = true := decide_eq_true (by omega)
          have HE := Lib.hid (show fdS R (j + 1) = some s by rw [fdS, HFS.out, Option.bind_some, HP.out]; unfold mvS; rw [if_pos hneg])
          clear hneg
          go_wp2_with fail
          exact ⟨⟨j + 1, T2, s, by omega, rfl, rfl, HE.out, ⟨⟨V, cV, HS2.out, EL2.out⟩, TB2⟩, FF2.out, by omega, hsi⟩, by simp [intOf]; omega⟩
        obtain ⟨q, hq⟩ : ∃ q : Nat, (R j).i - s.i = (q : Int) := ⟨((R j).i - s.i).toNat, by omega⟩
        have v2 : IntKind.i64.wrap ((R j).i - s.i) = (q : Int) := by rw [v1, hq]
        have hmc : mvC s (R j).i = q := by unfold mvC; omega
        have HE := Lib.hid (show fdS R (j + 1) = some ⟨s.a, s.b, (R j).i, (R j).t, (R j).n, if mvT s (R j).i (R j).t then s.l.drop q else []⟩ by
          rw [fdS, HFS.out, Option.bind_some, HP.out]
          unfold mvS
          rw [if_neg hneg, hmc])
        have HMT := Lib.hid (show mvT s (R j).i (R j).t = (decide (q ≤ s.l.length) && (plT s q == (R j).t)) by unfold mvT; rw [hmc])
        clear hneg v1 hmc
        by_cases hM : mvT s (R j).i (R j).t = true
        · have hcase : (q = 0 ∧ (R j).t = s.t) ∨ (0 < q ∧ q ≤ s.l.length ∧ (ge s.l (q - 1)).t = (R j).t) := by
            rw [HMT.out, Bool.and_eq_true, decide_eq_true_eq] at hM
            obtain ⟨m1, m2⟩ := hM
            unfold plT at m2
            by_cases hq0 : q = 0
            · rw [if_pos hq0] at m2
              exact .inl ⟨hq0, (by simpa using m2 : s.t = (R j).t).symm⟩
            · rw [if_neg hq0] at m2
              exact .inr ⟨by omega, m1, by simpa using m2⟩
          have hql : q ≤ s.l.length := by rcases hcase with h | h <;> omega
          rw [if_pos hM] at HE
          obtain ⟨A3, qf, elq⟩ := from_run EL2.out q hql
          have ELq := Lib.hid elq
          have hdl : (s.l.drop q).length = s.l.length - q := List.length_drop ..
          clear hM elq hq HMT HP
          rcases hcase with ⟨hq0, ht⟩ | ⟨hq0, hq1, ht⟩
          focus
            have g1 : ((q : Int) == 0) = true := by simp; omega
            have g2 : ((R j).t == s.t) = true := by simp [ht]
            clear hq0 ht
            go_wp2_with fail
            go_quiet (fail)
          rotate_left
          focus
            obtain ⟨g4, o4, D4, k4, D5, k5, hV, hg4, hc4, -⟩ := (EL2.out.ens 0 (fun _ h => absurd h (by omega))).at_ (q - 1) (by omega)
            have f0 : w2.cell? ⟨g4, o4 + (q - 1) * 4, none⟩ = some (.int .i64 (R j).t) := by
              have := hc4 0 (by omega)
              rw [ht] at this
              exact this
            subst hV
            have g1 : ((q : Int) == 0) = false := by simp; omega
            have g3 : decide ((0 : Int) < (q : Int)) = true := decide_eq_true (by omega)
            have g4' : decide (0 < q) = true := decide_eq_true hq0
            have g5 : decide ((q : Int) ≤ (s.l.length : Int)) = true := decide_eq_true (by omega)
            have g6 : decide (q ≤ s.l.length) = true := decide_eq_true hq1
            have g7 : IntKind.i64.wrap ((q : Int) - 1) = ((q - 1 : Nat) : Int) := by rw [IntKind.wrap_i64]; omega
            have g8 : 0 ≤ ((q - 1 : Nat) : Int) ∧ ((q - 1 : Nat) : Int) < (s.l.length : Int) := by omega
            clear hq0 hq1 ht hc4
            go_wp2_with fail
            go_quiet (fail)
          all_goals
            have b3 := below_drewN (Below.refl w2.heap.size w2) nq
            obtain ⟨w3, hw3⟩ : ∃ w3, w3 = w2.drewN nq := ⟨_, rfl⟩
            rw [← hw3] at b3 ⊢
            clear hw3
            obtain ⟨w4, hw4⟩ : ∃ w4, w4 = w3.alloc (.cells #[] 30) := ⟨_, rfl⟩
            have b4 : Below w3.heap.size w3 w4 := by rw [hw4]; exact (Below.refl _ _).alloc (Nat.le_refl _) _
            have bx := onto b3 b3.size b4
            have R4 := Lib.hid (carry bx HS2.out)
            have X4 := Lib.hid (carry bx HQ2.out)
            have E4 := Lib.hid (ELq.out.fr enEl_ok (Fr.calm bx fun _ _ => rfl : Fr T2 T2 (fun _ => False) w2 w4) (fun e => e) (fun e => e))
            have FF4 := Lib.hid (FF2.out.trans ((Fr.calm bx fun _ _ => rfl : Fr T2 T2 (fun _ => False) w2 w4).mono fun _ h => h.elim))
            have B4 := Lib.hid bx
            have t5 := (st_cells R4.out).2.2.2.2.2
            rw [hw4] at t5
            clear s0 s1 s2 s3 s4 s5 z0 z1 z2 z3 z4 z5 a0 a1 a2 a3 a4 a5 a6 a7 a8 a9 b3 b4 bx ELq
            go_wp2_with (at_builtin; simp only [← hw4]; refine wpl_appNil enEl_ok rfl (.tmp 97) (.tmp 101) rfl ens_u en_info rfl (by decide) (by decide) E4.out (by rw [hdl]; omega) w3.heap.size 1 (by simp [Act.eval]) (by simp [Act.eval, hdl]) ?_; intro A5 c5 w5 hel5 hb5 hk5; have R5 := carry hb5 R4.out; have y6 := froz_row R5 5; have y2 := froz_row R5 2; have y3 := froz_row R5 3; have y4 := froz_row R5 4; obtain ⟨-, -, t2, t3, t4, t6⟩ := st_cells R5; have X5 := carry hb5 X4.out; obtain ⟨-, x1, x2, x3, -⟩ := rc_cells X5)
          all_goals
            have HE5 := Lib.hid hel5
            have tB5 : (paint T2 w4.heap.size 1) (w.heap.size + 1) = 2 := by rw [paint_old (row_lt R4.out)]; exact TB2
            have F5 : Fr T2 (paint T2 w4.heap.size 1) (fun _ => False) w4 w5 := Fr.new hb5 1
            have R5 := carry hb5 R4.out
            rw [st_setM R5 (s.l.drop q)]
            have F6 : Fr (paint T2 w4.heap.size 1) (paint T2 w4.heap.size 1) (fun m => m = 2) w5 (w5.setRow (w.heap.size + 1) (stC ⟨s.a, s.b, (R j).i, (R j).t, (R j).n, s.l.drop q⟩ (.slice A5 (s.l.length - q) c5))) := Fr.row tB5 _
            refine ⟨⟨j + 1, paint T2 w4.heap.size 1, _, by omega, rfl, rfl, HE.out, ⟨⟨A5, c5, ?_, HE5.out.fr enEl_ok F6 (by decide) (by decide)⟩, tB5⟩, (FF4.out.trans (F5.mono fun _ h => h.elim)).trans (F6.mono fun _ h => .inr h), by show (s.l.drop q).length ≤ _; omega, hri⟩, by simp [intOf]; omega⟩
            show row _ _ = some (stC ⟨s.a, s.b, (R j).i, (R j).t, (R j).n, s.l.drop q⟩ (.slice A5 (s.l.drop q).length c5))
            rw [hdl]
            exact row_setRow R5 _
        · have hcase : (q = 0 ∧ (R j).t ≠ s.t) ∨ (0 < q ∧ q ≤ s.l.length ∧ (ge s.l (q - 1)).t ≠ (R j).t) ∨ (0 < q ∧ s.l.length < q) := by
            rw [HMT.out, Bool.and_eq_true, decide_eq_true_eq] at hM
            by_cases hq0 : q = 0
            · refine .inl ⟨hq0, fun e => hM ⟨by omega, ?_⟩⟩
              unfold plT
              rw [if_pos hq0]
              simp [e]
            · by_cases hql : q ≤ s.l.length
              · refine .inr (.inl ⟨by omega, hql, fun e => hM ⟨hql, ?_⟩⟩)
                unfold plT
                rw [if_neg hq0]
                simpa using e
              · exact .inr (.inr ⟨by omega, by omega⟩)
          rw [if_neg hM] at HE
          clear hM hq HMT HP
          rcases hcase with ⟨hq0, ht⟩ | ⟨hq0, hq1, ht⟩ | ⟨hq0, hq1⟩
          focus
            have g1 : ((q : Int) == 0) = true := by simp; omega
            have g2 : ((R j).t == s.t) = false := by simp [ht]
            have g3 : decide ((0 : Int) < (q : Int)) = false := decide_eq_false (by omega)
            have g4 : decide (0 < q) = false := decide_eq_false (by omega)
            clear hq0 ht
            go_wp2_with fail
            go_quiet (fail)
          rotate_left
          focus
            obtain ⟨g4, o4, D4, k4, D5, k5, hV, hg4, hc4, -⟩ := (EL2.out.ens 0 (fun _ h => absurd h (by omega))).at_ (q - 1) (by omega)
            obtain ⟨Y, hY⟩ : ∃ Y, Y = (ge s.l (q - 1)).t := ⟨_, rfl⟩
            rw [← hY] at ht
            have f0 : w2.cell? ⟨g4, o4 + (q - 1) * 4, none⟩ = some (.int .i64 Y) := by
              have := hc4 0 (by omega)
              rw [← hY] at this
              exact this
            subst hV
            have g1 : ((q : Int) == 0) = false := by simp; omega
            have g3 : decide ((0 : Int) < (q : Int)) = true := decide_eq_true (by omega)
            have g4' : decide (0 < q) = true := decide_eq_true hq0
            have g5 : decide ((q : Int) ≤ (s.l.length : Int)) = true := decide_eq_true (by omega)
            have g6 : decide (q ≤ s.l.length) = true := decide_eq_true hq1
            have g7 : IntKind.i64.wrap ((q : Int) - 1) = ((q - 1 : Nat) : Int) := by rw [IntKind.wrap_i64]; omega
            have g8 : 0 ≤ ((q - 1 : Nat) : Int) ∧ ((q - 1 : Nat) : Int) < (s.l.length : Int) := by omega
            have g9 : (Y == (R j).t) = false := by simp [ht]
            clear hq0 hq1 ht hc4 hY
            go_wp2_with fail
            go_quiet (fail)
          rotate_left
          focus
            have g1 : ((q : Int) == 0) = false := by simp; omega
            have g3 : decide ((0 : Int) < (q : Int)) = true := decide_eq_true (by omega)
            have g4' : decide (0 < q) = true := decide_eq_true hq0
            have g5 : decide ((q : Int) ≤ (s.l.length : Int)) = false := decide_eq_false (by omega)
            have g6 : decide (q ≤ s.l.length) = false := decide_eq_false (by omega)
            clear hq0 hq1
            go_wp2_with fail
            go_quiet (fail)
          all_goals
            have b3 := below_drewN (Below.refl w2.heap.size w2) nq
            obtain ⟨w3, hw3⟩ : ∃ w3, w3 = w2.drewN nq := ⟨_, rfl⟩
            rw [← hw3] at b3 ⊢
            clear hw3
            have R5 := carry b3 HS2.out
            have FF4 := Lib.hid (FF2.out.trans ((Fr.calm b3 fun _ _ => rfl : Fr T2 T2 (fun _ => False) w2 w3).mono fun _ h => h.elim))
            have X5 := carry b3 HQ2.out
            clear s0 s1 s2 s3 s4 s5 z0 z1 z2 z3 z4 z5 a0 a1 a2 a3 a4 a5 a6 a7 a8 a9 b3
            have y2 := froz_row R5 2
            have y3 := froz_row R5 3
            have y4 := froz_row R5 4
            have y5 := froz_row R5 5
            obtain ⟨-, -, t2, t3, t4, t5⟩ := st_cells R5
            obtain ⟨-, x1, x2, x3, -⟩ := rc_cells X5
            go_wp2_with fail
            rw [st_setM R5 []]
            have F6 : Fr T2 T2 (fun m => m = 2) w3 (w3.setRow (w.heap.size + 1) (stC ⟨s.a, s.b, (R j).i, (R j).t, (R j).n, []⟩ (.slice none 0 0))) := Fr.row TB2 _
            exact ⟨⟨j + 1, T2, _, by omega, rfl, rfl, HE.out, ⟨⟨none, 0, row_setRow R5 _, ElAt.nil _ _ _⟩, TB2⟩, FF4.out.trans (F6.mono fun _ h => .inr h), by show 0 ≤ _; omega, hri⟩, by simp [intOf]; omega⟩
      · have e3 : ((R j).k == 3) = false := by simp; omega
        have HE := Lib.hid (show fdS R (j + 1) = some s by rw [fdS, HFS.out, Option.bind_some]; unfold stp; rw [if_neg h1, if_neg h2, if_neg h3])
        clear h1 h2 h3
        go_wp2_with fail
        exact ⟨⟨j + 1, T2, s, by omega, rfl, rfl, HE.out, ⟨⟨V, cV, HS2.out, EL2.out⟩, TB2⟩, FF2.out, by omega, hsi⟩, by simp [intOf]; omega⟩
    · obtain rfl : j = n := by omega
      have d1 : decide ((j : Int) < (j : Int)) = false := decide_eq_false (by omega)
      obtain ⟨V, cV, hrS, hel⟩ := HST.out.ex
      have hra := HFR.out.rowAt HR0.out (by show ¬ (_ ∨ _); rw [hT1a]; decide)
      have HEL := Lib.hid hel
      have hTa : T w.heap.size = 4 := by rw [HFR.out.tag _ (by omega)]; exact hT1a
      have HZ := Lib.hid (HFS.out)
      have BW2 := Lib.hid (BW.out.trans (HFR.out.below (by omega) fun k hk => by show ¬ (_ ∨ _); rw [HT1.out k hk]; decide))
      have HHS := Lib.hid hrS
      clear hel
      go_wp2_with fail
      have F3 : Fr T T (fun m => m = 4) wo (wo.setRow w.heap.size (stC s (.slice V s.l.length cV))) := Fr.row hTa _
      exact bodyPost_ret (v := .tuple #[.agg (stC s (.slice V s.l.length cV)), .int .i64 0]) (res_ct Tryd.results10 _ _ w.heap.size _ _ rfl (row_setRow hra _) Tryd.underlying39 rfl (by rw [strr_i, st_size])) rfl ⟨below_setRow BW2.out (Nat.le_refl _) _, .inl ⟨s, V, cV, HZ.out, rfl, (HEL.out.fr enEl_ok F3 (by decide) (by decide)).ens 0 (fun k hk => absurd hk (by omega))⟩⟩
end Go.Proofs.YtdfcldomjjcidaaDoor.Oct
