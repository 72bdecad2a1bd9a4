/- Contracts: does. -/
import Derived.Test.YthdhbjfenanbnaaDkZe
namespace Go.Proofs.Ythdhbjfenanbnaa.Oct
open Go.ChangeShapes Go.WideShapes Go.ChangeAt Go.RowKit
set_option linter.unusedVariables false

/-- one more step at most -/
def Dk.next (d d' : Dk) : Prop := d'.n ≤ d.n + 1
set_option maxRecDepth 20000 in
set_option maxHeartbeats 16000000 in
theorem does_any (W : World) (T : Mk) (t B R : Nat) (d : Dk) (x : OpM) (A1 A2 : Option Addr) (c1 c2 : Nat) (w : World) (h : Sp W T w t B R d d) (hn : d.n < 1000000000) (hk : (Lit.int .i64 x.k).wf = true) (hz : (Lit.int .i64 x.z).wf = true) (hp : ∀ j, j < x.m → -9223372036854775808 ≤ x.p j ∧ x.p j < 9223372036854775808)
    (hb : Sl W W.heap.size A1 x.b.length c1 (lf x.b)) (hc : c1 ≤ maxLen) (hi : SlG W W.heap.size A2 x.m c2 (iV x.p)) :
    Calls Try.prog 15 #[.pointer (some ⟨B, 0, none⟩), .pointer (some ⟨R, 0, none⟩), .agg (opC x (.slice A1 x.b.length c1) (.slice A2 x.m c2))] w fun e w' => e = .returned (.bool true) ∧ ∃ T' d', Sp W T' w' t B R d' d' ∧ d'.n ≤ d.n + 1 := by
  have HZ := bounds_i64 hz
  have HP := Lib.hid hp
  have HB := Lib.hid hb
  have HI := Lib.hid hi
  have MB := Lib.hid hc
  have hsl := hb.le
  have b4 : Below w.heap.size w (w.alloc (.cells (opC x (.slice A1 x.b.length c1) (.slice A2 x.m c2)) 32)) := (Below.refl _ _).alloc (Nat.le_refl _) _
  have r4 := row_alloc_at w (opC x (.slice A1 x.b.length c1) (.slice A2 x.m c2)) 32 w.heap.size rfl
  have S4 := Lib.hid (show Sz W (paint T w.heap.size 0) _ t B R d d w.heap.size (opC x (.slice A1 x.b.length c1) (.slice A2 x.m c2)) from ⟨h.calm b4 0, r4, paint_new (Nat.le_refl _)⟩)
  clear h hp hb hi hc b4 r4 hz
  go_enter Try.func15, Try.ntmps15
  go_wp2_with fail
  obtain ⟨w4, hw4⟩ : ∃ w4, w4 = w.alloc (.cells (opC x (.slice A1 x.b.length c1) (.slice A2 x.m c2)) 32) := ⟨_, rfl⟩
  obtain ⟨T4, hT4⟩ : ∃ T4, T4 = paint T w.heap.size 0 := ⟨_, rfl⟩
  obtain ⟨Z, hZ⟩ : ∃ Z, Z = w.heap.size := ⟨_, rfl⟩
  rw [← hw4, ← hT4, ← hZ] at S4
  rw [← hw4, ← hZ]
  clear hw4 hT4 hZ
  have HK := Lib.hid (kind_any x.k 8 hk (by omega) (by omega) w4)
  rw [show ((8 : Nat) : Int) = 8 from rfl] at HK
  obtain ⟨e0, -⟩ := op_cells S4.out.row
  refine HK.out.mono ?_
  rintro e w1' ⟨rfl, rfl⟩
  have hq3 := knd_lt x.k (show 0 < 8 by omega)
  obtain ⟨q, hq⟩ : ∃ q, q = knd x.k 8 := ⟨_, rfl⟩
  rw [← hq] at hq3 ⊢
  clear hq HK hk e0
  rcases (show q = 0 ∨ q = 1 ∨ q = 2 ∨ q = 3 ∨ q = 4 ∨ q = 5 ∨ q = 6 ∨ q = 7 by omega) with rfl | rfl | rfl | rfl | rfl | rfl | rfl | rfl
  case' inr.inr.inr.inl =>
    go_wp2_with fail
    obtain ⟨oc, hoc⟩ : ∃ oc, oc = opC x (.slice A1 x.b.length c1) (.slice A2 x.m c2) := ⟨_, rfl⟩
    have HOC := Lib.hid hoc
    rw [← hoc] at S4 ⊢
    clear hoc
    refine flow_region [([0, 1, 2, 3, 4, 6, 7, 8, 9, 10], 5, false), ([], 11, true)] [12, 13] (fun y => row y Z = some oc) (by kernel_rfl) (by kernel_rfl) (fun _ _ _ _ _ h => h) (by rw [row_drewN]; exact S4.out.row) ?_
    have S5 := Lib.hid (S4.out.calm (below_drewN (Below.refl _ _) 1) 0)
    obtain ⟨w5, hw5⟩ : ∃ w5, w5 = w4.drewN 1 := ⟨_, rfl⟩
    obtain ⟨T5, hT5⟩ : ∃ T5, T5 = paint T4 w4.heap.size 0 := ⟨_, rfl⟩
    rw [← hw5, ← hT5] at S5
    rw [← hw5]
    clear hw5 hT5 S4
    have hne : Nonempty (In (fun y => row y Z = some oc)) := ⟨⟨_, S5.out.row⟩⟩
    have e1 : ∀ y : In (fun y => row y Z = some oc), y.val.cell? ⟨Z, 1, none⟩ = some (.int .i64 x.f) := fun y => (op_cells (y.ok.trans (congrArg some HOC.out))).2.1
    have e2 : ∀ y : In (fun y => row y Z = some oc), y.val.cell? ⟨Z, 2, none⟩ = some (.int .i64 x.z) := fun y => (op_cells (y.ok.trans (congrArg some HOC.out))).2.2.1
    simp only [wpFl, pk, List.getElem?_cons_zero, List.getElem?_cons_succ]
    refine quiet_in ?_
    repeat (go_big_quiet_step (fail))
    refine wpQuiet_nil ?_
    clear e1 e2 hne
    have HC := Lib.hid (s_cut S5.out.sp (by omega) x.f x.z)
    have un := onF_steps (f := x.f) (d := d) (g := fun i => d.cut i x.z) (fun i => cut_steps d i x.z)
    have HCY := fun (T : Mk) (w : World) (h : Sp W T w t B R (onF x.f d fun i => d.cut i x.z).2 d) => y_cut h (by omega) x.f x.z
    obtain ⟨r, hr⟩ : ∃ r, r = onF x.f d fun i => d.cut i x.z := ⟨_, rfl⟩
    rw [← hr] at HC un HCY
    have HY := Lib.hid HCY
    clear hr HCY
    go_wp2_with fail
    refine HC.out.mono ?_
    rintro e w6 ⟨rfl, T6, f6, S6⟩
    have S7 := Lib.hid (S5.out.dcall f6 S6)
    clear S6 f6 HC S5
    go_wp2_with fail
    refine ⟨fun y => row y Z = some oc, S7.out.row, ?_⟩
    first | refine ⟨.inr ⟨S7.out.row, fun _ h => h⟩, ?_⟩ | refine ⟨⟨S7.out.row, fun _ h => h⟩, ?_⟩ | refine ⟨S7.out.row, ?_⟩ | skip
    show wpQuiet _ _ _ _ _ _
    refine wpQuiet_nil ?_
    go_wp2_with fail
    refine (HY.out _ _ S7.out.sp).mono ?_
    rintro e w8 ⟨rfl, T8, f8, S8⟩
    have S9 := Lib.hid S8
    clear S8 f8 S7 HY
    go_wp2_with fail
    first | refine ⟨fun _ => True, trivial, .inl trivial, ?_⟩ | refine ⟨fun _ => True, trivial, ?_⟩
    show wpQuiet _ _ _ _ _ _
    refine quiet_in ?_
    have hne : Nonempty (In (fun _ => True)) := ⟨⟨w8, trivial⟩⟩
    repeat (go_big_quiet_step (fail))
    refine wpQuiet_nil ?_
    go_wp2_with fail
    go_ret
    exact ⟨rfl, T8, r.2, S9.out, un⟩
  case' inr.inr.inr.inr.inl =>
    go_wp2_with fail
    obtain ⟨oc, hoc⟩ : ∃ oc, oc = opC x (.slice A1 x.b.length c1) (.slice A2 x.m c2) := ⟨_, rfl⟩
    have HOC := Lib.hid hoc
    rw [← hoc] at S4 ⊢
    clear hoc
    refine flow_region [([0, 1, 2, 4, 5, 6], 3, false), ([], 7, true)] [8, 9] (fun y => row y Z = some oc) (by kernel_rfl) (by kernel_rfl) (fun _ _ _ _ _ h => h) (by rw [row_drewN]; exact S4.out.row) ?_
    have S5 := Lib.hid (S4.out.calm (below_drewN (Below.refl _ _) 1) 0)
    obtain ⟨w5, hw5⟩ : ∃ w5, w5 = w4.drewN 1 := ⟨_, rfl⟩
    obtain ⟨T5, hT5⟩ : ∃ T5, T5 = paint T4 w4.heap.size 0 := ⟨_, rfl⟩
    rw [← hw5, ← hT5] at S5
    rw [← hw5]
    clear hw5 hT5 S4
    have hne : Nonempty (In (fun y => row y Z = some oc)) := ⟨⟨_, S5.out.row⟩⟩
    have e1 : ∀ y : In (fun y => row y Z = some oc), y.val.cell? ⟨Z, 1, none⟩ = some (.int .i64 x.f) := fun y => (op_cells (y.ok.trans (congrArg some HOC.out))).2.1
    simp only [wpFl, pk, List.getElem?_cons_zero, List.getElem?_cons_succ]
    refine quiet_in ?_
    repeat (go_big_quiet_step (fail))
    refine wpQuiet_nil ?_
    clear e1 hne
    have HC := Lib.hid (s_sync S5.out.sp (by omega) x.f)
    have un := onF_steps (f := x.f) (d := d) (g := fun i => d.sync i) (fun i => sync_steps d i)
    have HCY := fun (T : Mk) (w : World) (h : Sp W T w t B R (onF x.f d fun i => d.sync i).2 d) => y_sync h (by omega) x.f
    obtain ⟨r, hr⟩ : ∃ r, r = onF x.f d fun i => d.sync i := ⟨_, rfl⟩
    rw [← hr] at HC un HCY
    have HY := Lib.hid HCY
    clear hr HCY
    go_wp2_with fail
    refine HC.out.mono ?_
    rintro e w6 ⟨rfl, T6, f6, S6⟩
    have S7 := Lib.hid (S5.out.dcall f6 S6)
    clear S6 f6 HC S5
    go_wp2_with fail
    refine ⟨fun y => row y Z = some oc, S7.out.row, ?_⟩
    first | refine ⟨.inr ⟨S7.out.row, fun _ h => h⟩, ?_⟩ | refine ⟨⟨S7.out.row, fun _ h => h⟩, ?_⟩ | refine ⟨S7.out.row, ?_⟩ | skip
    show wpQuiet _ _ _ _ _ _
    refine wpQuiet_nil ?_
    go_wp2_with fail
    refine (HY.out _ _ S7.out.sp).mono ?_
    rintro e w8 ⟨rfl, T8, f8, S8⟩
    have S9 := Lib.hid S8
    clear S8 f8 S7 HY
    go_wp2_with fail
    first | refine ⟨fun _ => True, trivial, .inl trivial, ?_⟩ | refine ⟨fun _ => True, trivial, ?_⟩
    show wpQuiet _ _ _ _ _ _
    refine quiet_in ?_
    have hne : Nonempty (In (fun _ => True)) := ⟨⟨w8, trivial⟩⟩
    repeat (go_big_quiet_step (fail))
    refine wpQuiet_nil ?_
    go_wp2_with fail
    go_ret
    exact ⟨rfl, T8, r.2, S9.out, un⟩
  case' inr.inr.inr.inr.inr.inl =>
    obtain ⟨-, -, e2, -⟩ := op_cells S4.out.row
    have HC := Lib.hid (s_fuse S4.out.sp (n := x.z) (by omega))
    go_wp2_with fail
    refine HC.out.mono ?_
    rintro e w6 ⟨rfl, T6, f6, S6⟩
    have S7 := Lib.hid (S4.out.dcall f6 S6)
    clear e2 S6 f6 HC S4
    obtain ⟨-, -, e2, -⟩ := op_cells S7.out.row
    have HC := Lib.hid (y_fuse S7.out.sp (n := x.z) (by omega))
    go_wp2_with fail
    refine HC.out.mono ?_
    rintro e w8 ⟨rfl, T8, f8, S8⟩
    have S9 := Lib.hid S8
    clear S8 f8 S7 HC e2
    go_wp2_with fail
    go_ret
    exact ⟨rfl, T8, _, S9.out, Nat.le_succ _⟩
  case' inr.inr.inr.inr.inr.inr.inl =>
    obtain ⟨-, -, -, -, e4⟩ := op_cells S4.out.row
    have HC := Lib.hid (s_boot S4.out.sp (by omega) (S4.out.sp.sn.ints HI.out HP.out))
    go_wp2_with fail
    refine HC.out.mono ?_
    rintro e w6 ⟨rfl, T6, f6, S6⟩
    have S7 := Lib.hid (S4.out.dcall f6 S6)
    clear e4 S6 f6 HC S4
    obtain ⟨-, -, -, -, e4⟩ := op_cells S7.out.row
    have HC := Lib.hid (y_boot S7.out.sp (by omega) (S7.out.sp.sn.ints HI.out HP.out))
    go_wp2_with fail
    refine HC.out.mono ?_
    rintro e w8 ⟨rfl, T8, f8, S8⟩
    have S9 := Lib.hid S8
    clear S8 f8 S7 HC e4
    go_wp2_with fail
    go_ret
    exact ⟨rfl, T8, _, S9.out, Nat.le_succ _⟩
  case' inr.inr.inr.inr.inr.inr.inr =>
    go_wp2_with fail
    go_ret
    exact ⟨rfl, T4, d, S4.out.sp, Nat.le_succ _⟩
  all_goals
    have b5 : Below w4.heap.size w4 (w4.alloc (.cells #[] 5)) := (Below.refl _ _).alloc (Nat.le_refl _) _
    have S5 := Lib.hid (S4.out.calm b5 61)
    obtain ⟨-, -, -, e3, -⟩ := op_cells S5.out.row
    have zo := S4.out.sp.sn.bel.size
    have z5 := b5.size
    have HFW := Lib.hid (fun y => few_any A1 _ c1 hsl MB.out y)
    rw [few_len x.b] at HFW
    obtain ⟨b, hb⟩ : ∃ b, b = x.b.take 100 := ⟨_, rfl⟩
    have hb1 : b.length ≤ 100 := by rw [hb, List.length_take]; omega
    have SB := Lib.hid (few_sl HB.out)
    rw [← hb] at HFW SB
    have OE := Lib.hid (Own.empty w4 w4.heap.size 5 nF (Nat.le_refl _))
    have SE := Lib.hid ((SB.out.below S5.out.sp.sn.bel).more S5.out.sp.sn.bel.size)
    have B5 := Lib.hid b5
    clear hb b5 S5
    go_wp2_with fail
    refine (HFW.out _).mono ?_
    rintro e w6 ⟨rfl, rfl⟩
    clear e3
    go_wp2_with (at_builtin; refine wpl_appB rfl (.tmp 17) (.tmp 20) rfl sli_u u8_info OE.out SE.out (by omega) z5 rfl rfl ?_; intro v6 w6 ho6 hg6 ht6
                 have B6 := Lib.hid (OE.out.after hg6 B5.out z5 (Nat.le_refl _))
                 have S6 := Lib.hid (S4.out.calm B6.out 61)
                 obtain ⟨-, e1, -⟩ := op_cells S6.out.row)
    rw [catF_zero, Nat.zero_add] at ho6
    have D6 := Lib.hid (OwB.of_new (l := b) ho6 rfl (fun _ _ => rfl) T4 61)
    obtain ⟨A6, c6, rfl, r6, hm6⟩ := D6.out.rd
    have RD6 := Lib.hid r6
    have HC := Lib.hid (s_append S6.out.sp (by omega) (f := x.f) (b := b) rfl RD6.out.sl (by omega))
    have un := onF_steps (f := x.f) (d := d) (g := fun i => d.app i b) (fun i => app_steps d i b)
    have HCY := fun (T : Mk) (w : World) (h : Sp W T w t B R (onF x.f d fun i => d.app i b).2 d) (hs : RdS T w 0 A1 b.length c1 (lf b)) => y_append h (by omega) (f := x.f) rfl hs (by omega)
    obtain ⟨r, hr⟩ : ∃ r, r = onF x.f d fun i => d.app i b := ⟨_, rfl⟩
    rw [← hr] at HC un HCY
    have HY := Lib.hid HCY
    clear hr HCY ho6 hg6 ht6 r6 OE SE B5 z5
    refine HC.out.mono ?_
    rintro e w7 ⟨rfl, T7, f7, S7⟩
    have S8 := Lib.hid (S6.out.dcall f7 S7)
    have D8 := Lib.hid (D6.out.fr f7 (fun e => by have := e.2; have := S6.out.sp.t1; omega))
    clear e1 S7 f7 HC S6 D6 RD6 S4 B6
    go_wp2_with fail
    go_loopw [9] (fun iv wr => ∃ (j : Nat) (T : Mk) (f : Bf), j ≤ b.length ∧ iv = .int .i64 (j : Int) ∧ Sz W T wr t B R r.2 d Z (opC x (.slice A1 x.b.length c1) (.slice A2 x.m c2)) ∧ Own wr 0 5 (.slice A6 b.length c6) b.length f ∧ ∀ g, (Value.slice A6 b.length c6).ownBlock = some g → T g = 61) (fun iv _ => b.length - (intOf iv).toNat)
    case' atStart => exact ⟨0, T7, lf b, by omega, rfl, S8.out, D8.out.own, D8.out.tg⟩
    case' round =>
      clear S8 D8
      obtain ⟨j, T, f, hj, rfl, S, O, tg⟩ := hrel
      obtain ⟨wo, rfl⟩ : ∃ wo : World, wo = wr := ⟨_, rfl⟩
      have SI := Lib.hid S
      have OI := Lib.hid O
      have TI := Lib.hid tg
      clear S O tg
      by_cases hlt : j < b.length
      · have hd1 : decide ((j : Int) < (b.length : Int)) = true := by simp; omega
        obtain ⟨A', c', e', hs', -, hA'⟩ := OI.out.sl
        cases e'
        obtain ⟨g6, hg6, -⟩ : ∃ g2, A6 = some ⟨g2, 0, none⟩ ∧ 0 ≤ g2 := by
          rcases hA' with rfl | h
          · obtain ⟨_, _, e, _⟩ := hs'.at_ (by omega); cases e
          · exact h
        subst hg6
        obtain ⟨fz, cl, o2⟩ := OI.out.set (g := g6) (i := j) (x := 99#8) rfl hlt
        have O2 := Lib.hid o2
        have F2 := Lib.hid (Fr.cell (T := T) (w := wo) (H := fun y => y = 61) (a := ⟨g6, j, none⟩) (TI.out g6 rfl) (.int .u8 (I 99#8)))
        have S2 := Lib.hid (SI.out.other F2.out (fun c hc => by omega))
        clear o2 hs' hA'
        go_wp2_with fail
        exact ⟨⟨j + 1, T, _, by omega, by push_cast; rfl, S2.out, O2.out, TI.out⟩, by simp [intOf]; omega⟩
      · have hd1 : decide ((j : Int) < (b.length : Int)) = false := by simp; omega
        clear OI TI
        go_wp2_with fail
        refine flow_free [0, 1, 2, 4] [([3, 5], 6, false), ([], 7, true)] [8, 9] (fun y => row y Z = some (opC x (.slice A1 x.b.length c1) (.slice A2 x.m c2))) (by kernel_rfl) (by kernel_rfl) (fun _ _ _ _ _ h => h) (by rw [row_drewN]; exact SI.out.row) ?_
        have hne : Nonempty (In (fun _ => True)) := ⟨⟨wo, trivial⟩⟩
        simp only [pk, List.getElem?_cons_zero, List.getElem?_cons_succ]
        repeat (go_big_quiet_step (fail))
        refine wpQuiet_nil ?_
        clear hne
        have S9 := Lib.hid (SI.out.calm (below_drewN (Below.refl _ _) 1) 0)
        obtain ⟨w9, hw9⟩ : ∃ w9, w9 = wo.drewN 1 := ⟨_, rfl⟩
        obtain ⟨T9, hT9⟩ : ∃ T9, T9 = paint T wo.heap.size 0 := ⟨_, rfl⟩
        rw [← hw9, ← hT9] at S9
        rw [← hw9]
        clear hw9 hT9 SI
        have hne : Nonempty (In (fun y => row y Z = some (opC x (.slice A1 x.b.length c1) (.slice A2 x.m c2)))) := ⟨⟨_, S9.out.row⟩⟩
        have e1 : ∀ y : In (fun y => row y Z = some (opC x (.slice A1 x.b.length c1) (.slice A2 x.m c2))), y.val.cell? ⟨Z, 1, none⟩ = some (.int .i64 x.f) := fun y => (op_cells y.ok).2.1
        have e3 : ∀ y : In (fun y => row y Z = some (opC x (.slice A1 x.b.length c1) (.slice A2 x.m c2))), y.val.cell? ⟨Z, 3, none⟩ = some (.slice A1 x.b.length c1) := fun y => (op_cells y.ok).2.2.2.1
        simp only [wpFl, pk, List.getElem?_cons_zero, List.getElem?_cons_succ]
        refine quiet_in ?_
        repeat (go_big_quiet_step (fail))
        refine wpQuiet_nil ?_
        clear e1 e3 hne
        go_wp2_with fail
        refine (HFW.out _).mono ?_
        rintro e w' ⟨rfl, rfl⟩
        go_wp2_with fail
        refine ⟨fun y => row y Z = some (opC x (.slice A1 x.b.length c1) (.slice A2 x.m c2)), S9.out.row, ?_⟩
        first | refine ⟨.inr ⟨S9.out.row, fun _ h => h⟩, ?_⟩ | refine ⟨⟨S9.out.row, fun _ h => h⟩, ?_⟩ | refine ⟨S9.out.row, ?_⟩ | skip
        show wpQuiet _ _ _ _ _ _
        refine wpQuiet_nil ?_
        have SR := RdS.of_sl (t := 0) (SB.out.below S9.out.sp.sn.bel) S9.out.sp.sn.bel.size (fun k hk => S9.out.sp.sn.low k hk)
        have HYC := Lib.hid (HY.out _ _ S9.out.sp SR)
        clear SR HY S9
        go_wp2_with fail
        refine HYC.out.mono ?_
        rintro e w8 ⟨rfl, T8, f8, S8⟩
        have S10 := Lib.hid S8
        clear S8 f8 HYC
        go_wp2_with fail
        first | refine ⟨fun _ => True, trivial, .inl trivial, ?_⟩ | refine ⟨fun _ => True, trivial, ?_⟩
        show wpQuiet _ _ _ _ _ _
        refine quiet_in ?_
        have hne : Nonempty (In (fun _ => True)) := ⟨⟨w8, trivial⟩⟩
        repeat (go_big_quiet_step (fail))
        refine wpQuiet_nil ?_
        go_wp2_with fail
        go_ret
        exact ⟨rfl, T8, r.2, S10.out, un⟩
end Go.Proofs.Ythdhbjfenanbnaa.Oct
