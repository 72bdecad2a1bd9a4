/- Contracts of the reference: Read, Append. -/
import Derived.Test.YthdhbjfenanbnaaDkZ
namespace Go.Proofs.Ythdhbjfenanbnaa.Oct
open Go.ChangeShapes Go.WideShapes Go.ChangeAt Go.RowKit
set_option linter.unusedVariables false

set_option maxHeartbeats 2000000 in
theorem rread_any (T : Mk) (t B : Nat) (d : Dk) (f : Int) (w : World) (h : RkAt T w t B d) (hl : ∀ i, i < 4 → (d.f i).l.length ≤ 1000000000000) :
    Calls Try.prog 19 #[.pointer (some ⟨B, 0, none⟩), .int .i64 f] w fun e w' => ∃ v, e = .returned (.tuple #[v, .int .i64 ((d.read f).1 : Int)]) ∧ Own w' w.heap.size 5 v (d.read f).2.length (lf (d.read f).2) ∧ Below w.heap.size w w' := by
  by_cases hf : 0 ≤ f ∧ f < 4
  · obtain ⟨V, hr, -, h3⟩ := h.row
    obtain ⟨q1, -, -⟩ := rk_cells hr
    have hd0 : decide (f < 0) = false := by simp; omega
    have hd1 : decide (3 < f) = false := by simp; omega
    cases ho : d.off with
    | true =>
      have HRD := Lib.hid (show d.read f = (5, []) by unfold Dk.read; rw [if_pos hf, if_pos ho])
      rw [ho] at q1
      clear hr h3 h
      go_enter Try.func19, Try.ntmps19
      go_wp2_with fail
      rw [HRD.out]
      exact bodyPost_ret (v := .tuple #[.slice none 0 0, .int .i64 5]) (by simp [results, Try.results19, go_sem]) rfl ⟨_, rfl, Own.nil _ _ _ _, Below.refl _ _⟩
    | false =>
      obtain ⟨F, rfl⟩ : ∃ F : Nat, f = (F : Int) := ⟨f.toNat, by omega⟩
      have hF : F < 4 := by omega
      have HRD := Lib.hid (show d.read F = (0, (d.f F).all) by unfold Dk.read; rw [if_pos hf, if_neg (by rw [ho]; simp), Int.toNat_natCast])
      obtain ⟨⟨A1, c1, hv1, hr1⟩, hp1, ok1⟩ := h3 F hF
      obtain ⟨A2, c2, hv2, hp2, -⟩ := hp1.sl
      have HC := Lib.hid (fun (y : World) (hy : Below w.heap.size w y) => rhas_any (paint T w.heap.size 0) (t + 1 + F) c1 c2 A1 A2 (d.f F).s (d.f F).l y (hr1.fr (Fr.new (H := fun _ => False) hy 0) (fun e => e)).sl (hp2.fr doE_ok (Fr.new (H := fun _ => False) hy 0) (fun e => e) (fun e => e)) ok1 (hl F hF))
      rw [ho] at q1
      have b1 : decide ((F : Int) < 4) = true := by simp; omega
      have g1 : w.cell? ⟨B, F * 2, none⟩ = some (.slice A1 (d.f F).s.length c1) := by rw [cell_row hr, rk_get _ _ _ _ (by omega), show F * 2 = 2 * F by omega, hv1]
      have g2 : w.cell? ⟨B, F * 2 + 1, none⟩ = some (.slice A2 (d.f F).l.length c2) := by rw [cell_row hr, rk_get _ _ _ _ (by omega), show F * 2 + 1 = 2 * F + 1 by omega, hv2]
      have hB := row_lt hr
      have G1 := Lib.hid g1
      have G2 := Lib.hid g2
      clear hr h3 h hp1 hr1 hp2 hv1 hv2 g1 g2
      go_enter Try.func19, Try.ntmps19
      go_wp2_with fail
      refine flow_seen [([0, 1, 2, 3, 4, 5, 6, 7, 8, 9, 10, 11, 12, 13], 14, true)] [15, 16] (by kernel_rfl) (by kernel_rfl) (fun _ _ _ _ _ h => h) fun X => ?_
      have B3 := Lib.hid X.below
      obtain ⟨w3, hw3⟩ : ∃ w3, w3 = X.val := ⟨_, rfl⟩
      rw [← hw3] at B3 ⊢
      clear hw3 X q1
      have e1 : ∀ y : After w3, y.val.cell? ⟨B, F * 2, none⟩ = some (.slice A1 (d.f F).s.length c1) := fun y => ((onto B3.out B3.out.size y.below).cell (p := ⟨B, F * 2, none⟩) hB).trans G1.out
      have e2 : ∀ y : After w3, y.val.cell? ⟨B, F * 2 + 1, none⟩ = some (.slice A2 (d.f F).l.length c2) := fun y => ((onto B3.out B3.out.size y.below).cell (p := ⟨B, F * 2 + 1, none⟩) hB).trans G2.out
      simp only [wpFs, pk, List.getElem?_cons_zero, List.getElem?_cons_succ]
      repeat (go_big_quiet_step (fail))
      refine wpQuiet_nil ?_
      clear e1 e2
      go_wp2_with fail
      refine (HC.out w3 B3.out).mono ?_
      rintro e w4 ⟨v, rfl, o4, b4⟩
      have O4 := Lib.hid (o4.base B3.out.size)
      have B4 := Lib.hid (onto B3.out B3.out.size b4)
      obtain ⟨A, c, hv, -⟩ := o4.sl
      subst hv
      clear o4 b4 HC
      go_wp2_with fail
      first | refine ⟨.inl trivial, ?_⟩ | skip
      show wpQuiet _ _ _ _ _ _
      repeat (go_big_quiet_step (fail))
      refine wpQuiet_nil ?_
      go_wp2_with fail
      rw [HRD.out]
      exact bodyPost_ret (v := .tuple #[.slice A (has (d.f F).s (d.f F).l).length c, .int .i64 0]) (by simp [results, Try.results19, go_sem]) rfl ⟨_, rfl, O4.out, B4.out⟩
  · have hd : decide (f < 0) = true ∨ (decide (f < 0) = false ∧ decide (3 < f) = true) := by
      by_cases h0 : f < 0
      · exact .inl (by simpa using h0)
      · exact .inr ⟨by simp; omega, by simp; omega⟩
    have HRD := Lib.hid (show d.read f = (1, []) by unfold Dk.read; rw [if_neg hf])
    clear h hl hf
    rcases hd with hd | ⟨hd, hd1⟩
    all_goals
      go_enter Try.func19, Try.ntmps19
      go_wp2_with fail
      rw [HRD.out]
      exact bodyPost_ret (v := .tuple #[.slice none 0 0, .int .i64 1]) (by simp [results, Try.results19, go_sem]) rfl ⟨_, rfl, Own.nil _ _ _ _, Below.refl _ _⟩
theorem tick_done (d : Dk) (i : Nat) (x : Fl) : ({ d.tick with f := updD d.tick.f i x } : Dk) = d.done i x := rfl
theorem rk_fil {T' : Mk} {w' : World} {t B i : Nat} {d : Dk} {x : Fl} {V : Nat → Value} {vd vp : Value} (hT : T' B = t) (hi : i < 4) (hr : row w' B = some (rkC (updV (updV V (2 * i) vd) (2 * i + 1) vp) d.off (leftI d.u) d.n))
    (hu : ∀ m, d.u = some m → m < 9223372036854775808) (h3 : ∀ j, j < 4 → j ≠ i → RFil T' w' (t + 1 + j) (V (2 * j)) (V (2 * j + 1)) (d.f j)) (hx : RFil T' w' (t + 1 + i) vd vp x) :
    RkAt T' w' t B { d with f := updD d.f i x } :=
  ⟨hT, ⟨_, hr, hu, fun j hj => by
    show RFil _ _ _ _ _ (updD d.f i x j)
    by_cases e : j = i
    · subst e
      rw [updD_same, updV_same, updV_other _ _ (by omega), updV_same]
      exact hx
    · rw [updD_other _ _ e, updV_other _ _ (by omega), updV_other _ _ (by omega), updV_other _ _ (by omega), updV_other _ _ (by omega)]
      exact h3 j hj e⟩⟩
theorem RkAt.hs {T T' : Mk} {w w' : World} {t : Nat} (h : Fr T T' (fun y => y = t) w w') : Fr T T' (Hs t) w w' := h.mono fun y hy => by subst hy; exact ⟨Nat.le_refl _, by omega⟩
set_option maxHeartbeats 4000000 in
theorem rappend_any (T : Mk) (t B n c : Nat) (A : Option Addr) (b : By) (d : Dk) (f : Int) (w : World) (h : RkAt T w t B d) (hk : d.ok) (ht : 0 < t) (hn : d.n < 1000000000000) (hnb : n = b.length) (hs : RdS T w 0 A n c (lf b)) (hn2 : n ≤ 140737488355328) :
    Calls Try.prog 33 #[.pointer (some ⟨B, 0, none⟩), .int .i64 f, .slice A n c] w fun e w' => e = .returned (.int .i64 ((onF f d fun i => d.app i b).1 : Int)) ∧ ∃ T', Fr T T' (Hs t) w w' ∧ RkAt T' w' t B (onF f d fun i => d.app i b).2 := by
  subst hnb
  by_cases hf : 0 ≤ f ∧ f < 4
  · obtain ⟨F, rfl⟩ : ∃ F : Nat, f = (F : Int) := ⟨f.toNat, by omega⟩
    have hF : F < 4 := by omega
    have b1 : decide ((F : Int) < 4) = true := by simp; omega
    have hd0 : decide ((F : Int) < 0) = false := by simp
    have hd1 : decide (3 < (F : Int)) = false := by simp; omega
    rw [on_in F hF]
    obtain ⟨V, hr, hu, h3⟩ := h.row
    obtain ⟨q1, q2, q3⟩ := rk_cells hr
    by_cases hd : d.dead
    · have HS := Lib.hid (show d.app F b = (5, d.dark) from if_pos hd)
      have HK := Lib.hid (rk_head (d' := d.dark) hr h.tg ht h3 hu rfl)
      have z1 := froz_row hr 8
      have k1 := Lib.hid (show w.setCell ⟨B, 8, none⟩ (.bool true) = w.setRow B (rkC V d.dark.off (leftI d.dark.u) d.dark.n) from rk_off hr true)
      clear h hr hu h3 q3 hs hk
      rcases hoff : d.off with _ | _
      · have hu0 : d.u = some 0 := by
          rcases hd with e | e
          · rw [hoff] at e; cases e
          · exact e
        rw [hu0] at q2
        rw [hoff] at q1
        have q2' : w.cell? ⟨B, 9, none⟩ = some (.int .i64 0) := q2
        clear q2 hd hoff hu0
        go_enter Try.func33, Try.ntmps33
        go_wp2_with fail
        rw [k1.out]
        go_ret
        rw [HS.out]
        exact ⟨rfl, T, RkAt.hs HK.out.1, HK.out.2⟩
      · rw [hoff] at q1
        clear hd hoff q2
        go_enter Try.func33, Try.ntmps33
        go_wp2_with fail
        rw [k1.out]
        go_ret
        rw [HS.out]
        exact ⟨rfl, T, RkAt.hs HK.out.1, HK.out.2⟩
    · have hoff : d.off = false := by
        rcases e : d.off with _ | _
        · rfl
        · exact absurd (.inl e) hd
      have hl0 : (leftI d.u == 0) = false := by
        rcases e : d.u with _ | m
        · rfl
        · have : m ≠ 0 := fun e2 => hd (.inr (by rw [e, e2]))
          show ((m : Int) == 0) = false
          simpa using this
      rw [hoff] at q1
      obtain ⟨l, hl⟩ : ∃ l, l = leftI d.u := ⟨_, rfl⟩
      rw [← hl] at q2 hl0
      clear hl q3
      have hlF := hk.few F hF
      obtain ⟨⟨A1, c1, hv1, hr1⟩, hp1, ok1⟩ := h3 F hF
      obtain ⟨A2, c2, hv2, hp2, -⟩ := hp1.sl
      have HC := Lib.hid (fun (y : World) (hy : Below w.heap.size w y) => rhas_any (paint T w.heap.size 0) (t + 1 + F) c1 c2 A1 A2 (d.f F).s (d.f F).l y (hr1.fr (Fr.new (H := fun _ => False) hy 0) (fun e => e)).sl (hp2.fr doE_ok (Fr.new (H := fun _ => False) hy 0) (fun e => e) (fun e => e)) ok1 (by omega))
      have hal : (has (d.f F).s (d.f F).l).length ≤ maxF := ok1.len
      have hM := maxF_eq
      obtain ⟨N, hN⟩ : ∃ N, N = (has (d.f F).s (d.f F).l).length := ⟨_, rfl⟩
      rw [← hN] at HC hal
      have HN := Lib.hid (show (d.f F).all.length = N from hN.symm)
      have g1 : w.cell? ⟨B, F * 2, none⟩ = some (.slice A1 (d.f F).s.length c1) := by rw [cell_row hr, rk_get _ _ _ _ (by omega), show F * 2 = 2 * F by omega, hv1]
      have g2 : w.cell? ⟨B, F * 2 + 1, none⟩ = some (.slice A2 (d.f F).l.length c2) := by rw [cell_row hr, rk_get _ _ _ _ (by omega), show F * 2 + 1 = 2 * F + 1 by omega, hv2]
      have hB := row_lt hr
      have G1 := Lib.hid g1
      have G2 := Lib.hid g2
      have HA := Lib.hid h
      have HS := Lib.hid hs
      have HK := Lib.hid hk
      have HD := Lib.hid hd
      clear hr h3 h hp1 hr1 hp2 hv1 hv2 g1 g2 hs hk hd hu hN hoff
      go_enter Try.func33, Try.ntmps33
      go_wp2_with fail
      refine flow_seen [([0, 1, 2, 3, 4, 5, 6, 7, 8, 9, 10, 11, 12, 13, 14, 15], 16, false)] [17, 18, 19] (by kernel_rfl) (by kernel_rfl) (fun _ _ _ _ _ h => h) fun X => ?_
      have B3 := Lib.hid X.below
      obtain ⟨w3, hw3⟩ : ∃ w3, w3 = X.val := ⟨_, rfl⟩
      rw [← hw3] at B3 ⊢
      clear hw3 X q1 q2 hl0
      have e1 : ∀ y : After w3, y.val.cell? ⟨B, F * 2, none⟩ = some (.slice A1 (d.f F).s.length c1) := fun y => ((onto B3.out B3.out.size y.below).cell (p := ⟨B, F * 2, none⟩) hB).trans G1.out
      have e2 : ∀ y : After w3, y.val.cell? ⟨B, F * 2 + 1, none⟩ = some (.slice A2 (d.f F).l.length c2) := fun y => ((onto B3.out B3.out.size y.below).cell (p := ⟨B, F * 2 + 1, none⟩) hB).trans G2.out
      simp only [wpFs, pk, List.getElem?_cons_zero, List.getElem?_cons_succ]
      repeat (go_big_quiet_step (fail))
      refine wpQuiet_nil ?_
      clear e1 e2
      go_wp2_with fail
      refine (HC.out w3 B3.out).mono ?_
      rintro e w4 ⟨v, rfl, o4, b4⟩
      have B4 := Lib.hid (onto B3.out B3.out.size b4)
      have B34 := Lib.hid b4
      obtain ⟨A4, c4, hv, -⟩ := o4.sl
      subst hv
      clear o4 b4 HC B3
      have A4' := Lib.hid (HA.out.fr (Fr.new (T := T) (H := fun _ => False) B4.out 0) (fun _ _ e => e) (fun e => e))
      have F4 := Lib.hid (Fr.new (T := T) (H := Hs t) B4.out 0)
      have S4 := Lib.hid (HS.out.fr (Fr.new (T := T) (H := fun _ => False) B4.out 0) (fun e => e))
      obtain ⟨T4, hT4⟩ : ∃ T4, T4 = paint T w.heap.size 0 := ⟨_, rfl⟩
      rw [← hT4] at A4' F4 S4
      clear hT4 HA HS
      by_cases hlong : 1048576 - (N : Int) < (b.length : Int)
      · have hdl : decide (1048576 - (N : Int) < (b.length : Int)) = true := by simpa using hlong
        have HP := Lib.hid (show d.app F b = (2, d) by unfold Dk.app; rw [if_neg HD.out, if_pos (by rw [HN.out]; omega)])
        clear hlong
        go_wp2_with fail
        first | refine ⟨.inr B34.out, ?_⟩ | refine ⟨B34.out, ?_⟩
        show wpQuiet _ _ _ _ _ _
        repeat (go_big_quiet_step (fail))
        refine wpQuiet_nil ?_
        go_wp2_with fail
        go_ret
        rw [HP.out]
        exact ⟨rfl, T4, F4.out, A4'.out⟩
      · have hdl : decide (1048576 - (N : Int) < (b.length : Int)) = false := by simpa using hlong
        have HP := Lib.hid (show d.app F b = (0, d.done F ((d.f F).app b)) by unfold Dk.app; rw [if_neg HD.out, if_neg (by rw [HN.out]; omega)])
        have hlen : (d.f F).all.length + b.length ≤ maxF := by rw [HN.out]; omega
        clear hlong
        go_wp2_with fail
        first | refine ⟨.inr B34.out, ?_⟩ | refine ⟨B34.out, ?_⟩
        show wpQuiet _ _ _ _ _ _
        repeat (go_big_quiet_step (fail))
        refine wpQuiet_nil ?_
        have HST := Lib.hid (rstep_any T4 t B d w4 A4'.out ht hn)
        rw [show d.stp = (0, d.tick) from if_neg HD.out] at HST
        go_wp2_with fail
        refine HST.out.mono ?_
        rintro e w5 ⟨rfl, f5, a5⟩
        have F5 := Lib.hid (F4.out.trans (RkAt.hs f5))
        have S5 := Lib.hid (S4.out.fr f5 (by omega))
        have A5 := Lib.hid a5
        clear HST f5 a5 F4 A4' S4
        -- the change is laid
        obtain ⟨V5, hr5, hu5, h35⟩ := A5.out.row
        have HT5 := Lib.hid A5.out.tg
        have H35 := Lib.hid h35
        have HU5 := Lib.hid hu5
        obtain ⟨-, hp5, ok5⟩ := h35 F hF
        obtain ⟨A5', c5, hv5, -, -⟩ := hp5.sl
        obtain ⟨Cc, hCc⟩ : ∃ Cc, Cc = rkC V5 d.tick.off (leftI d.tick.u) d.tick.n := ⟨_, rfl⟩
        rw [← hCc] at hr5
        have hg5 : Cc[F * 2 + 1]? = some (.slice A5' (d.f F).l.length c5) := by rw [hCc, rk_get _ _ _ _ (by omega), show F * 2 + 1 = 2 * F + 1 by omega, hv5]; rfl
        have HC5 := Lib.hid hCc
        have HG5 := Lib.hid hg5
        have R5 := Lib.hid hr5
        rw [hv5] at hp5
        have P5 := Lib.hid (show ElOw 3 doE T4 w5 (t + 1 + F) 77 (.slice A5' (d.f F).l.length c5) (d.f F).l from hp5)
        obtain ⟨xs, hxs, hel⟩ := P5.out.own
        have HXS := Lib.hid hxs
        have HEL := Lib.hid hel
        have zB := row_lt hr5
        clear hr5 hu5 h35 hp5 hv5 hCc hg5 hxs hel A5
        go_wp2_with fail
        refine flow_shut 19 [.inl [0, 1, 2, 3, 4, 5, 6, 7, 8, 10, 15, 16], pS 9, pU 9, pE 11, .inl [12], pS 13, pU 13, pE 14, .inl [17, 18], pE 19] (fun y => row y B = some Cc) (B :: (Value.slice A5' (d.f F).l.length c5).ownBlock.toList) (by kernel_rfl) (by kernel_rfl) (fun _ _ _ _ _ h => h) (fun _ _ _ _ _ h => h) (fun y z h => row_alloc h z) (by rw [row_drewN]; exact R5.out) (fun k hk => by
          rcases List.mem_cons.1 hk with rfl | hk
          · exact zB
          · exact (World.ownsRow.lt HXS.out k (by simpa using hk)).2) ?_
        have hne : Nonempty (In (fun y => row y B = some Cc)) := ⟨⟨_, R5.out⟩⟩
        have B6 := Lib.hid (below_drewN (Below.refl w5.heap.size w5) 1)
        obtain ⟨w6, hw6⟩ : ∃ w6, w6 = w5.drewN 1 := ⟨_, rfl⟩
        rw [← hw6] at B6 ⊢
        clear hw6
        have e1 : ∀ y : In (fun y => row y B = some Cc), y.val.cell? ⟨B, F * 2 + 1, none⟩ = some (.slice A5' (d.f F).l.length c5) := fun y => by rw [cell_row y.ok]; exact HG5.out
        refine wpM_q ?_
        simp only [pk, List.getElem?_cons_zero, List.getElem?_cons_succ]
        repeat (go_big_quiet_step (fail))
        refine wpQuiet_nil ?_
        clear e1
        refine wpM_s (fun p => .slice (some ⟨p, 0, none⟩) 0 0) (.cells #[] 5) _ rfl rfl (fun w => ex_bs0 _ rfl w) ?_
        refine wpM_u _ _ _ 58 (.head _) rfl rfl (fun y hy p hp1 hp2 hp3 hp4 => ?_)
        refine wpM_e _ rfl (fun y2 hy2 => ?_)
        have hp1 : w5.heap.size ≤ p := hp1
        have B7 := Lib.hid (onto (onto B6.out B6.out.size y.below) (by have := B6.out.size; have := y.below.size; omega) y2.below)
        have O7 := Lib.hid (show Own y2.val w5.heap.size 5 (.slice (some ⟨p, 0, none⟩) 0 0) 0 nF from own_new (by rw [y2.below.block p hp2]; exact hp4) hp1)
        have C7 := Lib.hid hy2
        have HP3 := Lib.hid hp3
        obtain ⟨w7, hw7⟩ : ∃ w7, w7 = y2.val := ⟨_, rfl⟩
        rw [← hw7] at B7 O7 C7 ⊢
        clear hw7 hy2 hy hp3 hp4 hp2 B6 y2 y
        have S7 := Lib.hid (S5.out.fr (Fr.new (T := T4) (H := fun _ => False) B7.out 0) (fun e => e))
        go_wp2_with (refine wpl_appB rfl (.tmp 58) (.tmp 59) rfl sli_u u8_info O7.out S7.out.sl (by omega) (by have := B7.out.size; omega) rfl rfl ?_; intro v8 w8 ho8 hg8 ht8)
        rw [catF_zero, Nat.zero_add] at ho8
        have B8 := Lib.hid (O7.out.after hg8 B7.out B7.out.size (Nat.le_refl _))
        obtain ⟨A8, c8, hv8, -, -, -⟩ := ho8.sl
        subst hv8
        have D8 := Lib.hid (OwB.of_new (l := b) ho8 rfl (fun _ _ => rfl) T4 0)
        have R8 := Lib.hid (grown_row hg8 C7.out (fun e => by
          have e : p = B := Option.some.inj e
          exact HP3.out (by rw [e]; exact .head _)))
        have z8 := B8.out.size
        have hvh : ∀ k, (Value.slice A5' (d.f F).l.length c5).ownBlock = some k → k < w5.heap.size := fun k hk => (World.ownsRow.lt HXS.out k hk).2
        have HVH := Lib.hid hvh
        refine same_class (C := fun y => row y B = some Cc) (B :: (Value.slice A5' (d.f F).l.length c5).ownBlock.toList) ((Frm.app hg8).more (fun k hk => by
          have hk : k = p := by simpa [Value.ownBlock] using hk
          rw [hk]; exact .head _)) (fun k hk => ⟨.inl (.tail _ hk), by
          rcases List.mem_cons.1 hk with rfl | hk
          · exact row_lt R8.out
          · exact Nat.lt_of_lt_of_le (HVH.out k (by simpa using hk)) z8⟩) R8.out (fun y z h => row_alloc h z) ?_
        clear ho8 hg8 ht8 O7 S7 S5 C7 HP3 B7 hvh
        refine wpM_q ?_
        simp only [pk, List.getElem?_cons_zero, List.getElem?_cons_succ]
        repeat (go_big_quiet_step (fail))
        refine wpQuiet_nil ?_
        refine wpM_s (fun p => .slice (some ⟨p, 0, none⟩) 1 1) (.cells #[.bool false, .int .i64 0, .slice A8 b.length c8] 77) _ rfl rfl (fun w => ex_don _ (.tmp 61) rfl _ _ _ _ _ rfl w) ?_
        refine wpM_u _ _ _ 62 (.head _) rfl rfl (fun y hy p2 hp1 hp2 hp3 hp4 => ?_)
        refine wpM_e _ rfl (fun y2 hy2 => ?_)
        have B9 := Lib.hid (onto (onto B8.out z8 y.below) (by have := y.below.size; omega) y2.below)
        have b89 : Below w8.heap.size w8 y2.val := onto y.below y.below.size y2.below
        have R9 := Lib.hid (carry y2.below (row_of hp4))
        have C9 := Lib.hid hy2
        have HP9 := Lib.hid hp3
        have D9 := Lib.hid (D8.out.fr (Fr.new (H := fun _ => False) b89 0) (fun e => e))
        have eT : paint (paint T4 w5.heap.size 0) w8.heap.size 0 = paint T4 w5.heap.size 0 := by
          funext k
          unfold paint
          by_cases h : k < w8.heap.size
          · rw [if_pos h]
          · rw [if_neg h, if_neg (by omega)]
        rw [eT] at D9
        have zp2 : w5.heap.size ≤ p2 := hp1
        obtain ⟨w9, hw9⟩ : ∃ w9, w9 = y2.val := ⟨_, rfl⟩
        rw [← hw9] at B9 R9 C9 D9 ⊢
        clear hw9 hy2 hy hp3 hp4 hp2 hp1 y2 y D8 R8 b89 eT
        have P9 := Lib.hid (P5.out.fr doE_ok (Fr.new (T := T4) (H := fun _ => False) B9.out 0) (fun e => e) (fun e => e))
        have O9 := Lib.hid (ownsRow_calm HXS.out B9.out)
        have hoff : ∀ k, k = B ∨ k = p2 → (Value.slice A5' (d.f F).l.length c5).ownBlock ≠ some k := fun k hk e => by
          rcases hk with rfl | rfl
          · have h1 := P5.out.tg _ e
            rw [HT5.out] at h1
            omega
          · have := HVH.out _ e; omega
        have HOFF := Lib.hid hoff
        clear hoff
        go_wp2_with (refine wpl_appEl rfl (.tmp 57) (.tmp 62) rfl sld_u don_info rfl (by decide) (by decide) O9.out (vs := [.bool false, .int .i64 0, .slice A8 b.length c8]) R9.out rfl (fun v hv => by simp at hv; rcases hv with rfl | rfl | rfl <;> rfl) (by omega) rfl rfl ?_; intro v10 w10 ho10 hg10 ht10)
        have F9 := Lib.hid (Fr.new (T := T4) (H := Hs t) B9.out 0)
        have z10 := hg10.size
        have R10 := Lib.hid (grown_row hg10 C9.out (fun e => HOFF.out B (.inl rfl) e))
        obtain ⟨x, hx⟩ : ∃ x : Ch, x = ⟨false, (d.f F).all.length, b⟩ := ⟨_, rfl⟩
        have E10 := Lib.hid (show doE (paint (paint T4 w5.heap.size 0) w9.heap.size (t + 1 + F)) w10 x [.bool false, .int .i64 0, .slice A8 b.length c8] from by
          rw [hx]
          obtain ⟨A', c', e', r', -⟩ := D9.out.rd
          cases e'
          exact .inr ⟨rfl, A8, c8, rfl, r'.fr (Fr.grown (H := fun y => y = t + 1 + F) hg10 (fun g hg => P9.out.tg g hg) (t + 1 + F)) (by omega)⟩)
        have P10 := Lib.hid (P9.out.one doE_ok ho10 hg10 ht10 E10.out (by omega) O9.out (fun i hi => by
          obtain ⟨vs, h1, h2⟩ := HEL.out i hi
          exact ⟨vs, doE_ok.fr h1 (Fr.new (T := T4) (H := fun _ => False) B9.out 0) (fun e => e), h2⟩))
        have F10 := Lib.hid (F9.out.trans (Fr.grown (H := Hs t) hg10 (fun g hg => by rw [P9.out.tg g hg]; exact ⟨by omega, by omega⟩) (t + 1 + F)))
        have G10 := Lib.hid ((Fr.new (T := T4) (H := fun y => y = t + 1 + F) B9.out 0).trans (Fr.grown hg10 (fun g hg => P9.out.tg g hg) (t + 1 + F)))
        have HOT := Lib.hid (show ∀ k ∈ B :: v10.ownBlock.toList, (k ∈ p2 :: B :: (Value.slice A5' (d.f F).l.length c5).ownBlock.toList ∨ w9.heap.size ≤ k) ∧ k < w10.heap.size from fun k hk => by
          rcases List.mem_cons.1 hk with rfl | hk
          · exact ⟨.inl (by simp), row_lt R10.out⟩
          · have hk : v10.ownBlock = some k := by simpa using hk
            refine ⟨?_, (World.ownsRow.lt ho10 k hk).2⟩
            rcases ht10 with e | e
            · rw [e] at hk
              exact .inl (List.mem_cons_of_mem _ (List.mem_cons_of_mem _ (by simpa using hk)))
            · rw [e] at hk; exact .inr (Nat.le_of_eq (Option.some.inj hk)))
        refine same_class (C := fun y => row y B = some Cc) (B :: v10.ownBlock.toList) ((Frm.app hg10).more (fun k hk => List.mem_cons_of_mem _ (List.mem_cons_of_mem _ hk))) HOT.out R10.out (fun y z h => row_alloc h z) ?_
        obtain ⟨T10, hT10⟩ : ∃ T10, T10 = paint (paint T4 w5.heap.size 0) w9.heap.size (t + 1 + F) := ⟨_, rfl⟩
        rw [← hT10] at P10 F10 G10
        clear ho10 hg10 ht10 E10 O9 R9 C9 F9 P9 D9 HOT HP9 hT10
        refine wpM_q ?_
        simp only [pk, List.getElem?_cons_zero, List.getElem?_cons_succ]
        repeat (go_big_quiet_step (fail))
        refine wpQuiet_nil ?_
        refine wpM_e _ rfl (fun y hy => ?_)
        have T11 := Lib.hid hy
        have F11 := Lib.hid (F10.out.trans (Fr.new y.below 0))
        have G11 := Lib.hid (G10.out.trans (Fr.new y.below 0))
        have P11 := Lib.hid (P10.out.fr doE_ok (Fr.new (H := fun _ => False) y.below 0) (fun e => e) (fun e => e))
        obtain ⟨w11, hw11⟩ : ∃ w11, w11 = y.val := ⟨_, rfl⟩
        obtain ⟨T9, hT9⟩ : ∃ T9, T9 = paint T10 w10.heap.size 0 := ⟨_, rfl⟩
        rw [← hw11] at T11 F11 G11 P11 ⊢
        rw [← hT9] at F11 G11 P11
        clear hw11 hT9 y hy R10 P10 F10 G10
        obtain ⟨A12, c12, hv12, -, -⟩ := P11.out.sl
        subst hv12
        have k0 : w11.cell? ⟨B, F * 2 + 1, none⟩ = some (.slice A5' (d.f F).l.length c5) := by rw [cell_row T11.out]; exact HG5.out
        have k1 := froz_row T11.out (F * 2 + 1)
        obtain ⟨N6, hN6⟩ : ∃ N6, N6 = ((d.f F).l ++ [x]).length := ⟨_, rfl⟩
        rw [← hN6] at P11 ⊢
        have k2 := Lib.hid (setCell_row T11.out (F * 2 + 1) (.slice A12 N6 c12))
        clear hN6
        go_wp2_with fail
        rw [k2.out]
        have hTB : T9 B = t := by rw [F11.out.tag B zB]; exact HT5.out
        have R12 := Lib.hid (row_setRow T11.out (Cc.setIfInBounds (F * 2 + 1) (.slice A12 N6 c12)))
        have f12 := fun (H : Nat → Prop) h => Fr.row (T := T9) (w := w11) (H := H) (B := B) h (Cc.setIfInBounds (F * 2 + 1) (.slice A12 N6 c12))
        have F12 := Lib.hid (F11.out.trans (f12 (Hs t) (by rw [hTB]; exact ⟨Nat.le_refl _, by omega⟩)))
        have G12 := Lib.hid ((G11.out.mono (H' := fun y => y = t ∨ y = t + 1 + F) fun y hy => .inr hy).trans (f12 (fun y => y = t ∨ y = t + 1 + F) (.inl hTB)))
        have P12 := Lib.hid (P11.out.fr doE_ok (f12 (fun y => y = t) hTB) (by omega) (by omega))
        refine end_class (fun _ => True) [] (Frm.row w11 _ (by simp)) hot_none trivial (fun _ _ h => h) ?_
        obtain ⟨w12, hw12⟩ : ∃ w12, w12 = w11.setRow B (Cc.setIfInBounds (F * 2 + 1) (.slice A12 N6 c12)) := ⟨_, rfl⟩
        rw [← hw12] at R12 F12 G12 P12 ⊢
        clear hw12 f12 k0 k1 k2 P11 F11 G11 T11 hTB
        refine wpM_nil (fun y => ?_)
        have F13 := Lib.hid (F12.out.trans (Fr.new y.below 0))
        have G13 := Lib.hid (G12.out.trans (Fr.new y.below 0))
        have P13 := Lib.hid (P12.out.fr doE_ok (Fr.new (H := fun _ => False) y.below 0) (fun e => e) (fun e => e))
        have R13 := Lib.hid (carry y.below R12.out)
        obtain ⟨T13, hT13⟩ : ∃ T13, T13 = paint T9 w12.heap.size 0 := ⟨_, rfl⟩
        obtain ⟨w13, hw13⟩ : ∃ w13, w13 = y.val := ⟨_, rfl⟩
        rw [← hw13] at F13 G13 P13 R13 ⊢
        rw [← hT13] at F13 G13 P13
        clear hw13 hT13 y F12 G12 P12 R12
        go_wp2_with fail
        go_ret
        rw [HP.out]
        refine ⟨rfl, T13, F5.out.trans F13.out, ?_⟩
        rw [← tick_done]
        refine rk_fil (V := V5) (vd := V5 (2 * F)) (vp := .slice A12 N6 c12) (by rw [F13.out.tag B zB]; exact HT5.out) hF ?_ HU5.out (fun j hj hne => (H35.out j hj).fr G13.out (by omega) (by omega)) ⟨?_, ?_, ?_⟩
        · rw [updV_self, R13.out, HC5.out, rk_set _ _ _ _ (by omega), show F * 2 + 1 = 2 * F + 1 by omega]
        · obtain ⟨Ad, cd, ed, rd⟩ := (H35.out F hF).d
          exact ⟨Ad, cd, ed, rd.fr G13.out (by omega)⟩
        · rw [hx] at P13; exact P13.out
        · exact ok1.app b hlen
  · have hd : decide (f < 0) = true ∨ (decide (f < 0) = false ∧ decide (3 < f) = true) := by
      by_cases h0 : f < 0
      · exact .inl (by simpa using h0)
      · exact .inr ⟨by simp; omega, by simp; omega⟩
    have HON := Lib.hid (show (onF f d fun i => d.app i b) = (1, d) from if_neg hf)
    have HH := Lib.hid h
    clear h hs hf
    rcases hd with hd | ⟨hd, hd1⟩
    all_goals
      go_enter Try.func33, Try.ntmps33
      go_wp2_with fail
      go_ret
      rw [HON.out]
      exact ⟨rfl, T, Fr.refl _ _ _, HH.out⟩
end Go.Proofs.Ythdhbjfenanbnaa.Oct
