/- Contracts of the reference: Cut. -/
import Derived.Test.YthdhbjfenanbnaaDkZa
namespace Go.Proofs.Ythdhbjfenanbnaa.Oct
open Go.ChangeShapes Go.WideShapes Go.ChangeAt Go.RowKit
set_option linter.unusedVariables false

set_option maxHeartbeats 8000000 in
theorem rcut_any (T : Mk) (t B : Nat) (d : Dk) (f z : Int) (w : World) (h : RkAt T w t B d) (hk : d.ok) (ht : 0 < t) (hn : d.n < 1000000000000) :
    Calls Try.prog 34 #[.pointer (some ⟨B, 0, none⟩), .int .i64 f, .int .i64 z] w fun e w' => e = .returned (.int .i64 ((onF f d fun i => d.cut i z).1 : Int)) ∧ ∃ T', Fr T T' (Hs t) w w' ∧ RkAt T' w' t B (onF f d fun i => d.cut i z).2 := by
  have none1 : (onF f d fun i => d.cut i z) = (1, d) → ∀ b0 b1 b2 : Bool, (decide (f < 0) = b0 ∧ (b0 = false → decide (3 < f) = b1) ∧ (b0 = false → b1 = false → decide (z < 0) = b2) ∧ (b0 = true ∨ b1 = true ∨ b2 = true)) →
      Calls Try.prog 34 #[.pointer (some ⟨B, 0, none⟩), .int .i64 f, .int .i64 z] w fun e w' => e = .returned (.int .i64 ((onF f d fun i => d.cut i z).1 : Int)) ∧ ∃ T', Fr T T' (Hs t) w w' ∧ RkAt T' w' t B (onF f d fun i => d.cut i z).2 := by
    intro ho b0 b1 b2 hb
    have HON := Lib.hid ho
    have HH := Lib.hid h
    obtain ⟨h0, h1, h2, h3⟩ := hb
    clear h hk ho
    rcases b0 with _ | _
    · have h1 := h1 rfl
      rcases b1 with _ | _
      · have h2 := h2 rfl rfl
        obtain rfl : b2 = true := by simpa using h3
        clear h3
        go_enter Try.func34, Try.ntmps34
        go_wp2_with fail
        refine flow_seen [([0, 1, 2, 3, 4, 5, 6, 7, 8, 9, 10, 11, 12, 13, 14, 15, 16, 17, 18, 19, 20, 21, 22, 23, 24, 25], 26, false)] [27, 28, 29] (by kernel_rfl) (by kernel_rfl) (fun _ _ _ _ _ h => h) fun X => ?_
        have B3 := Lib.hid X.below
        obtain ⟨w3, hw3⟩ : ∃ w3, w3 = X.val := ⟨_, rfl⟩
        rw [← hw3] at B3 ⊢
        clear hw3 X
        simp only [wpFs, pk, List.getElem?_cons_zero, List.getElem?_cons_succ]
        repeat (go_big_quiet_step (fail))
        refine wpQuiet_nil ?_
        go_wp2_with fail
        first | refine ⟨.inr (Below.refl _ _), ?_⟩ | refine ⟨Below.refl _ _, ?_⟩ | skip
        show wpQuiet _ _ _ _ _ _
        repeat (go_big_quiet_step (fail))
        refine wpQuiet_nil ?_
        go_wp2_with fail
        go_ret
        rw [HON.out]
        exact ⟨rfl, _, Fr.new B3.out 0, HH.out.fr (Fr.new (H := fun _ => False) B3.out 0) (fun _ _ e => e) (fun e => e)⟩
      · clear h2 h3
        go_enter Try.func34, Try.ntmps34
        go_wp2_with fail
        refine flow_seen [([0, 1, 2, 3, 4, 5, 6, 7, 8, 9, 10, 11, 12, 13, 14, 15, 16, 17, 18, 19, 20, 21, 22, 23, 24, 25], 26, false)] [27, 28, 29] (by kernel_rfl) (by kernel_rfl) (fun _ _ _ _ _ h => h) fun X => ?_
        have B3 := Lib.hid X.below
        obtain ⟨w3, hw3⟩ : ∃ w3, w3 = X.val := ⟨_, rfl⟩
        rw [← hw3] at B3 ⊢
        clear hw3 X
        simp only [wpFs, pk, List.getElem?_cons_zero, List.getElem?_cons_succ]
        repeat (go_big_quiet_step (fail))
        refine wpQuiet_nil ?_
        go_wp2_with fail
        first | refine ⟨.inr (Below.refl _ _), ?_⟩ | refine ⟨Below.refl _ _, ?_⟩ | skip
        show wpQuiet _ _ _ _ _ _
        repeat (go_big_quiet_step (fail))
        refine wpQuiet_nil ?_
        go_wp2_with fail
        go_ret
        rw [HON.out]
        exact ⟨rfl, _, Fr.new B3.out 0, HH.out.fr (Fr.new (H := fun _ => False) B3.out 0) (fun _ _ e => e) (fun e => e)⟩
    · clear h1 h2 h3
      go_enter Try.func34, Try.ntmps34
      go_wp2_with fail
      refine flow_seen [([0, 1, 2, 3, 4, 5, 6, 7, 8, 9, 10, 11, 12, 13, 14, 15, 16, 17, 18, 19, 20, 21, 22, 23, 24, 25], 26, false)] [27, 28, 29] (by kernel_rfl) (by kernel_rfl) (fun _ _ _ _ _ h => h) fun X => ?_
      have B3 := Lib.hid X.below
      obtain ⟨w3, hw3⟩ : ∃ w3, w3 = X.val := ⟨_, rfl⟩
      rw [← hw3] at B3 ⊢
      clear hw3 X
      simp only [wpFs, pk, List.getElem?_cons_zero, List.getElem?_cons_succ]
      repeat (go_big_quiet_step (fail))
      refine wpQuiet_nil ?_
      go_wp2_with fail
      first | refine ⟨.inr (Below.refl _ _), ?_⟩ | refine ⟨Below.refl _ _, ?_⟩ | skip
      show wpQuiet _ _ _ _ _ _
      repeat (go_big_quiet_step (fail))
      refine wpQuiet_nil ?_
      go_wp2_with fail
      go_ret
      rw [HON.out]
      exact ⟨rfl, _, Fr.new B3.out 0, HH.out.fr (Fr.new (H := fun _ => False) B3.out 0) (fun _ _ e => e) (fun e => e)⟩
  by_cases h0 : f < 0
  · exact none1 (if_neg (by omega)) true false false ⟨by simpa using h0, fun e => (by cases e), fun e => (by cases e), .inl rfl⟩
  by_cases h1 : 3 < f
  · exact none1 (if_neg (by omega)) false true false ⟨by simpa using h0, fun _ => by simpa using h1, fun _ e => (by cases e), .inr (.inl rfl)⟩
  by_cases h2 : z < 0
  · refine none1 ?_ false false true ⟨by simpa using h0, fun _ => by simpa using h1, fun _ _ => by simpa using h2, .inr (.inr rfl)⟩
    unfold onF
    rw [if_pos ⟨by omega, by omega⟩]
    exact if_pos (.inl h2)
  clear none1
  obtain ⟨F, rfl⟩ : ∃ F : Nat, f = (F : Int) := ⟨f.toNat, by omega⟩
  obtain ⟨K, rfl⟩ : ∃ K : Nat, z = (K : Int) := ⟨z.toNat, by omega⟩
  have hF : F < 4 := by omega
  have b1 : decide ((F : Int) < 4) = true := by simp; omega
  have hd0 : decide ((F : Int) < 0) = false := by simp
  have hd1 : decide (3 < (F : Int)) = false := by simp; omega
  have hd2 : decide ((K : Int) < 0) = false := by simp
  rw [on_in F hF]
  obtain ⟨V, hr, hu, h3⟩ := h.row
  have hlF := hk.few F hF
  obtain ⟨⟨A1, c1, hv1, hr1⟩, hp1, ok1⟩ := h3 F hF
  obtain ⟨A2, c2, hv2, hp2, -⟩ := hp1.sl
  have HC := Lib.hid (fun (y : World) (hy : Below w.heap.size w y) => rhas_any (paint T w.heap.size 0) (t + 1 + F) c1 c2 A1 A2 (d.f F).s (d.f F).l y (hr1.fr (Fr.new (H := fun _ => False) hy 0) (fun e => e)).sl (hp2.fr doE_ok (Fr.new (H := fun _ => False) hy 0) (fun e => e) (fun e => e)) ok1 (by omega))
  have hal : (has (d.f F).s (d.f F).l).length ≤ maxF := ok1.len
  have hM := maxF_eq
  obtain ⟨N, hN⟩ : ∃ N, N = (has (d.f F).s (d.f F).l).length := ⟨_, rfl⟩
  rw [← hN] at HC hal
  have HN := Lib.hid (show (d.f F).all.length = N from hN.symm)
  have g1 : w.cell? ⟨B, F * 2, none⟩ = some (.slice A1 (d.f F).s.length c1) := by rw [cell_row hr, rk_get _ _ _ _ (by omega), show F * 2 = 2 * F by omega, hv1]
  have g2 : w.cell? ⟨B, F * 2 + 1, none⟩ = some (.slice A2 (d.f F).l.length c2) := by rw [cell_row hr, rk_get _ _ _ _ (by omega), show F * 2 + 1 = 2 * F + 1 by omega, hv2]
  have hB := row_lt hr
  have G1 := Lib.hid g1
  have G2 := Lib.hid g2
  have HA := Lib.hid h
  clear hr h3 h hp1 hr1 hp2 hv1 hv2 g1 g2 hk hu hN h0 h1 h2
  go_enter Try.func34, Try.ntmps34
  go_wp2_with fail
  refine flow_seen [([0, 1, 2, 3, 4, 5, 6, 7, 8, 9, 10, 11, 12, 13, 14, 15, 16, 17, 18, 19, 20, 21, 22, 23, 24, 25], 26, false)] [27, 28, 29] (by kernel_rfl) (by kernel_rfl) (fun _ _ _ _ _ h => h) fun X => ?_
  have B3 := Lib.hid X.below
  obtain ⟨w3, hw3⟩ : ∃ w3, w3 = X.val := ⟨_, rfl⟩
  rw [← hw3] at B3 ⊢
  clear hw3 X
  have e1 : ∀ y : After w3, y.val.cell? ⟨B, F * 2, none⟩ = some (.slice A1 (d.f F).s.length c1) := fun y => ((onto B3.out B3.out.size y.below).cell (p := ⟨B, F * 2, none⟩) hB).trans G1.out
  have e2 : ∀ y : After w3, y.val.cell? ⟨B, F * 2 + 1, none⟩ = some (.slice A2 (d.f F).l.length c2) := fun y => ((onto B3.out B3.out.size y.below).cell (p := ⟨B, F * 2 + 1, none⟩) hB).trans G2.out
  simp only [wpFs, pk, List.getElem?_cons_zero, List.getElem?_cons_succ]
  repeat (go_big_quiet_step (fail))
  refine wpQuiet_nil ?_
  clear e1 e2
  go_wp2_with fail
  refine (HC.out w3 B3.out).mono ?_
  rintro e w4 ⟨v, rfl, o4, b4⟩
  have B4 := Lib.hid (onto B3.out B3.out.size b4)
  have B34 := Lib.hid b4
  obtain ⟨A4, c4, hv, -⟩ := o4.sl
  subst hv
  clear o4 b4 HC B3
  have A4' := Lib.hid (HA.out.fr (Fr.new (T := T) (H := fun _ => False) B4.out 0) (fun _ _ e => e) (fun e => e))
  have F4 := Lib.hid (Fr.new (T := T) (H := Hs t) B4.out 0)
  obtain ⟨T4, hT4⟩ : ∃ T4, T4 = paint T w.heap.size 0 := ⟨_, rfl⟩
  rw [← hT4] at A4' F4
  clear hT4 HA
  by_cases hlong : (N : Int) < (K : Int)
  · have hdl : decide (N < K) = true := by simp; omega
    have HP := Lib.hid (show d.cut F K = (1, d) by unfold Dk.cut; rw [if_pos (.inr (by rw [HN.out]; exact hlong))])
    clear hlong
    go_wp2_with fail
    first | refine ⟨.inr B34.out, ?_⟩ | refine ⟨B34.out, ?_⟩
    show wpQuiet _ _ _ _ _ _
    repeat (go_big_quiet_step (fail))
    refine wpQuiet_nil ?_
    go_wp2_with fail
    go_ret
    rw [HP.out]
    exact ⟨rfl, T4, F4.out, A4'.out⟩
  · have hdl : decide (N < K) = false := by simp; omega
    have hlen : K ≤ (d.f F).all.length := by rw [HN.out]; omega
    have HST := Lib.hid (rstep_any T4 t B d w4 A4'.out ht hn)
    go_wp2_with fail
    first | refine ⟨.inr B34.out, ?_⟩ | refine ⟨B34.out, ?_⟩
    show wpQuiet _ _ _ _ _ _
    repeat (go_big_quiet_step (fail))
    refine wpQuiet_nil ?_
    by_cases hd : d.dead
    · have HP := Lib.hid (show d.cut F K = (5, d.dark) by unfold Dk.cut; rw [if_neg (by rw [HN.out]; omega), if_pos hd])
      rw [show d.stp = (5, d.dark) from if_pos hd] at HST
      clear hd
      go_wp2_with fail
      refine HST.out.mono ?_
      rintro e w5 ⟨rfl, f5, a5⟩
      have F5 := Lib.hid (F4.out.trans (RkAt.hs f5))
      have A5 := Lib.hid a5
      clear HST f5 a5 F4 A4'
      go_wp2_with fail
      go_ret
      rw [HP.out]
      exact ⟨rfl, T4, F5.out, A5.out⟩
    · have HP := Lib.hid (show d.cut F K = (0, d.done F ((d.f F).cut K)) by unfold Dk.cut; rw [if_neg (by rw [HN.out]; omega), if_neg hd, Int.toNat_natCast])
      rw [show d.stp = (0, d.tick) from if_neg hd] at HST
      clear hd hlong
      go_wp2_with fail
      refine HST.out.mono ?_
      rintro e w5 ⟨rfl, f5, a5⟩
      have F5 := Lib.hid (F4.out.trans (RkAt.hs f5))
      have A5 := Lib.hid a5
      clear HST f5 a5 F4 A4'
      -- the change is laid
      obtain ⟨V5, hr5, hu5, h35⟩ := A5.out.row
      have HT5 := Lib.hid A5.out.tg
      have H35 := Lib.hid h35
      have HU5 := Lib.hid hu5
      obtain ⟨-, hp5, ok5⟩ := h35 F hF
      obtain ⟨A5', c5, hv5, -, -⟩ := hp5.sl
      obtain ⟨Cc, hCc⟩ : ∃ Cc, Cc = rkC V5 d.tick.off (leftI d.tick.u) d.tick.n := ⟨_, rfl⟩
      rw [← hCc] at hr5
      have hg5 : Cc[F * 2 + 1]? = some (.slice A5' (d.f F).l.length c5) := by rw [hCc, rk_get _ _ _ _ (by omega), show F * 2 + 1 = 2 * F + 1 by omega, hv5]; rfl
      have HC5 := Lib.hid hCc
      have HG5 := Lib.hid hg5
      have R5 := Lib.hid hr5
      rw [hv5] at hp5
      have P5 := Lib.hid (show ElOw 3 doE T4 w5 (t + 1 + F) 77 (.slice A5' (d.f F).l.length c5) (d.f F).l from hp5)
      obtain ⟨xs, hxs, hel⟩ := P5.out.own
      have HXS := Lib.hid hxs
      have HEL := Lib.hid hel
      have zB := row_lt hr5
      clear hr5 hu5 h35 hp5 hv5 hCc hg5 hxs hel A5
      go_wp2_with fail
      refine flow_shut 17 [.inl [0, 1, 2, 3, 4, 5, 6, 7, 8, 9, 10, 13, 14], pS 11, pU 11, pE 12, .inl [15, 16], pE 17] (fun y => row y B = some Cc) (B :: (Value.slice A5' (d.f F).l.length c5).ownBlock.toList) (by kernel_rfl) (by kernel_rfl) (fun _ _ _ _ _ h => h) (fun _ _ _ _ _ h => h) (fun y z h => row_alloc h z) (by rw [row_drewN]; exact R5.out) (fun k hk => by
        rcases List.mem_cons.1 hk with rfl | hk
        · exact zB
        · exact (World.ownsRow.lt HXS.out k (by simpa using hk)).2) ?_
      have hne : Nonempty (In (fun y => row y B = some Cc)) := ⟨⟨_, R5.out⟩⟩
      have B6 := Lib.hid (below_drewN (Below.refl w5.heap.size w5) 1)
      obtain ⟨w6, hw6⟩ : ∃ w6, w6 = w5.drewN 1 := ⟨_, rfl⟩
      rw [← hw6] at B6 ⊢
      clear hw6
      have e1 : ∀ y : In (fun y => row y B = some Cc), y.val.cell? ⟨B, F * 2 + 1, none⟩ = some (.slice A5' (d.f F).l.length c5) := fun y => by rw [cell_row y.ok]; exact HG5.out
      refine wpM_q ?_
      simp only [pk, List.getElem?_cons_zero, List.getElem?_cons_succ]
      repeat (go_big_quiet_step (fail))
      refine wpQuiet_nil ?_
      clear e1
      have hvh : ∀ k, (Value.slice A5' (d.f F).l.length c5).ownBlock = some k → k < w5.heap.size := fun k hk => (World.ownsRow.lt HXS.out k hk).2
      have HVH := Lib.hid hvh
      clear hvh
      refine wpM_s (fun p => .slice (some ⟨p, 0, none⟩) 1 1) (.cells #[.bool true, .int .i64 (K : Int), .slice none 0 0] 77) _ rfl rfl (fun w => ex_don _ (.tmp 52) rfl _ _ _ _ _ rfl w) ?_
      refine wpM_u _ _ _ 53 (.head _) rfl rfl (fun y hy p2 hp1 hp2 hp3 hp4 => ?_)
      refine wpM_e _ rfl (fun y2 hy2 => ?_)
      have B9 := Lib.hid (onto (onto B6.out B6.out.size y.below) (by have := B6.out.size; have := y.below.size; omega) y2.below)
      have R9 := Lib.hid (carry y2.below (row_of hp4))
      have C9 := Lib.hid hy2
      have HP9 := Lib.hid hp3
      have zp2 : w5.heap.size ≤ p2 := hp1
      obtain ⟨w9, hw9⟩ : ∃ w9, w9 = y2.val := ⟨_, rfl⟩
      rw [← hw9] at B9 R9 C9 ⊢
      clear hw9 hy2 hy hp3 hp4 hp2 hp1 y2 y B6
      have P9 := Lib.hid (P5.out.fr doE_ok (Fr.new (T := T4) (H := fun _ => False) B9.out 0) (fun e => e) (fun e => e))
      have O9 := Lib.hid (ownsRow_calm HXS.out B9.out)
      have hoff : ∀ k, k = B ∨ k = p2 → (Value.slice A5' (d.f F).l.length c5).ownBlock ≠ some k := fun k hk e => by
        rcases hk with rfl | rfl
        · have h1 := P5.out.tg _ e
          rw [HT5.out] at h1
          omega
        · have := HVH.out _ e; omega
      have HOFF := Lib.hid hoff
      clear hoff
      go_wp2_with (refine wpl_appEl rfl (.tmp 50) (.tmp 53) rfl sld_u don_info rfl (by decide) (by decide) O9.out (vs := [.bool true, .int .i64 (K : Int), .slice none 0 0]) R9.out rfl (fun v hv => by simp at hv; rcases hv with rfl | rfl | rfl <;> rfl) (by omega) rfl rfl ?_; intro v10 w10 ho10 hg10 ht10)
      have F9 := Lib.hid (Fr.new (T := T4) (H := Hs t) B9.out 0)
      have z10 := hg10.size
      have R10 := Lib.hid (grown_row hg10 C9.out (fun e => HOFF.out B (.inl rfl) e))
      obtain ⟨x, hx⟩ : ∃ x : Ch, x = ⟨true, K, []⟩ := ⟨_, rfl⟩
      have E10 := Lib.hid (show doE (paint (paint T4 w5.heap.size 0) w9.heap.size (t + 1 + F)) w10 x [.bool true, .int .i64 (K : Int), .slice none 0 0] from by
        rw [hx]
        exact .inl ⟨rfl, rfl⟩)
      have P10 := Lib.hid (P9.out.one doE_ok ho10 hg10 ht10 E10.out (by omega) O9.out (fun i hi => by
        obtain ⟨vs, h1, h2⟩ := HEL.out i hi
        exact ⟨vs, doE_ok.fr h1 (Fr.new (T := T4) (H := fun _ => False) B9.out 0) (fun e => e), h2⟩))
      have F10 := Lib.hid (F9.out.trans (Fr.grown (H := Hs t) hg10 (fun g hg => by rw [P9.out.tg g hg]; exact ⟨by omega, by omega⟩) (t + 1 + F)))
      have G10 := Lib.hid ((Fr.new (T := T4) (H := fun y => y = t + 1 + F) B9.out 0).trans (Fr.grown hg10 (fun g hg => P9.out.tg g hg) (t + 1 + F)))
      have HOT := Lib.hid (show ∀ k ∈ B :: v10.ownBlock.toList, (k ∈ p2 :: B :: (Value.slice A5' (d.f F).l.length c5).ownBlock.toList ∨ w9.heap.size ≤ k) ∧ k < w10.heap.size from fun k hk => by
        rcases List.mem_cons.1 hk with rfl | hk
        · exact ⟨.inl (by simp), row_lt R10.out⟩
        · have hk : v10.ownBlock = some k := by simpa using hk
          refine ⟨?_, (World.ownsRow.lt ho10 k hk).2⟩
          rcases ht10 with e | e
          · rw [e] at hk
            exact .inl (List.mem_cons_of_mem _ (List.mem_cons_of_mem _ (by simpa using hk)))
          · rw [e] at hk; exact .inr (Nat.le_of_eq (Option.some.inj hk)))
      refine same_class (C := fun y => row y B = some Cc) (B :: v10.ownBlock.toList) ((Frm.app hg10).more (fun k hk => List.mem_cons_of_mem _ (List.mem_cons_of_mem _ hk))) HOT.out R10.out (fun y z h => row_alloc h z) ?_
      obtain ⟨T10, hT10⟩ : ∃ T10, T10 = paint (paint T4 w5.heap.size 0) w9.heap.size (t + 1 + F) := ⟨_, rfl⟩
      rw [← hT10] at P10 F10 G10
      clear ho10 hg10 ht10 E10 O9 R9 C9 F9 P9 HOT HP9 hT10
      refine wpM_q ?_
      simp only [pk, List.getElem?_cons_zero, List.getElem?_cons_succ]
      repeat (go_big_quiet_step (fail))
      refine wpQuiet_nil ?_
      refine wpM_e _ rfl (fun y hy => ?_)
      have T11 := Lib.hid hy
      have F11 := Lib.hid (F10.out.trans (Fr.new y.below 0))
      have G11 := Lib.hid (G10.out.trans (Fr.new y.below 0))
      have P11 := Lib.hid (P10.out.fr doE_ok (Fr.new (H := fun _ => False) y.below 0) (fun e => e) (fun e => e))
      obtain ⟨w11, hw11⟩ : ∃ w11, w11 = y.val := ⟨_, rfl⟩
      obtain ⟨T9, hT9⟩ : ∃ T9, T9 = paint T10 w10.heap.size 0 := ⟨_, rfl⟩
      rw [← hw11] at T11 F11 G11 P11 ⊢
      rw [← hT9] at F11 G11 P11
      clear hw11 hT9 y hy R10 P10 F10 G10
      obtain ⟨A12, c12, hv12, -, -⟩ := P11.out.sl
      subst hv12
      have k0 : w11.cell? ⟨B, F * 2 + 1, none⟩ = some (.slice A5' (d.f F).l.length c5) := by rw [cell_row T11.out]; exact HG5.out
      have k1 := froz_row T11.out (F * 2 + 1)
      obtain ⟨N6, hN6⟩ : ∃ N6, N6 = ((d.f F).l ++ [x]).length := ⟨_, rfl⟩
      rw [← hN6] at P11 ⊢
      have k2 := Lib.hid (setCell_row T11.out (F * 2 + 1) (.slice A12 N6 c12))
      clear hN6
      go_wp2_with fail
      rw [k2.out]
      have hTB : T9 B = t := by rw [F11.out.tag B zB]; exact HT5.out
      have R12 := Lib.hid (row_setRow T11.out (Cc.setIfInBounds (F * 2 + 1) (.slice A12 N6 c12)))
      have f12 := fun (H : Nat → Prop) h => Fr.row (T := T9) (w := w11) (H := H) (B := B) h (Cc.setIfInBounds (F * 2 + 1) (.slice A12 N6 c12))
      have F12 := Lib.hid (F11.out.trans (f12 (Hs t) (by rw [hTB]; exact ⟨Nat.le_refl _, by omega⟩)))
      have G12 := Lib.hid ((G11.out.mono (H' := fun y => y = t ∨ y = t + 1 + F) fun y hy => .inr hy).trans (f12 (fun y => y = t ∨ y = t + 1 + F) (.inl hTB)))
      have P12 := Lib.hid (P11.out.fr doE_ok (f12 (fun y => y = t) hTB) (by omega) (by omega))
      refine end_class (fun _ => True) [] (Frm.row w11 _ (by simp)) hot_none trivial (fun _ _ h => h) ?_
      obtain ⟨w12, hw12⟩ : ∃ w12, w12 = w11.setRow B (Cc.setIfInBounds (F * 2 + 1) (.slice A12 N6 c12)) := ⟨_, rfl⟩
      rw [← hw12] at R12 F12 G12 P12 ⊢
      clear hw12 f12 k0 k1 k2 P11 F11 G11 T11 hTB
      refine wpM_nil (fun y => ?_)
      have F13 := Lib.hid (F12.out.trans (Fr.new y.below 0))
      have G13 := Lib.hid (G12.out.trans (Fr.new y.below 0))
      have P13 := Lib.hid (P12.out.fr doE_ok (Fr.new (H := fun _ => False) y.below 0) (fun e => e) (fun e => e))
      have R13 := Lib.hid (carry y.below R12.out)
      obtain ⟨T13, hT13⟩ : ∃ T13, T13 = paint T9 w12.heap.size 0 := ⟨_, rfl⟩
      obtain ⟨w13, hw13⟩ : ∃ w13, w13 = y.val := ⟨_, rfl⟩
      rw [← hw13] at F13 G13 P13 R13 ⊢
      rw [← hT13] at F13 G13 P13
      clear hw13 hT13 y F12 G12 P12 R12
      go_wp2_with fail
      go_ret
      rw [HP.out]
      refine ⟨rfl, T13, F5.out.trans F13.out, ?_⟩
      rw [← tick_done]
      refine rk_fil (V := V5) (vd := V5 (2 * F)) (vp := .slice A12 N6 c12) (by rw [F13.out.tag B zB]; exact HT5.out) hF ?_ HU5.out (fun j hj hne => (H35.out j hj).fr G13.out (by omega) (by omega)) ⟨?_, ?_, ?_⟩
      · rw [updV_self, R13.out, HC5.out, rk_set _ _ _ _ (by omega), show F * 2 + 1 = 2 * F + 1 by omega]
      · obtain ⟨Ad, cd, ed, rd⟩ := (H35.out F hF).d
        exact ⟨Ad, cd, ed, rd.fr G13.out (by omega)⟩
      · rw [hx] at P13; exact P13.out
      · exact ok1.cut K hlen
end Go.Proofs.Ythdhbjfenanbnaa.Oct
