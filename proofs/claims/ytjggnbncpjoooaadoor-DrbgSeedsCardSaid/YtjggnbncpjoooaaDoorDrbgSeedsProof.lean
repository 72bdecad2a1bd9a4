/- The statement DrbgSeeds: the law strongroomlaw07.DrbgSeeds answers true for every input, and leaves its arguments as they were. Condition: the package variables that the row lists read at the call as the text of the program lays them; the card ties that. -/
import Derived.Test.YtjggnbncpjoooaaDoorRows
import Derived.Test.YtjggnbncpjoooaaDoorLib
import Derived.Test.YtjggnbncpjoooaaDoorDrO
import Derived.Test.YtjggnbncpjoooaaDoorTab
import Derived.Test.YtjggnbncpjoooaaDoorCards
import Derived.Test.YtjggnbncpjoooaaDoorTie
import Derived.SevenTiedAt
namespace Go.Proofs.YtjggnbncpjoooaaDoor.drbgSeeds
open Go.ChangeShapes Go.WideShapes Go.ChangeAt Go.RowKit
open Go.Proofs.YtjggnbncpjoooaaDoor.Oct
set_option linter.unusedVariables false

theorem own : ownKnob Tryd.prog.godebug = none := by kernel_rfl
theorem laidOut : laidOutB Tryd.prog = true := by kernel_rfl

set_option maxRecDepth 20000 in
set_option maxHeartbeats 8000000 in
theorem walk (a0 : Nat → BitVec 8) (a1 : Nat → BitVec 8) (f2 : Nat → BitVec 8) (n2 c2 : Nat) (A2 : Option Addr) (k2 x2 : Int) (w : World) (hs2 : Sl w w.heap.size A2 n2 c2 f2) (hm2 : c2 ≤ maxLen) (hk2 : (Lit.int .i64 k2).wf = true) (hx2 : (Lit.int .i64 x2).wf = true) (htab : Tab w) :
    Calls Tryd.prog 6 #[.agg (ba 32 a0), .agg (ba 32 a1), .agg #[.int .i64 k2, .int .i64 x2, .slice A2 n2 c2]] w fun e w' => e = .returned (.bool true) ∧ Below w.heap.size w w' := by
  have HT := Lib.hid htab
  have HS := Lib.hid hs2
  have hn : n2 ≤ c2 := hs2.le
  have HM := Lib.hid hm2
  have hpos := htab.pos
  clear hs2 htab hk2 hx2 hm2
  go_enter Tryd.func6, Tryd.ntmps6
  go_wp2_with fail
  have h1 := Hd3.start w a0 a1 #[.int .i64 k2, .int .i64 x2, .slice A2 n2 c2] 41 41 31
  obtain ⟨w1, hw1⟩ : ∃ w1, w1 = ((w.alloc (.cells (ba 32 a0) 41)).alloc (.cells (ba 32 a1) 41)).alloc (.cells #[.int .i64 k2, .int .i64 x2, .slice A2 n2 c2] 31) := ⟨_, rfl⟩
  rw [← hw1] at h1 ⊢
  clear hw1
  refine (shown_any w1 (HT.out.below h1.b hpos)).mono ?_
  rintro e w2 ⟨rfl, hb2⟩
  have H2 := Lib.hid (h1.below hb2)
  have z2 := H2.out.z
  have q1 := H2.out.rk
  have q2 := H2.out.rv
  have q3 := H2.out.c0
  clear hb2 h1
  go_wp2_with fail
  refine (dof_any a0 a1 k2 w2).mono ?_
  rintro e w3 ⟨g, rfl, hg, rg, hb3⟩
  have H3 := Lib.hid (H2.out.below hb3)
  have RG := Lib.hid rg
  have z3 := H3.out.z
  have hgz := row_lt rg
  clear q1 q2 q3 hb3 rg H2
  have q2 := H3.out.c2
  go_wp2_with fail
  refine (few_any A2 n2 c2 hn HM.out w3).mono ?_
  rintro e w3' ⟨rfl, rfl⟩
  obtain ⟨N, hN⟩ : ∃ N, N = min n2 300 := ⟨_, rfl⟩
  have SS := Lib.hid (HS.out.upto N (by omega))
  have HN := Lib.hid hN
  have hN3 : N ≤ 300 := by omega
  rw [← hN]
  clear hN HS q2
  have HD := Lib.hid (dreseed_any (a0, a1) k2 g f2 N c2 A2 w3 (HT.out.below H3.out.b hpos) RG.out (by omega) ((SS.out.below H3.out.b).more (by omega)) (by omega) (SS.out.off (by omega)))
  go_wp2_with fail
  refine HD.out.mono ?_
  rintro e w4 ⟨rfl, hp4⟩
  have H4 := Lib.hid (H3.out.put hp4 (by omega))
  have RG4 := Lib.hid (hp4.row RG.out)
  have z4 := hp4.size
  clear hp4 HD H3 RG
  obtain ⟨U, hU⟩ : ∃ U : St, U = updS (a0, a1) f2 N := ⟨_, rfl⟩
  rw [← hU] at RG4
  have HU := Lib.hid hU
  clear hU
  have HD := Lib.hid (dstate_any U 1 g w4 RG4.out)
  go_wp2_with fail
  refine HD.out.mono ?_
  rintro e w5 ⟨rfl, hb5⟩
  have b6 : Below w5.heap.size w5 ((w5.alloc (.cells (ba 32 U.1) 41)).alloc (.cells (ba 32 U.2) 41)) := ((Below.refl _ _).alloc (Nat.le_refl _) _).alloc (by simp) _
  have H6 := Lib.hid ((H4.out.below hb5).below b6)
  have rK : row ((w5.alloc (.cells (ba 32 U.1) 41)).alloc (.cells (ba 32 U.2) 41)) w5.heap.size = some (ba 32 U.1) := row_alloc (row_alloc_at _ _ _ _ rfl) _
  have rV : row ((w5.alloc (.cells (ba 32 U.1) 41)).alloc (.cells (ba 32 U.2) 41)) (w5.heap.size + 1) = some (ba 32 U.2) := row_alloc_at _ _ _ _ (by simp)
  have z5 := hb5.size
  have z5' : w.heap.size + 3 ≤ w5.heap.size := by omega
  go_wp2_with fail
  have a1' := sum_sl_all w.heap.size
  have a2' := sum_sl_all (w.heap.size + 1)
  have OP := Lib.hid H6.out.ro
  have RK6 := Lib.hid rK
  have RV6 := Lib.hid rV
  have z6 := b6.size
  obtain ⟨wo, hwo⟩ : ∃ wo, wo = (w5.alloc (.cells (ba 32 U.1) 41)).alloc (.cells (ba 32 U.2) 41) := ⟨_, rfl⟩
  have z6' : wo.heap.size = w5.heap.size + 2 := by rw [hwo]; simp
  have Z6 := Lib.hid z6'
  rw [← hwo] at OP RK6 RV6 H6 z6 ⊢
  clear z6'
  clear hwo b6 rK rV hb5 HD H4 RG4
  -- one, first
  refine flow_many [.inl [0, 2, 6, 7], pS 1, pS 4, pS 11, pU 1, pE 3, pU 4, pE 5, pE 8, pE 9, pE 10, pU 11, pE 12] (fun y => row y (w.heap.size + 1 + 1) = some #[.int .i64 k2, .int .i64 x2, .slice A2 n2 c2]) [] (by kernel_rfl) (by kernel_rfl) (fun _ _ _ _ _ h => h) (fun _ _ _ _ _ h => h) (fun y z h => row_alloc h z) (by rw [row_drewN]; exact OP.out) (fun k hk => by cases hk) ?_
  have bw := below_drewN (Below.refl wo.heap.size wo) 1
  have hz1 : (wo.drewN 1).heap.size = wo.heap.size := rfl
  obtain ⟨W1, hW1⟩ : ∃ W1, W1 = wo.drewN 1 := ⟨_, rfl⟩
  rw [← hW1] at bw hz1 ⊢
  clear hW1
  have BW := Lib.hid bw
  clear bw
  have hq : ∀ x : In (fun y => row y (w.heap.size + 1 + 1) = some #[.int .i64 k2, .int .i64 x2, .slice A2 n2 c2]), x.val.cell? ⟨w.heap.size + 1 + 1, 2, none⟩ = some (.slice A2 n2 c2) := fun x => by rw [cell_row x.ok]; rfl
  have hne : Nonempty (In (fun y => row y (w.heap.size + 1 + 1) = some #[.int .i64 k2, .int .i64 x2, .slice A2 n2 c2])) := ⟨⟨wo, OP.out⟩⟩
  refine wpM_q ?_
  simp only [pk, List.getElem?_cons_zero, List.getElem?_cons_succ]
  repeat (go_big_quiet_step (fail))
  refine wpQuiet_nil ?_
  clear hq hne a1' a2'
  refine wpM_s (fun p => .slice (some ⟨p, 0, none⟩) 0 0) (.cells #[] 5) _ rfl rfl (fun w => ex_bs0 _ rfl w) ?_
  refine wpM_s (fun p => .slice (some ⟨p, 0, none⟩) 1 1) (.cells #[.int .u8 0] 5) _ rfl rfl (fun w => ex_bs1 _ (.const (.int .u8 0)) rfl _ rfl w) ?_
  refine wpM_s (fun p => .pointer (some ⟨p, 0, none⟩)) (.cells (ba 32 fun _ => 0#8) 41) _ rfl rfl (fun w => by simp only [execOp, go_sem, Sem.run_bind, Result.andThen]; rfl) ?_
  -- V behind the empty row
  refine wpM_u _ _ _ 38 (.tail _ (.tail _ (.head _))) rfl rfl (fun x0 hx0 p hp1 hp2 hp3 hp4 => ?_)
  refine wpM_e _ rfl (fun x hx => ?_)
  have hs0 := x0.below.size
  have hsx := x.below.size
  have B1 := Lib.hid (onto (onto BW.out (by omega) x0.below) (by omega) x.below)
  have O1 := Lib.hid (show Own x.val wo.heap.size 5 (.slice (some ⟨p, 0, none⟩) 0 0) 0 nF from own_new (by rw [x.below.block p hp2]; exact hp4) hp1)
  have rv1 := carry B1.out H6.out.rv
  have L1 := Lib.hid (Sl.of_row rv1 x.val.heap.size (row_lt rv1))
  clear hx0 hx hp3 hp4 BW rv1
  obtain ⟨X1, hX1⟩ : ∃ X1, X1 = x.val := ⟨_, rfl⟩
  rw [← hX1] at hsx B1 O1 L1 ⊢
  clear hX1
  go_wp2_with (at_builtin; refine wpl_appB rfl (.tmp 38) (.tmp 39) rfl sli_u u8_info O1.out L1.out (by omega) (by omega) rfl rfl ?_; intro v2 w2 ho2 hg2 ht2)
  rw [catF_zero, Nat.zero_add] at ho2
  have hs2 := hg2.size
  have B2 := Lib.hid (O1.out.after hg2 B1.out (by omega) (Nat.le_refl _))
  have O2 := Lib.hid ho2
  refine same_class (C := fun y => row y (w.heap.size + 1 + 1) = some #[.int .i64 k2, .int .i64 x2, .slice A2 n2 c2]) v2.ownBlock.toList ((Frm.app hg2).more (fun k hk => by simpa [Value.ownBlock, eq_comm] using hk)) (hot_app ho2 ht2 (fun k hk => by simpa [Value.ownBlock, eq_comm] using hk)) (carry B2.out OP.out) (fun y z h => row_alloc h z) ?_
  clear ho2 hg2 ht2 O1 L1 B1
  -- the nought
  refine wpM_u _ _ _ 41 (.tail _ (.head _)) rfl rfl (fun x0 hx0 p hp1 hp2 hp3 hp4 => ?_)
  refine wpM_e _ rfl (fun x hx => ?_)
  have hs0 := x0.below.size
  have hsx := x.below.size
  have B5 := Lib.hid (onto (onto B2.out (by omega) x0.below) (by omega) x.below)
  have O5 := Lib.hid (O2.out.below (onto x0.below x0.below.size x.below) (Nat.le_refl _))
  have N5 := Lib.hid (sl_new (x := x.val) (p := p) (u := 5) (v := 0#8) (by rw [x.below.block p hp2, hp4]; rfl))
  have P3 := Lib.hid hp3
  clear hx0 hx hp4 B2 O2 hp3
  obtain ⟨X5, hX5⟩ : ∃ X5, X5 = x.val := ⟨_, rfl⟩
  rw [← hX5] at hsx B5 O5 N5 ⊢
  clear hX5
  go_wp2_with (at_builtin; refine wpl_appB rfl (.tmp 40) (.tmp 41) rfl sli_u u8_info O5.out N5.out (by omega) (by omega) rfl rfl ?_; intro v6 w6 ho6 hg6 ht6)
  have hs6 := hg6.size
  have B6 := Lib.hid (O5.out.after hg6 B5.out (by omega) (Nat.le_refl _))
  have O6 := Lib.hid ho6
  refine same_class (C := fun y => row y (w.heap.size + 1 + 1) = some #[.int .i64 k2, .int .i64 x2, .slice A2 n2 c2]) v6.ownBlock.toList ((Frm.app hg6).more (fun k hk => .tail _ hk)) (hot_app ho6 ht6 (fun k hk => .tail _ (show k ∈ v2.ownBlock.toList by simpa using hk))) (carry B6.out OP.out) (fun y z h => row_alloc h z) ?_
  clear ho6 hg6 ht6 O5 N5 B5
  -- few
  refine wpM_e _ rfl (fun x hx => ?_)
  have hsx7 := x.below.size
  have B7 := Lib.hid (onto B6.out (by omega) x.below)
  have O7 := Lib.hid (O6.out.below x.below (Nat.le_refl _))
  have H7 := Lib.hid (hot_own O7.out)
  clear hx B6 O6
  obtain ⟨X7, hX7⟩ : ∃ X7, X7 = x.val := ⟨_, rfl⟩
  rw [← hX7] at hsx7 B7 O7 H7 ⊢
  clear hX7
  go_wp2_with fail
  refine (few_any A2 n2 c2 hn HM.out X7).mono ?_
  rintro e w3' ⟨rfl, rfl⟩
  rw [← HN.out]
  go_wp2_with fail
  refine same_class (C := fun y => row y (w.heap.size + 1 + 1) = some #[.int .i64 k2, .int .i64 x2, .slice A2 n2 c2]) v6.ownBlock.toList (Frm.of (Below.refl _ _)) (hot_same H7.out (Nat.le_refl _)) (carry B7.out OP.out) (fun y z h => row_alloc h z) ?_
  clear H7
  -- the bytes
  refine wpM_e _ rfl (fun x hx => ?_)
  have hsx9 := x.below.size
  have B9 := Lib.hid (onto B7.out (by omega) x.below)
  have O9 := Lib.hid (O7.out.below x.below (Nat.le_refl _))
  have I9 := Lib.hid ((SS.out.below (onto H6.out.b (by omega) B9.out)))
  clear hx B7 O7
  obtain ⟨X9, hX9⟩ : ∃ X9, X9 = x.val := ⟨_, rfl⟩
  rw [← hX9] at hsx9 B9 O9 I9 ⊢
  clear hX9
  go_wp2_with (at_builtin; refine wpl_appB rfl (.tmp 42) (.tmp 45) rfl sli_u u8_info O9.out I9.out (by omega) (by omega) rfl rfl ?_; intro v10 w10 ho10 hg10 ht10)
  have hs10 := hg10.size
  have B10 := Lib.hid (O9.out.after hg10 B9.out (by omega) (Nat.le_refl _))
  have O10 := Lib.hid (show Own w10 wo.heap.size 5 v10 (32 + 1 + N) (mixT (a0, a1) 0#8 f2) from ho10)
  refine same_class (C := fun y => row y (w.heap.size + 1 + 1) = some #[.int .i64 k2, .int .i64 x2, .slice A2 n2 c2]) v10.ownBlock.toList (Frm.app hg10) (hot_app ho10 ht10 (fun k hk => by simpa using hk)) (carry B10.out OP.out) (fun y z h => row_alloc h z) ?_
  clear ho10 hg10 ht10 O9 I9 B9
  -- the sum
  refine wpM_e _ rfl (fun x hx => ?_)
  have hsx11 := x.below.size
  have B11 := Lib.hid (onto B10.out (by omega) x.below)
  have O11 := Lib.hid (O10.out.below x.below (Nat.le_refl _))
  have H11 := Lib.hid (hot_own O11.out)
  have rk11 := carry B11.out H6.out.rk
  have K11 := Lib.hid (Sl.of_row rk11 x.val.heap.size (row_lt rk11))
  clear hx B10 O10 rk11
  obtain ⟨X11, hX11⟩ : ∃ X11, X11 = x.val := ⟨_, rfl⟩
  rw [← hX11] at hsx11 B11 O11 H11 K11 ⊢
  clear hX11
  obtain ⟨A12, c12, hv12, hsl12, -, -⟩ := O11.out.sl
  obtain ⟨H12, hH12⟩ : ∃ H12, H12 = v10.ownBlock.toList := ⟨_, rfl⟩
  rw [← hH12] at H11 ⊢
  rw [hv12]
  have L12 := Lib.hid hsl12
  clear hsl12 O11 hv12 hH12
  have T11 := Lib.hid (HT.out.below (onto H6.out.b (by omega) B11.out) hpos)
  go_wp2_with fail
  refine (msum_any a0 _ 32 _ 32 c12 _ A12 X11 T11.out K11.out L12.out (by omega) (by omega)).mono ?_
  rintro e w12 ⟨rfl, hb12⟩
  obtain ⟨M0, hM0⟩ : ∃ M0 : St, M0 = mixS (a0, a1) 0#8 f2 N := ⟨_, rfl⟩
  rw [show macF a0 32 (mixT (a0, a1) 0#8 f2) (32 + 1 + N) = M0.1 by rw [hM0]; rfl]
  have HM0 := Lib.hid hM0
  have hs12 := hb12.size
  have B12 := Lib.hid (onto B11.out (by omega) hb12)
  have FR12 := Lib.hid (Frm.of (hot := H12) hb12)
  have HH12 := Lib.hid (hot_same H11.out hb12.size)
  clear hb12 hM0 B11 K11 T11 H11 L12
  go_wp2_with fail
  refine same_class (C := fun y => row y (w.heap.size + 1 + 1) = some #[.int .i64 k2, .int .i64 x2, .slice A2 n2 c2]) H12 FR12.out HH12.out (carry B12.out OP.out) (fun y z h => row_alloc h z) ?_
  clear FR12 HH12
  refine wpM_u _ _ _ 12 (.head _) rfl rfl (fun x0 hx0 p1 hp1 hp2 hp3 hp4 => ?_)
  refine wpM_e _ rfl (fun x hx => ?_)
  have rp := carry x.below (row_of hp4)
  have hs9 := x.below.size
  have hs9' := x0.below.size
  have B13 := Lib.hid (onto (onto B12.out (by omega) x0.below) (by omega) x.below)
  have P1 := Lib.hid hp1
  clear hx0 hx hp3 hp4 B12 hp1
  obtain ⟨X13, hX13⟩ : ∃ X13, X13 = x.val := ⟨_, rfl⟩
  rw [← hX13] at rp hs9 B13 ⊢
  clear hX13
  go_wp2_with fail
  have B14 := Lib.hid (below_setRow B13.out P1.out (ba 32 M0.1))
  have rp14 := Lib.hid (row_setRow rp (ba 32 M0.1))
  refine same_class (C := fun y => row y (w.heap.size + 1 + 1) = some #[.int .i64 k2, .int .i64 x2, .slice A2 n2 c2]) [] (Frm.row X13 _ (by simp)) hot_none (carry B14.out OP.out) (fun y z h => row_alloc h z) ?_
  clear rp B13
  refine wpM_nil (fun x => ?_)
  have B15 := onto B14.out (by simp; omega) x.below
  have RO15 := Lib.hid (carry x.below rp14.out)
  have H15 := Lib.hid (H6.out.below B15)
  have RK15 := Lib.hid (carry B15 RK6.out)
  have RV15 := Lib.hid (carry B15 RV6.out)
  have hz15 := B15.size
  have hp1z := row_lt RO15.out
  have hp1 := P1.out
  clear B14 rp14 B15 P1 H6 OP RK6 RV6
  obtain ⟨y0, hy0⟩ : ∃ y0, y0 = x.val := ⟨_, rfl⟩
  rw [← hy0] at RO15 H15 RK15 RV15 hz15 hp1z ⊢
  clear hy0
  go_wp2_with fail
  clear hs0 hs2 hs6 hs10 hs12 hsx hsx7 hsx9 hsx11 hs9 hs9' hp2 P3 hz1
  have a1' := sum_sl_all p1
  have a2' := sum_sl_all (w.heap.size + 1)
  refine flow_many [.inl [0, 1], pS 3, pE 2, pU 3, pE 4] (fun _ => True) [] (by kernel_rfl) (by kernel_rfl) (fun _ _ _ _ _ h => h) (fun _ _ _ _ _ h => h) (fun _ _ _ => trivial) trivial (fun k hk => by cases hk) ?_
  have bw := below_drewN (Below.refl y0.heap.size y0) 1
  have hz1 : (y0.drewN 1).heap.size = y0.heap.size := rfl
  obtain ⟨W1, hW1⟩ : ∃ W1, W1 = y0.drewN 1 := ⟨_, rfl⟩
  rw [← hW1] at bw hz1 ⊢
  clear hW1
  have BW := Lib.hid bw
  clear bw
  have hne : Nonempty (In (fun _ => True)) := ⟨⟨y0, trivial⟩⟩
  refine wpM_q ?_
  simp only [pk, List.getElem?_cons_zero, List.getElem?_cons_succ]
  repeat (go_big_quiet_step (fail))
  refine wpQuiet_nil ?_
  clear hne a1' a2'
  refine wpM_s (fun p => .pointer (some ⟨p, 0, none⟩)) (.cells (ba 32 fun _ => 0#8) 41) _ rfl rfl (fun w => by simp only [execOp, go_sem, Sem.run_bind, Result.andThen]; rfl) ?_
  refine wpM_e _ rfl (fun x hx => ?_)
  have hsx := x.below.size
  have B1 := Lib.hid (onto BW.out (by omega) x.below)
  have r1 := carry B1.out RO15.out
  have r2 := carry B1.out H15.out.rv
  have L1 := Lib.hid (Sl.of_row r1 x.val.heap.size (row_lt r1))
  have L2 := Lib.hid (Sl.of_row r2 x.val.heap.size (row_lt r2))
  have T1 := Lib.hid (HT.out.below (onto H15.out.b (by omega) B1.out) hpos)
  clear hx BW r1 r2
  obtain ⟨X1, hX1⟩ : ∃ X1, X1 = x.val := ⟨_, rfl⟩
  rw [← hX1] at hsx B1 L1 L2 T1 ⊢
  clear hX1
  go_wp2_with fail
  refine (msum_any M0.1 a1 32 32 32 32 _ _ X1 T1.out L1.out L2.out (by omega) (by omega)).mono ?_
  rintro e w12 ⟨rfl, hb12⟩
  rw [show macF M0.1 32 a1 32 = M0.2 by rw [HM0.out]; rfl]
  have hs12 := hb12.size
  have B12 := Lib.hid (onto B1.out (by omega) hb12)
  have FR12 := Lib.hid (Frm.of (hot := []) hb12)
  clear hb12 B1 L1 L2 T1
  go_wp2_with fail
  refine same_class (C := fun _ => True) [] FR12.out hot_none trivial (fun _ _ _ => trivial) ?_
  clear FR12
  refine wpM_u _ _ _ 13 (.head _) rfl rfl (fun x0 hx0 p2 hp1' hp2 hp3 hp4 => ?_)
  refine wpM_e _ rfl (fun x hx => ?_)
  have rp := carry x.below (row_of hp4)
  have hs9 := x.below.size
  have hs9' := x0.below.size
  have B13 := Lib.hid (onto (onto B12.out (by omega) x0.below) (by omega) x.below)
  have P2 := Lib.hid hp1'
  clear hx0 hx hp3 hp4 B12 hp1'
  obtain ⟨X13, hX13⟩ : ∃ X13, X13 = x.val := ⟨_, rfl⟩
  rw [← hX13] at rp hs9 B13 ⊢
  clear hX13
  go_wp2_with fail
  have B14 := Lib.hid (below_setRow B13.out P2.out (ba 32 M0.2))
  have rp14 := Lib.hid (row_setRow rp (ba 32 M0.2))
  refine same_class (C := fun _ => True) [] (Frm.row X13 _ (by simp)) hot_none trivial (fun _ _ _ => trivial) ?_
  clear rp B13
  refine wpM_nil (fun x => ?_)
  have B15 := onto B14.out (by simp; omega) x.below
  have RT16 := Lib.hid (carry x.below rp14.out)
  have RO16 := Lib.hid (carry B15 RO15.out)
  have H16 := Lib.hid (H15.out.below B15)
  have RK16 := Lib.hid (carry B15 RK15.out)
  have RV16 := Lib.hid (carry B15 RV15.out)
  have hz16 := B15.size
  have hp2z := row_lt RT16.out
  have hp2' := P2.out
  clear B14 rp14 B15 P2 H15 RO15 RK15 RV15
  obtain ⟨y1, hy1⟩ : ∃ y1, y1 = x.val := ⟨_, rfl⟩
  rw [← hy1] at RO16 RT16 H16 RK16 RV16 hz16 hp2z ⊢
  clear hy1
  have q2 := H16.out.c2
  go_wp2_with fail
  refine (few_any A2 n2 c2 hn HM.out y1).mono ?_
  rintro e w3' ⟨rfl, rfl⟩
  rw [← HN.out]
  clear q2 hsx hs12 hs9 hs9' hp2 hz1
  by_cases h0 : N = 0
  · have hd : decide ((0 : Int) < (N : Int)) = false := by simp; omega
    have e0 : U = M0 := by rw [HU.out, HM0.out]; unfold updS; rw [if_pos h0]
    have q1 := RK16.out
    have q2 := RV16.out
    have q3 := RO16.out
    have q4 := RT16.out
    have e1 := eqB_refl 32 M0.1
    have e2 := eqB_refl 32 M0.2
    rw [e0] at q1 q2
    clear e0
    go_wp2_with fail
    go_ret
    exact ⟨rfl, H16.out.b⟩
  · have hd : decide ((0 : Int) < (N : Int)) = true := by simp; omega
    have e0 := Lib.hid (show U = mixS M0 1#8 f2 N by rw [HU.out, HM0.out]; unfold updS; rw [if_neg h0])
    have a1' := sum_sl_all p1
    have a2' := sum_sl_all p2
    have OP := Lib.hid H16.out.ro
    have hN0 : 0 < N := by omega
    clear h0
    go_wp2_with fail
    refine flow_many [.inl [0, 2, 6, 7], pS 1, pS 4, pU 1, pE 3, pU 4, pE 5, pE 8, pE 9, pE 10, pE 11] (fun y => row y (w.heap.size + 1 + 1) = some #[.int .i64 k2, .int .i64 x2, .slice A2 n2 c2]) [p1] (by kernel_rfl) (by kernel_rfl) (fun _ _ _ _ _ h => h) (fun _ _ _ _ _ h => h) (fun y z h => row_alloc h z) (by rw [row_drewN]; exact OP.out) (fun k hk => by simp at hk; omega) ?_
    have bw := below_drewN (Below.refl y1.heap.size y1) 1
    have hz1 : (y1.drewN 1).heap.size = y1.heap.size := rfl
    obtain ⟨W1, hW1⟩ : ∃ W1, W1 = y1.drewN 1 := ⟨_, rfl⟩
    rw [← hW1] at bw hz1 ⊢
    clear hW1
    have BW := Lib.hid bw
    clear bw
    have hq : ∀ x : In (fun y => row y (w.heap.size + 1 + 1) = some #[.int .i64 k2, .int .i64 x2, .slice A2 n2 c2]), x.val.cell? ⟨w.heap.size + 1 + 1, 2, none⟩ = some (.slice A2 n2 c2) := fun x => by rw [cell_row x.ok]; rfl
    have hne : Nonempty (In (fun y => row y (w.heap.size + 1 + 1) = some #[.int .i64 k2, .int .i64 x2, .slice A2 n2 c2])) := ⟨⟨y1, OP.out⟩⟩
    refine wpM_q ?_
    simp only [pk, List.getElem?_cons_zero, List.getElem?_cons_succ]
    repeat (go_big_quiet_step (fail))
    refine wpQuiet_nil ?_
    clear hq hne a1' a2'
    refine wpM_s (fun p => .slice (some ⟨p, 0, none⟩) 0 0) (.cells #[] 5) _ rfl rfl (fun w => ex_bs0 _ rfl w) ?_
    refine wpM_s (fun p => .slice (some ⟨p, 0, none⟩) 1 1) (.cells #[.int .u8 1] 5) _ rfl rfl (fun w => ex_bs1 _ (.const (.int .u8 1)) rfl _ rfl w) ?_
    refine wpM_u _ _ _ 57 (.tail _ (.head _)) rfl rfl (fun x0 hx0 p hp1' hp2 hp3 hp4 => ?_)
    refine wpM_e _ rfl (fun x hx => ?_)
    have hs0 := x0.below.size
    have hsx := x.below.size
    have B1 := Lib.hid (onto (onto BW.out (by omega) x0.below) (by omega) x.below)
    have O1 := Lib.hid (show Own x.val y1.heap.size 5 (.slice (some ⟨p, 0, none⟩) 0 0) 0 nF from own_new (by rw [x.below.block p hp2]; exact hp4) hp1')
    have rv1 := carry B1.out RT16.out
    have L1 := Lib.hid (Sl.of_row rv1 x.val.heap.size (row_lt rv1))
    clear hx0 hx hp3 hp4 BW rv1
    obtain ⟨X1, hX1⟩ : ∃ X1, X1 = x.val := ⟨_, rfl⟩
    rw [← hX1] at hsx B1 O1 L1 ⊢
    clear hX1
    go_wp2_with (at_builtin; refine wpl_appB rfl (.tmp 57) (.tmp 58) rfl sli_u u8_info O1.out L1.out (by omega) (by omega) rfl rfl ?_; intro v2 w2 ho2 hg2 ht2)
    rw [catF_zero, Nat.zero_add] at ho2
    have hs2 := hg2.size
    have B2 := Lib.hid (O1.out.after hg2 B1.out (by omega) (Nat.le_refl _))
    have O2 := Lib.hid ho2
    refine same_class (C := fun y => row y (w.heap.size + 1 + 1) = some #[.int .i64 k2, .int .i64 x2, .slice A2 n2 c2]) (p1 :: v2.ownBlock.toList) ((Frm.app hg2).more (fun k hk => by simp [Value.ownBlock, eq_comm] at hk; simp [hk])) (hot_cons (by simp) (by omega) (hot_app ho2 ht2 (fun k hk => by simp [Value.ownBlock, eq_comm] at hk; simp [hk]))) (carry B2.out OP.out) (fun y z h => row_alloc h z) ?_
    clear ho2 hg2 ht2 O1 L1 B1
    -- the one
    refine wpM_u _ _ _ 60 (.head _) rfl rfl (fun x0 hx0 p hp1' hp2 hp3 hp4 => ?_)
    refine wpM_e _ rfl (fun x hx => ?_)
    have hs0 := x0.below.size
    have hsx := x.below.size
    have B5 := Lib.hid (onto (onto B2.out (by omega) x0.below) (by omega) x.below)
    have O5 := Lib.hid (O2.out.below (onto x0.below x0.below.size x.below) (Nat.le_refl _))
    have N5 := Lib.hid (sl_new (x := x.val) (p := p) (u := 5) (v := 1#8) (by rw [x.below.block p hp2, hp4]; rfl))
    have P3 := Lib.hid hp3
    clear hx0 hx hp4 B2 O2 hp3
    obtain ⟨X5, hX5⟩ : ∃ X5, X5 = x.val := ⟨_, rfl⟩
    rw [← hX5] at hsx B5 O5 N5 ⊢
    clear hX5
    go_wp2_with (at_builtin; refine wpl_appB rfl (.tmp 59) (.tmp 60) rfl sli_u u8_info O5.out N5.out (by omega) (by omega) rfl rfl ?_; intro v6 w6 ho6 hg6 ht6)
    have hs6 := hg6.size
    have B6 := Lib.hid (O5.out.after hg6 B5.out (by omega) (Nat.le_refl _))
    have O6 := Lib.hid ho6
    refine same_class (C := fun y => row y (w.heap.size + 1 + 1) = some #[.int .i64 k2, .int .i64 x2, .slice A2 n2 c2]) (p1 :: v6.ownBlock.toList) ((Frm.app hg6).more (fun k hk => .tail _ (.tail _ hk))) (hot_cons (.tail _ (.head _)) (by omega) (hot_app ho6 ht6 (fun k hk => .tail _ (.tail _ (show k ∈ v2.ownBlock.toList by simpa using hk))))) (carry B6.out OP.out) (fun y z h => row_alloc h z) ?_
    clear ho6 hg6 ht6 O5 N5 B5
    -- few
    refine wpM_e _ rfl (fun x hx => ?_)
    have hsx7 := x.below.size
    have B7 := Lib.hid (onto B6.out (by omega) x.below)
    have O7 := Lib.hid (O6.out.below x.below (Nat.le_refl _))
    have H7 := Lib.hid (hot_own O7.out)
    clear hx B6 O6
    obtain ⟨X7, hX7⟩ : ∃ X7, X7 = x.val := ⟨_, rfl⟩
    rw [← hX7] at hsx7 B7 O7 H7 ⊢
    clear hX7
    go_wp2_with fail
    refine (few_any A2 n2 c2 hn HM.out X7).mono ?_
    rintro e w3' ⟨rfl, rfl⟩
    rw [← HN.out]
    go_wp2_with fail
    refine same_class (C := fun y => row y (w.heap.size + 1 + 1) = some #[.int .i64 k2, .int .i64 x2, .slice A2 n2 c2]) (p1 :: v6.ownBlock.toList) (Frm.of (Below.refl _ _)) (hot_same (fun k hk => by rcases List.mem_cons.1 hk with rfl | hk; omega; exact H7.out k hk) (Nat.le_refl _)) (carry B7.out OP.out) (fun y z h => row_alloc h z) ?_
    clear H7
    -- the bytes
    refine wpM_e _ rfl (fun x hx => ?_)
    have hsx9 := x.below.size
    have B9 := Lib.hid (onto B7.out (by omega) x.below)
    have O9 := Lib.hid (O7.out.below x.below (Nat.le_refl _))
    have I9 := Lib.hid ((SS.out.below (onto H16.out.b (by omega) B9.out)))
    clear hx B7 O7
    obtain ⟨X9, hX9⟩ : ∃ X9, X9 = x.val := ⟨_, rfl⟩
    rw [← hX9] at hsx9 B9 O9 I9 ⊢
    clear hX9
    go_wp2_with (at_builtin; refine wpl_appB rfl (.tmp 61) (.tmp 64) rfl sli_u u8_info O9.out I9.out (by omega) (by omega) rfl rfl ?_; intro v10 w10 ho10 hg10 ht10)
    have hs10 := hg10.size
    have B10 := Lib.hid (O9.out.after hg10 B9.out (by omega) (Nat.le_refl _))
    have O10 := Lib.hid (show Own w10 y1.heap.size 5 v10 (32 + 1 + N) (mixT M0 1#8 f2) from ho10)
    refine same_class (C := fun y => row y (w.heap.size + 1 + 1) = some #[.int .i64 k2, .int .i64 x2, .slice A2 n2 c2]) (p1 :: v10.ownBlock.toList) ((Frm.app hg10).more (fun k hk => .tail _ hk)) (hot_cons (.head _) (by omega) (hot_app ho10 ht10 (fun k hk => List.mem_cons_of_mem _ (by simpa using hk)))) (carry B10.out OP.out) (fun y z h => row_alloc h z) ?_
    clear ho10 hg10 ht10 O9 I9 B9
    -- the sum
    refine wpM_e _ rfl (fun x hx => ?_)
    have hsx11 := x.below.size
    have B11 := Lib.hid (onto B10.out (by omega) x.below)
    have O11 := Lib.hid (O10.out.below x.below (Nat.le_refl _))
    have H11 := Lib.hid (hot_own O11.out)
    have rk11 := carry B11.out RO16.out
    have K11 := Lib.hid (Sl.of_row rk11 x.val.heap.size (row_lt rk11))
    clear hx B10 O10 rk11
    obtain ⟨X11, hX11⟩ : ∃ X11, X11 = x.val := ⟨_, rfl⟩
    rw [← hX11] at hsx11 B11 O11 H11 K11 ⊢
    clear hX11
    obtain ⟨A12, c12, hv12, hsl12, -, -⟩ := O11.out.sl
    obtain ⟨H12, hH12⟩ : ∃ H12, H12 = v10.ownBlock.toList := ⟨_, rfl⟩
    rw [← hH12] at H11 ⊢
    rw [hv12]
    have L12 := Lib.hid hsl12
    clear hsl12 O11 hv12 hH12
    have T11 := Lib.hid (HT.out.below (onto H16.out.b (by omega) B11.out) hpos)
    go_wp2_with fail
    refine (msum_any M0.1 _ 32 _ 32 c12 _ A12 X11 T11.out K11.out L12.out (by omega) (by omega)).mono ?_
    rintro e w12 ⟨rfl, hb12⟩
    rw [show macF M0.1 32 (mixT M0 1#8 f2) (32 + 1 + N) = U.1 by rw [e0.out]; rfl]
    have hs12 := hb12.size
    have B12 := Lib.hid (onto B11.out (by omega) hb12)
    have FR12 := Lib.hid (Frm.of (hot := p1 :: H12) hb12)
    have HH12 := Lib.hid (hot_cons (q := p1) (l := []) (hot := p1 :: H12) (x := X11) (w'' := w12) (.head _) (by omega) hot_none)
    clear hb12 B11 K11 T11 H11 L12
    go_wp2_with fail
    refine same_class (C := fun y => row y (w.heap.size + 1 + 1) = some #[.int .i64 k2, .int .i64 x2, .slice A2 n2 c2]) [p1] FR12.out HH12.out (carry B12.out OP.out) (fun y z h => row_alloc h z) ?_
    clear FR12 HH12
    refine wpM_e _ rfl (fun x hx => ?_)
    have B13 := Lib.hid (onto B12.out (by omega) x.below)
    have rp := carry B13.out RO16.out
    clear hx B12
    obtain ⟨X13, hX13⟩ : ∃ X13, X13 = x.val := ⟨_, rfl⟩
    rw [← hX13] at rp B13 ⊢
    clear hX13
    have z13 := B13.out.size
    go_wp2_with fail
    have H14 := Lib.hid (show Hd3 w (X13.setRow p1 (ba 32 U.1)) a0 a1 #[.int .i64 k2, .int .i64 x2, .slice A2 n2 c2] from (H16.out.below B13.out).put (Put.of (Below.refl _ _) (row_lt rp) _) (by omega))
    have RO14 := Lib.hid (row_setRow rp (ba 32 U.1))
    have RT14 := Lib.hid (show row (X13.setRow p1 (ba 32 U.1)) p2 = some (ba 32 M0.2) by rw [row_setRow_other _ _ _ _ (by omega)]; exact carry B13.out RT16.out)
    have RK14 := Lib.hid (show row (X13.setRow p1 (ba 32 U.1)) w5.heap.size = some (ba 32 U.1) by rw [row_setRow_other _ _ _ _ (by have := Z6.out; omega)]; exact carry B13.out RK16.out)
    have RV14 := Lib.hid (show row (X13.setRow p1 (ba 32 U.1)) (w5.heap.size + 1) = some (ba 32 U.2) by rw [row_setRow_other _ _ _ _ (by have := Z6.out; omega)]; exact carry B13.out RV16.out)
    refine same_class (C := fun y => row y (w.heap.size + 1 + 1) = some #[.int .i64 k2, .int .i64 x2, .slice A2 n2 c2]) [] (Frm.row X13 _ (by simp)) hot_none H14.out.ro (fun y z h => row_alloc h z) ?_
    clear rp B13
    refine wpM_nil (fun x => ?_)
    have H20 := Lib.hid (H14.out.below x.below)
    have RO20 := Lib.hid (carry x.below RO14.out)
    have RT20 := Lib.hid (carry x.below RT14.out)
    have RK20 := Lib.hid (carry x.below RK14.out)
    have RV20 := Lib.hid (carry x.below RV14.out)
    have z20 := x.below.size
    clear H14 RO14 RT14 RK14 RV14 H16 RO16 RT16 RK16 RV16 OP
    obtain ⟨y2, hy2⟩ : ∃ y2, y2 = x.val := ⟨_, rfl⟩
    rw [← hy2] at H20 RO20 RT20 RK20 RV20 z20 ⊢
    clear hy2
    have a1' := sum_sl_all p1
    have a2' := sum_sl_all p2
    go_wp2_with fail
    refine flow_seen [([0, 1], 2, true), ([], 3, true)] [] (by kernel_rfl) (by kernel_rfl) (fun _ _ _ _ _ h => h) fun X => ?_
    have H21 := Lib.hid (H20.out.below X.below)
    have r1 := carry X.below RO20.out
    have r2 := carry X.below RT20.out
    have RK21 := Lib.hid (carry X.below RK20.out)
    have RV21 := Lib.hid (carry X.below RV20.out)
    obtain ⟨w21, hw21⟩ : ∃ w21, w21 = X.val := ⟨_, rfl⟩
    rw [← hw21] at H21 r1 r2 RK21 RV21 ⊢
    clear hw21 X H20 RO20 RT20 RK20 RV20
    simp only [wpFs, pk, List.getElem?_cons_zero, List.getElem?_cons_succ]
    repeat (go_big_quiet_step (fail))
    refine wpQuiet_nil ?_
    have HMM := Lib.hid (msum_any U.1 M0.2 32 32 32 32 _ _ w21 (HT.out.below H21.out.b hpos) (Sl.of_row r1 _ (row_lt r1)) (Sl.of_row r2 _ (row_lt r2)) (by omega) (by omega))
    have RO21 := Lib.hid r1
    have RT21 := Lib.hid r2
    clear r1 r2 a1' a2'
    go_wp2_with fail
    refine HMM.out.mono ?_
    rintro e w22 ⟨rfl, hb22⟩
    rw [show macF U.1 32 M0.2 32 = U.2 by rw [e0.out]; rfl]
    have H22 := Lib.hid (H21.out.below hb22)
    have RO22 := Lib.hid (carry hb22 RO21.out)
    have rt := carry hb22 RT21.out
    have RK22 := Lib.hid (carry hb22 RK21.out)
    have RV22 := Lib.hid (carry hb22 RV21.out)
    clear hb22 HMM H21 RO21 RT21 RK21 RV21
    go_wp2_with fail
    refine ⟨.inl trivial, ?_⟩
    show wpQuiet _ _ _ _ _ _
    refine wpQuiet_nil ?_
    go_wp2_with fail
    refine ⟨.inl trivial, ?_⟩
    show wpQuiet _ _ _ _ _ _
    refine wpQuiet_nil ?_
    have HF := Lib.hid (show Below w.heap.size w (w22.setRow p2 (ba 32 U.2)) from below_setRow H22.out.b (by omega) _)
    have q1 : row (w22.setRow p2 (ba 32 U.2)) p1 = some (ba 32 U.1) := by rw [row_setRow_other _ _ _ _ (by omega)]; exact RO22.out
    have q2 := row_setRow rt (ba 32 U.2)
    have q3 : row (w22.setRow p2 (ba 32 U.2)) w5.heap.size = some (ba 32 U.1) := by rw [row_setRow_other _ _ _ _ (by have := Z6.out; omega)]; exact RK22.out
    have q4 : row (w22.setRow p2 (ba 32 U.2)) (w5.heap.size + 1) = some (ba 32 U.2) := by rw [row_setRow_other _ _ _ _ (by have := Z6.out; omega)]; exact RV22.out
    have e1 := eqB_refl 32 U.1
    have e2 := eqB_refl 32 U.2
    clear H22 RO22 rt RK22 RV22
    go_wp2_with fail
    go_ret
    exact ⟨rfl, HF.out⟩

set_option maxRecDepth 100000 in
theorem lifted (os : Os) (started : os.Started) (H : Type) (enc : TypeId × Value → H) :
    ReturnsInHanded {} Tryd.checked os 6 .any (fun w args => (Rows.drbgSeedsSpec.pre enc Tryd.prog Tryd.f6 [] false w args ∧ laidMetH Tryd.prog laidL w) ∧ sizedMet enc Tryd.prog Tryd.f6 (OpenSpec.ofChange Rows.drbgSeedsSpec) false w args) (Rows.drbgSeedsSpec.post enc Tryd.prog Tryd.f6 false true false false) := by
  refine returnsInHanded_of_change_and (C := Tryd.checked) (X := fun w _ => laidMetH Tryd.prog laidL w) (fun _ _ _ hh h => h.of_heap hh) own started (by kernel_rfl) Tryd.func6
    (ChangeSpec.witness_shaped (enc := enc) (C := Tryd.checked) (os := os) (X := fun w _ => laidMetH Tryd.prog laidL w) false (World.doorLaid Tryd.prog 14 os) #[.agg (Array.replicate 32 (.int .u8 0)), .agg (Array.replicate 32 (.int .u8 0)), .agg #[.int .i64 0, .int .i64 0, .slice none 0 0]] 8 rfl (World.shaped_of_RefB (by kernel_rfl) (by kernel_rfl)) (by kernel_rfl) (by kernel_rfl) (by kernel_rfl) (door_met os _)) ?_
  intro W base args ds gs before hval0 hW _ _ hL _
  have hval : ∀ (j : Nat) t v, Tryd.f6.params[j]? = some t → args[j]? = some v → Value.okWide Tryd.prog W .any base t v := hval0
  have hW' := hW
  obtain ⟨p, q, hA0, hV, rfl, hfz, hnd⟩ := hW
  have hA : DataW.TrodAll enc Tryd.prog W 0 (fun _ => true) true Tryd.f6.params.toList args.toList ds p := hA0
  rw [Tryd.params6] at hA hval
  obtain ⟨v0, vs0, d0, ds0, p0, q0, hargs, rfl, rfl, h0, r0⟩ := trodAll_cons hA
  obtain ⟨v1, vs1, d1, ds1, p1, q1, rfl, rfl, rfl, h1, r1⟩ := trodAll_cons r0
  obtain ⟨v2, vs2, d2, ds2, p2, q2, rfl, rfl, rfl, h2, r2⟩ := trodAll_cons r1
  obtain ⟨rfl, rfl, rfl⟩ := trodAll_nil r2
  obtain rfl : args = #[v0, v1, v2] := by cases args; simp_all
  obtain ⟨rfl, rfl⟩ := trodVars_none hV
  have k0 := h0
  have lt0 : ∀ x ∈ p0, x.block < W.heap.size := by obtain ⟨m, hm⟩ := k0; exact DataW.trod_lt m _ _ _ hm
  obtain ⟨a0, rfl⟩ := open_bytes Tryd.underlying41 Tryd.underlying5 (by kernel_rfl) (by kernel_rfl) (hval 0 41 v0 rfl rfl) h0
  have k1 := h1
  have lt1 : ∀ x ∈ p1, x.block < W.heap.size := by obtain ⟨m, hm⟩ := k1; exact DataW.trod_lt m _ _ _ hm
  obtain ⟨a1, rfl⟩ := open_bytes Tryd.underlying41 Tryd.underlying5 (by kernel_rfl) (by kernel_rfl) (hval 1 41 v1 rfl rfl) h1
  have k2 := h2
  have lt2 : ∀ x ∈ p2, x.block < W.heap.size := by obtain ⟨m, hm⟩ := k2; exact DataW.trod_lt m _ _ _ hm
  obtain ⟨kb2, xb2, A2, n2, c2, fb2, rfl, hs2, hm2, hk2', hx2'⟩ := open_op (hval 2 31 v2 rfl rfl) h2
  clear hA0 hval0
  refine (walk a0 a1 fb2 n2 c2 A2 kb2 xb2 W hs2 hm2 hk2' hx2' (tab_of hL)).mono fun e W' ⟨he, bel⟩ => ?_
  subst he
  exact ⟨_, rfl, _, _, _, [], _, [], hW', trodAll_mk1 (shut_bool Tryd.underlying4 _), (trodAll_cons_mk (Below.trod laidOut (by kernel_rfl) (of_decide_eq_true (by kernel_rfl)) k0 bel lt0) (trodAll_cons_mk (Below.trod laidOut (by kernel_rfl) (of_decide_eq_true (by kernel_rfl)) k1 bel lt1) (trodAll_cons_mk (Below.trod laidOut (by kernel_rfl) (of_decide_eq_true (by kernel_rfl)) k2 bel lt2) trodAll_mk0))), rfl, bel.frame _, fun h => by cases h⟩

theorem over : Rows.drbgSeedsRow.holds Tryd.pinned (OpenSpec.ofChange Rows.drbgSeedsSpec) :=
  OpenClaim.holds_of_wide 6 Tryd.f6 rfl rfl rfl rfl rfl rfl rfl ⟨rfl, rfl, rfl, rfl, rfl⟩ rfl rfl rfl rfl rfl (by kernel_rfl) Tryd.func6 (by kernel_rfl)
    (of_decide_eq_true (by kernel_rfl)) (by unfold Func.isWrapper; first | (rw [if_pos (by decide +kernel)]; kernel_rfl) | (rw [if_neg (by decide +kernel)]; exact ⟨rfl, rfl⟩))
    (fun os started H enc _ => lifted os started H enc)

theorem proved : Rows.DrbgSeedsCardSaid :=
  Claim7.holds_tied_plain_at .later [] [.data] true (true, "4642ee307c21727693058ea21c92daa3e951da6297322ad112cfe872a294e37d") false
    over (fun _ h => by cases h) (by kernel_rfl) (fun _ h => by cases h) drbgSeeds_row_tie rfl ⟨rfl, rfl⟩ (by kernel_rfl) rfl
    (fun f fn hf hfn => by
      obtain rfl : f = 6 := Option.some.inj ((show Tryd.prog.funcNamed "strongroom/strongroomlaw07.DrbgSeeds" = some 6 by kernel_rfl).symm.trans hf) |>.symm
      obtain rfl : fn = Tryd.f6 := (Option.some.inj (Tryd.func6.symm.trans hfn)).symm
      exact ⟨by kernel_rfl, fun j t ht => by
        rw [Tryd.params6] at ht
        have hm : t ∈ [41, 31] := by simpa using Array.mem_of_getElem? ht
        have hall : ([41, 31].all fun u => !Tryd.prog.wantsStandIn u) = true := by kernel_rfl
        exact (show Tryd.prog.wantsStandIn t = false by simpa using List.all_eq_true.1 hall t hm)⟩)
    (by kernel_rfl)
#print axioms proved
end Go.Proofs.YtjggnbncpjoooaaDoor.drbgSeeds
