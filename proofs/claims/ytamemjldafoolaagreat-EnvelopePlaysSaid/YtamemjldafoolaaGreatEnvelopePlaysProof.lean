/- The statement EnvelopePlays: the law strongroomlaw14.EnvelopePlays answers true for every input, and leaves its arguments as they were. No further condition. -/
import Derived.Test.YtamemjldafoolaaGreatRows
import Derived.Test.YtamemjldafoolaaGreatLib
import Derived.Test.YtamemjldafoolaaGreatEvP
import Derived.Deep.DeepCutAuto
import Derived.Deep.CutBlock
namespace Go.Proofs.YtamemjldafoolaaGreat.envelopePlays
open Go.ChangeShapes Go.WideShapes Go.ChangeAt Go.RowKit
open Go.Proofs.YtamemjldafoolaaGreat.Oct
set_option linter.unusedVariables false

theorem own : ownKnob Tryz.prog.godebug = none := by kernel_rfl
theorem laidOut : laidOutB Tryz.prog = true := by kernel_rfl

set_option maxRecDepth 20000 in
set_option maxHeartbeats 16000000 in
theorem walk (v0 : Value) (l0 : List OpE) (w : World) (hl0 : OpsE w v0 l0) :
    Calls Tryz.prog 3 #[v0] w fun e w' => e = .returned (.bool true) ∧ Below w.heap.size w w' := by
  have HL := Lib.hid hl0
  obtain ⟨A0, c0, rfl, hle0, hmx0, hat0⟩ := hl0.at_
  have HAT := Lib.hid hat0
  obtain ⟨n0, hn0⟩ : ∃ n, n = l0.length := ⟨_, rfl⟩
  have HN0 := Lib.hid hn0
  rw [← hn0] at hle0 ⊢
  clear hl0 hat0 hn0
  go_enter Tryz.func3, Tryz.ntmps3
  go_wp2_with fail
  refine (shown_any w).mono ?_
  rintro e w1 ⟨rfl, hb1⟩
  have B1 := Lib.hid hb1
  clear hb1
  go_wp2_with fail
  refine (wnew_any w1).mono ?_
  rintro e w2 ⟨B, rfl, hk2, hB, hb2⟩
  have HBw := Lib.hid (show w.heap.size ≤ B by have := B1.out.size; omega)
  have K2 := Lib.hid hk2
  have B2 := Lib.hid (onto B1.out B1.out.size hb2)
  clear hk2 hB hb2 B1
  obtain ⟨w3, hw3⟩ : ∃ w3, w3 = w2.alloc (.cells #[.slice none 0 0] 29) := ⟨_, rfl⟩
  obtain ⟨w4, hw4⟩ : ∃ w4, w4 = w3.alloc (.cells #[] 33) := ⟨_, rfl⟩
  have b3 : Below w2.heap.size w2 w3 := by rw [hw3]; exact (Below.refl _ _).alloc (Nat.le_refl _) _
  have b4 : Below w3.heap.size w3 w4 := by rw [hw4]; exact (Below.refl _ _).alloc (Nat.le_refl _) _
  have r3 : row w3 w2.heap.size = some #[.slice none 0 0] := by rw [hw3]; exact row_alloc_at _ _ _ _ rfl
  have hsz3 : w3.heap.size = w2.heap.size + 1 := by rw [hw3]; simp
  have P4 := Lib.hid (show PlE w w4 (paint (fun k => if k = B then 1 else if k = w2.heap.size then 30 else 0) w3.heap.size 20) B w2.heap.size [] [] (.slice (some ⟨w3.heap.size, 0, none⟩) 0 0) [] from by
    have hBl := K2.out.lt
    have hf := Fr.new (T := fun k => if k = B then 1 else if k = w2.heap.size then 30 else 0) (H := fun _ => False) b4 20
    refine ⟨(K2.out.below b3).below b4, KAt.fr (T := fun k => if k = B then 1 else if k = w2.heap.size then 30 else 0) ⟨by show (if w2.heap.size = B then 1 else if w2.heap.size = w2.heap.size then 30 else 0) = 30; rw [if_neg (by omega), if_pos rfl], ⟨_, r3, RsAt.nil⟩, ok_nil⟩ hf (fun _ _ e => e), ?_, ?_, fun x hx => (by cases hx), paint_bd (fun k => ?_) (by omega), fun k hk => ?_, onto (onto B2.out B2.out.size b3) (by have := B2.out.size; have := b3.size; omega) b4⟩
    · rw [paint_old (by omega)]; exact if_pos rfl
    · rw [hw4]; exact OwZ.empty _ _ _ _
    · show (if k = B then 1 else if k = w2.heap.size then 30 else 0) < 50
      split
      · omega
      · split <;> omega
    · have := HBw.out
      have := B2.out.size
      rw [paint_old (by omega)]
      show (if k = B then 1 else if k = w2.heap.size then 30 else 0) = 0
      rw [if_neg (by omega), if_neg (by omega)])
  obtain ⟨B', hB'⟩ : ∃ b, b = w2.heap.size := ⟨_, rfl⟩
  have HW3 := Lib.hid hw3
  have HW4 := Lib.hid hw4
  have HB' := Lib.hid hB'
  rw [hsz3, ← hB'] at P4
  clear hw3 hw4 b3 b4 r3 hsz3 hB' K2 B2
  go_wp2_with fail
  rw [← HW3.out, ← HW4.out, ← HB'.out]
  clear HW3 HW4 HB'
  go_loopw [6, 7] (fun bv iv wr => ∃ (j : Nat) (T : Mk) (K : Ks) (xs : List Value), j ≤ n0 ∧ j ≤ 25 ∧ xs.length ≤ j ∧ iv = .int .i64 j ∧ PlE w wr T B B' K K bv xs) (fun _ iv _ => n0 - (intOf iv).toNat)
  case atStart => exact ⟨0, _, _, _, by omega, by omega, Nat.le_refl _, rfl, P4.out⟩
  case round =>
    clear P4
    obtain ⟨j, T, K, xs, hj, hj2, hxs, rfl, hP⟩ := hrel
    obtain ⟨wo, rfl⟩ : ∃ wo : World, wo = wr := ⟨_, rfl⟩
    obtain ⟨bv, rfl⟩ : ∃ b : Value, b = u6 := ⟨_, rfl⟩
    have PI := Lib.hid hP
    obtain ⟨Ab, cb, rfl, hbl⟩ := hP.bl.rd
    have HBL := Lib.hid hbl
    obtain ⟨nb, hnb⟩ : ∃ n, n = xs.length := ⟨_, rfl⟩
    have HNB := Lib.hid hnb
    have hnb25 : nb ≤ 25 := by omega
    clear hP hbl
    by_cases hlt : j < n0 ∧ j < 25
    · have hd1 : decide ((j : Int) < (n0 : Int)) = true := by simp; omega
      have hd2 : decide ((j : Int) < 25) = true := by simp; omega
      have hj0 : j < n0 := hlt.1
      have hj25 : j < 25 := hlt.2
      have hjl : j < l0.length := by have := HN0.out; omega
      obtain ⟨gl, ol, rfl, hgl, hcl⟩ := HAT.out (by omega)
      obtain ⟨x, hx⟩ : ∃ x, x = l0[j] := ⟨_, rfl⟩
      have hwf := HL.out.wf l0[j] (List.getElem_mem _)
      rw [← hx] at hwf
      have HWF := Lib.hid hwf
      have hld := oe_cells wo gl (ol + j * 37) x (fun i hi => (PI.out.bel.cell (p := ⟨gl, ol + j * 37 + i, none⟩) hgl).trans (by rw [hx]; exact hcl j i hjl hi))
      clear hcl hx hwf hlt
      rw [← hnb]
      clear hnb
      go_wp2_with fail
      clear hld
      obtain ⟨w5, hw5⟩ : ∃ w5, w5 = wo.alloc (.cells (oeA x) 35) := ⟨_, rfl⟩
      have b5 : Below wo.heap.size wo w5 := by rw [hw5]; exact (Below.refl _ _).alloc (Nat.le_refl _) _
      obtain ⟨Z, hZ⟩ : ∃ Z, Z = wo.heap.size := ⟨_, rfl⟩
      have P5 := Lib.hid (show PlZ w w5 (paint T wo.heap.size 0) B B' K K (.slice Ab nb cb) xs Z (oeA x) from ⟨by rw [HNB.out]; exact PI.out.new b5, by rw [hw5, hZ]; exact row_alloc_at _ _ _ _ rfl, by rw [hZ]; exact paint_new (Nat.le_refl _)⟩)
      obtain ⟨T5, hT5⟩ : ∃ T5, T5 = paint T wo.heap.size 0 := ⟨_, rfl⟩
      rw [← hT5] at P5
      rw [← hw5, ← hZ]
      clear PI HBL b5 hw5 hZ hT5
      refine (few_any x.A x.L x.c HWF.out.2.1.1.le HWF.out.2.1.2 w5).mono ?_
      rintro e w5' ⟨rfl, rfl⟩
      have F5 := Lib.hid (show RdS T5 w5 0 x.A (min x.L 200) x.c x.f from (P5.out.pl.arg HWF.out.2.1.1).upto _ (by omega))
      obtain ⟨nf, hnf⟩ : ∃ n, n = min x.L 200 := ⟨_, rfl⟩
      have hnf2 : nf ≤ 200 := by omega
      rw [← hnf] at F5 ⊢
      have HNF := Lib.hid hnf
      clear hnf
      obtain ⟨c5k, c5i, c5n, c5b, c5s⟩ := oe_at P5.out.zr
      go_upto_if 47 with fail
      go_cut [9] from 47 to 55 (fun bv wx => ∃ A n c f, bv = .slice A n c ∧ RdS T5 wx 0 A n c f ∧ n ≤ 1000 ∧ wx = w5)
      case first =>
        by_cases hb0 : 0 < nb
        · have hdb : decide (0 < nb) = true := by simpa using hb0
          obtain ⟨Ab', cb', hv, hbl⟩ := P5.out.pl.bl.rd
          rw [← HNB.out] at hv hbl
          simp only [Value.slice.injEq] at hv
          obtain ⟨rfl, -, rfl⟩ := hv
          obtain ⟨gb, rfl, hgb, -, hcb⟩ := hbl hb0
          have hnb0 : 0 < (nb : Int) ∧ (nb : Int) < 1000 := by omega
          have HCB := Lib.hid hcb
          clear hbl hcb
          go_wp2_with fail
          refine (kindE_any x.n nb HWF.out.1.2.2 hnb0 w5).mono ?_
          rintro e w5' ⟨rfl, rfl⟩
          obtain ⟨m, hm⟩ : ∃ m : Nat, kdE x.n nb = (m : Int) := ⟨(kdE x.n nb).toNat, by have := (kdE_nn x.n nb hnb0.1).1; omega⟩
          have hmn : m < nb := by have := (kdE_nn x.n nb hnb0.1).2; omega
          rw [hm]
          have hml : m < xs.length := by have := HNB.out; omega
          obtain ⟨A, n, c, f, e, hr, hn⟩ := P5.out.pl.bs xs[m] (List.getElem_mem hml)
          have hcm : w5.cell? ⟨gb, m, none⟩ = some (.slice A n c) := by rw [HCB.out m hmn, List.getElem?_eq_getElem hml, e]
          have HR := Lib.hid hr
          have hle := Lib.hid hn
          clear hm hr hn e hnb0
          go_wp2_with fail
          go_meet
          exact ⟨A, n, c, f, rfl, HR.out, hle.out, rfl⟩
        · have hdb : decide (0 < nb) = false := by simpa using hb0
          go_wp2_with fail
          go_meet
          exact ⟨x.A, nf, x.c, x.f, rfl, F5.out, by omega, rfl⟩
      obtain ⟨A9, n9, c9, f9, rfl, hR9, hn9, rfl⟩ := hcut
      obtain ⟨w5, rfl⟩ : ∃ w : World, w = wc := ⟨_, rfl⟩
      obtain ⟨w7, hw7⟩ : ∃ w7, w7 = (w5.alloc (.cells #[] 5)).alloc (.cells #[] 5) := ⟨_, rfl⟩
      have b7 : Below w5.heap.size w5 w7 := by rw [hw7]; exact ((Below.refl _ _).alloc (Nat.le_refl _) _).alloc (by simp) _
      have P7 := Lib.hid (P5.out.new b7)
      have R7 := Lib.hid (hR9.new b7 0)
      have e7k := (oe_at P7.out.zr).1
      obtain ⟨T7, hT7⟩ : ∃ T7, T7 = paint T5 w5.heap.size 0 := ⟨_, rfl⟩
      rw [← hT7] at P7 R7
      rw [hw7] at e7k
      have HW7 := Lib.hid hw7
      clear c5k c5i c5n c5b c5s F5 P5 hR9 b7 hT7 hw7
      go_wp2_with fail
      rw [← HW7.out]
      rw [← HW7.out] at e7k
      clear e7k HW7
      refine (kindE_any x.k 8 HWF.out.1.1 (by omega) w7).mono ?_
      rintro e w7' ⟨rfl, rfl⟩
      obtain ⟨q, hq⟩ : ∃ m, m = kdE x.k 8 := ⟨_, rfl⟩
      have hq8 := kdE_nn x.k 8 (by omega)
      rw [← hq] at hq8 ⊢
      have hcase : q = 0 ∨ q = 1 ∨ q = 2 ∨ q = 3 ∨ q = 4 ∨ q = 5 ∨ q = 6 ∨ q = 7 := by omega
      clear hq hq8
      go_upto_block 2 with fail
      go_cut [10, 11, 12, 13, 14, 15] from 61 to 189 (fun x10 x11 v12 v13 e14 e15 wx => SwE w B B' (.slice Ab nb cb) xs x10 x11 v12 v13 e14 e15 wx)
      case first =>
        have HR7 := Lib.hid (P7.out.zr)
        have r7 := HR7.out
        obtain ⟨-, c7i, c7n, -, -⟩ := oe_at r7
        rcases hcase with rfl | rfl | rfl | rfl | rfl | rfl | rfl | rfl
        · as_aux_lemma => -- Create
          go_wp2_with fail
          clear r7 c7i c7n
          refine (wcr_any B K x.m w7 P7.out.pl.kp).mono ?_
          rintro e w8 ⟨rfl, hk8, hc8⟩
          have P8 := Lib.hid (P7.out.prog hk8 hc8)
          have r8 := P8.out.zr
          obtain ⟨-, c8i, c8n, -, -⟩ := oe_at r8
          clear hk8 hc8 P7 R7
          go_wp2_with fail
          clear r8 c8i c8n
          refine (rcr_any _ 30 B' K x.m w8 P8.out.pl.kr).mono ?_
          rintro e w9 ⟨rfl, T9, hk9, hf9⟩
          have P9 := Lib.hid (P8.out.ref hk9 hf9.fz)
          clear hk9 hf9 P8
          go_wp2_with fail
          go_meet
          exact ⟨T9, crK K x.m, 0, nF, _, _, _, _, 0, 0, rfl, rfl, rfl, rfl, rfl, rfl, ⟨Sl.nothing _ _ _ _ _, fun h => absurd h (by omega)⟩, Sl.nothing _ _ _ _ _, by omega, P9.out.pl⟩
        · as_aux_lemma => -- Rotate
          go_wp2_with fail
          clear r7 c7i c7n
          refine (wrt_any B K x.id x.m w7 P7.out.pl.kp).mono ?_
          rintro e w8 ⟨rfl, hk8, hc8⟩
          have P8 := Lib.hid (P7.out.prog hk8 hc8)
          have r8 := P8.out.zr
          obtain ⟨-, c8i, c8n, -, -⟩ := oe_at r8
          clear hk8 hc8 P7 R7
          go_wp2_with fail
          clear r8 c8i c8n
          refine (rrt_any _ 30 B' K x.id x.m w8 P8.out.pl.kr).mono ?_
          rintro e w9 ⟨rfl, T9, hk9, hf9⟩
          have P9 := Lib.hid (P8.out.ref hk9 hf9.fz)
          clear hk9 hf9 P8
          go_wp2_with fail
          go_meet
          exact ⟨T9, rtK K x.id x.m, 0, nF, _, _, _, _, 0, 0, rfl, rfl, rfl, rfl, rfl, rfl, ⟨Sl.nothing _ _ _ _ _, fun h => absurd h (by omega)⟩, Sl.nothing _ _ _ _ _, by omega, P9.out.pl⟩
        · as_aux_lemma => -- Switch
          go_wp2_with fail
          clear r7 c7i c7n
          refine (wsw_any B K x.id _ w7 P7.out.pl.kp).mono ?_
          rintro e w8 ⟨rfl, hk8, hc8⟩
          have P8 := Lib.hid (P7.out.prog hk8 hc8)
          have r8 := P8.out.zr
          obtain ⟨-, c8i, c8n, -, -⟩ := oe_at r8
          clear hk8 hc8 P7 R7
          go_wp2_with fail
          clear r8 c8i c8n
          refine (rsw_any _ 30 B' K x.id _ w8 P8.out.pl.kr).mono ?_
          rintro e w9 ⟨rfl, T9, hk9, hf9⟩
          have P9 := Lib.hid (P8.out.ref hk9 hf9.fz)
          clear hk9 hf9 P8
          go_wp2_with fail
          go_meet
          exact ⟨T9, swK K x.id _, 0, nF, _, _, _, _, 0, 0, rfl, rfl, rfl, rfl, rfl, rfl, ⟨Sl.nothing _ _ _ _ _, fun h => absurd h (by omega)⟩, Sl.nothing _ _ _ _ _, by omega, P9.out.pl⟩
        · as_aux_lemma => -- Destroy
          go_wp2_with fail
          clear r7 c7i c7n
          refine (wds_any B K x.id x.n w7 P7.out.pl.kp).mono ?_
          rintro e w8 ⟨rfl, hk8, hc8⟩
          have P8 := Lib.hid (P7.out.prog hk8 hc8)
          have r8 := P8.out.zr
          obtain ⟨-, c8i, c8n, -, -⟩ := oe_at r8
          clear hk8 hc8 P7 R7
          go_wp2_with fail
          clear r8 c8i c8n
          refine (rds_any _ 30 B' K x.id x.n w8 P8.out.pl.kr).mono ?_
          rintro e w9 ⟨rfl, T9, hk9, hf9⟩
          have P9 := Lib.hid (P8.out.ref hk9 hf9.fz)
          clear hk9 hf9 P8
          go_wp2_with fail
          go_meet
          exact ⟨T9, dsK K x.id x.n, 0, nF, _, _, _, _, 0, 0, rfl, rfl, rfl, rfl, rfl, rfl, ⟨Sl.nothing _ _ _ _ _, fun h => absurd h (by omega)⟩, Sl.nothing _ _ _ _ _, by omega, P9.out.pl⟩
        · as_aux_lemma => -- Encrypt
          clear c7i c7n
          go_wp2_with fail
          clear r7
          refine flow_seen [([0, 1, 2, 3, 4, 6, 7], 5, false), ([], 8, false), ([], 9, true)] [10, 11, 12, 13, 14, 15, 16] (by kernel_rfl) (by kernel_rfl) (fun _ _ _ _ _ h => h) fun X => ?_
          have P8 := Lib.hid (P7.out.new X.below)
          obtain ⟨w8, hw8⟩ : ∃ w, w = X.val := ⟨_, rfl⟩
          obtain ⟨T8, hT8⟩ : ∃ t, t = paint T7 w7.heap.size 0 := ⟨_, rfl⟩
          rw [← hw8, ← hT8] at P8
          rw [← hw8]
          clear hw8 hT8 X P7 R7 HR7
          have ci : ∀ y : After w8, y.val.cell? ⟨Z, 1, none⟩ = some (.int .i64 x.id) := fun y => (oe_at (carry y.below P8.out.zr)).2.1
          have cb2 : ∀ y : After w8, y.val.cell? ⟨Z, 35, none⟩ = some (.slice x.A x.L x.c) := fun y => (oe_at (carry y.below P8.out.zr)).2.2.2.1
          have cs2 : ∀ y : After w8, y.val.cell? ⟨Z, 36, none⟩ = some (.slice x.A2 x.L2 x.c2) := fun y => (oe_at (carry y.below P8.out.zr)).2.2.2.2
          simp only [wpFs, pk, List.getElem?_cons_zero, List.getElem?_cons_succ]
          repeat (go_big_quiet_step (fail))
          refine wpQuiet_nil ?_
          clear ci cb2 cs2
          have hb0 := HWF.out.2.1
          go_wp2_with fail
          refine (few_any x.A x.L x.c hb0.1.le hb0.2 w8).mono ?_
          rintro e w8' ⟨rfl, rfl⟩
          have F8 := Lib.hid (show RdS T8 w8 0 x.A (min x.L 200) x.c x.f from (P8.out.pl.arg hb0.1).upto _ (by omega))
          rw [← HNF.out] at F8 ⊢
          clear hb0
          go_wp2_with fail
          refine ⟨.inr (Below.refl _ _), ?_⟩
          show wpQuiet _ _ _ _ _ _
          refine wpQuiet_nil ?_
          have hs0 := HWF.out.2.2
          go_wp2_with fail
          refine (few_any x.A2 x.L2 x.c2 hs0.1.le hs0.2 w8).mono ?_
          rintro e w8' ⟨rfl, rfl⟩
          have G8 := Lib.hid (show RdS T8 w8 0 x.A2 (min x.L2 200) x.c2 x.f2 from (P8.out.pl.arg hs0.1).upto _ (by omega))
          obtain ⟨ns, hns⟩ : ∃ n, n = min x.L2 200 := ⟨_, rfl⟩
          rw [← hns] at G8 ⊢
          have hns2 : ns ≤ 200 := by omega
          have HNS := Lib.hid hns
          clear hs0 hns
          go_wp2_with fail
          refine ⟨.inr (Below.refl _ _), ?_⟩
          show wpQuiet _ _ _ _ _ _
          refine wpQuiet_nil ?_
          go_wp2_with fail
          refine (pen_any B K x.id x.f nf x.c x.A x.f2 ns x.c2 x.A2 w8 P8.out.pl.kp F8.out.sl (P8.out.pl.off F8.out) G8.out.sl (P8.out.pl.off G8.out)).mono ?_
          rintro e w9 ⟨v, rfl, ho, hk9, hc9⟩
          obtain ⟨A10, c10, rfl, -, -, -⟩ := ho.sl
          have R10 := Lib.hid (RdS.own (T := T8) ho (Nat.le_refl _))
          have P9 := Lib.hid (P8.out.prog hk9 hc9)
          obtain ⟨E, hE⟩ : ∃ E, E = enE K x.id nf ns := ⟨_, rfl⟩
          obtain ⟨V, hV⟩ : ∃ E, E = enV K x.id nf ns := ⟨_, rfl⟩
          obtain ⟨L, hL⟩ : ∃ E, E = enL K x.id nf ns := ⟨_, rfl⟩
          have hL64 : L ≤ 1000 := by rw [hL]; exact enL_le _ _ _ _
          rw [← hL] at R10
          rw [← hE, ← hV, ← hL]
          have HE := Lib.hid hE
          have HV := Lib.hid hV
          have HLL := Lib.hid hL
          obtain ⟨T9, hT9⟩ : ∃ T9, T9 = paint T8 w8.heap.size 0 := ⟨_, rfl⟩
          rw [← hT9] at P9 R10
          clear ho hk9 hc9 hE hV hL hT9 P8 F8 G8
          go_wp2_with fail
          refine ⟨.inl trivial, ?_⟩
          show wpQuiet _ _ _ _ _ _
          repeat (go_big_quiet_step (fail))
          refine wpQuiet_nil ?_
          go_wp2_with fail
          refine flow_seen [([0, 1, 2, 3, 4, 6, 7], 5, false), ([], 8, false), ([], 9, true)] [10, 11, 12, 13, 14, 15, 16] (by kernel_rfl) (by kernel_rfl) (fun _ _ _ _ _ h => h) fun X => ?_
          have P10 := Lib.hid (P9.out.new X.below)
          have R11 := Lib.hid (R10.out.new X.below 0)
          obtain ⟨w10, hw10⟩ : ∃ w, w = X.val := ⟨_, rfl⟩
          obtain ⟨T10, hT10⟩ : ∃ t, t = paint T9 w9.heap.size 0 := ⟨_, rfl⟩
          rw [← hw10, ← hT10] at P10 R11
          rw [← hw10]
          clear hw10 hT10 X P9 R10
          have ci : ∀ y : After w10, y.val.cell? ⟨Z, 1, none⟩ = some (.int .i64 x.id) := fun y => (oe_at (carry y.below P10.out.zr)).2.1
          have cb2 : ∀ y : After w10, y.val.cell? ⟨Z, 35, none⟩ = some (.slice x.A x.L x.c) := fun y => (oe_at (carry y.below P10.out.zr)).2.2.2.1
          have cs2 : ∀ y : After w10, y.val.cell? ⟨Z, 36, none⟩ = some (.slice x.A2 x.L2 x.c2) := fun y => (oe_at (carry y.below P10.out.zr)).2.2.2.2
          simp only [wpFs, pk, List.getElem?_cons_zero, List.getElem?_cons_succ]
          repeat (go_big_quiet_step (fail))
          refine wpQuiet_nil ?_
          clear ci cb2 cs2
          have hb0 := HWF.out.2.1
          go_wp2_with fail
          refine (few_any x.A x.L x.c hb0.1.le hb0.2 w10).mono ?_
          rintro e w10' ⟨rfl, rfl⟩
          have F10 := Lib.hid (show RdS T10 w10 0 x.A (min x.L 200) x.c x.f from (P10.out.pl.arg hb0.1).upto _ (by omega))
          rw [← HNF.out] at F10 ⊢
          clear hb0
          go_wp2_with fail
          refine ⟨.inr (Below.refl _ _), ?_⟩
          show wpQuiet _ _ _ _ _ _
          refine wpQuiet_nil ?_
          have hs0 := HWF.out.2.2
          go_wp2_with fail
          refine (few_any x.A2 x.L2 x.c2 hs0.1.le hs0.2 w10).mono ?_
          rintro e w10' ⟨rfl, rfl⟩
          have G10 := Lib.hid (show RdS T10 w10 0 x.A2 (min x.L2 200) x.c2 x.f2 from (P10.out.pl.arg hs0.1).upto _ (by omega))
          rw [← HNS.out] at G10 ⊢
          clear hs0
          go_wp2_with fail
          refine ⟨.inr (Below.refl _ _), ?_⟩
          show wpQuiet _ _ _ _ _ _
          refine wpQuiet_nil ?_
          go_wp2_with fail
          refine (ren_any T10 30 B' K x.id x.f nf x.c x.A x.f2 ns x.c2 x.A2 w10 P10.out.pl.kr (by omega) F10.out G10.out).mono ?_
          rintro e w11 ⟨v, rfl, ho, T11, hk11, hf11⟩
          obtain ⟨A11, c11, rfl, h11, -, -⟩ := ho.sl
          have P11 := Lib.hid (P10.out.ref hk11 hf11)
          have R12 := Lib.hid (R11.out.ref hf11)
          rw [← HLL.out] at h11
          rw [← HE.out, ← HV.out, ← HLL.out]
          have S11 := Lib.hid h11
          clear ho hk11 hf11 h11 P10 R11 F10 G10
          go_wp2_with fail
          refine ⟨.inl trivial, ?_⟩
          show wpQuiet _ _ _ _ _ _
          repeat (go_big_quiet_step (fail))
          refine wpQuiet_nil ?_
          go_wp2_with fail
          go_meet
          exact ⟨_, _, L, _, _, _, _, _, V, E, rfl, rfl, rfl, rfl, rfl, rfl, R12.out, S11.out, hL64, P11.out.pl⟩
        · as_aux_lemma => -- Encrypt
          clear c7i c7n
          go_wp2_with fail
          clear r7
          refine flow_seen [([0, 1, 2, 3, 4, 6, 7], 5, false), ([], 8, false), ([], 9, true)] [10, 11, 12, 13, 14, 15, 16] (by kernel_rfl) (by kernel_rfl) (fun _ _ _ _ _ h => h) fun X => ?_
          have P8 := Lib.hid (P7.out.new X.below)
          obtain ⟨w8, hw8⟩ : ∃ w, w = X.val := ⟨_, rfl⟩
          obtain ⟨T8, hT8⟩ : ∃ t, t = paint T7 w7.heap.size 0 := ⟨_, rfl⟩
          rw [← hw8, ← hT8] at P8
          rw [← hw8]
          clear hw8 hT8 X P7 R7 HR7
          have ci : ∀ y : After w8, y.val.cell? ⟨Z, 1, none⟩ = some (.int .i64 x.id) := fun y => (oe_at (carry y.below P8.out.zr)).2.1
          have cb2 : ∀ y : After w8, y.val.cell? ⟨Z, 35, none⟩ = some (.slice x.A x.L x.c) := fun y => (oe_at (carry y.below P8.out.zr)).2.2.2.1
          have cs2 : ∀ y : After w8, y.val.cell? ⟨Z, 36, none⟩ = some (.slice x.A2 x.L2 x.c2) := fun y => (oe_at (carry y.below P8.out.zr)).2.2.2.2
          simp only [wpFs, pk, List.getElem?_cons_zero, List.getElem?_cons_succ]
          repeat (go_big_quiet_step (fail))
          refine wpQuiet_nil ?_
          clear ci cb2 cs2
          have hb0 := HWF.out.2.1
          go_wp2_with fail
          refine (few_any x.A x.L x.c hb0.1.le hb0.2 w8).mono ?_
          rintro e w8' ⟨rfl, rfl⟩
          have F8 := Lib.hid (show RdS T8 w8 0 x.A (min x.L 200) x.c x.f from (P8.out.pl.arg hb0.1).upto _ (by omega))
          rw [← HNF.out] at F8 ⊢
          clear hb0
          go_wp2_with fail
          refine ⟨.inr (Below.refl _ _), ?_⟩
          show wpQuiet _ _ _ _ _ _
          refine wpQuiet_nil ?_
          have hs0 := HWF.out.2.2
          go_wp2_with fail
          refine (few_any x.A2 x.L2 x.c2 hs0.1.le hs0.2 w8).mono ?_
          rintro e w8' ⟨rfl, rfl⟩
          have G8 := Lib.hid (show RdS T8 w8 0 x.A2 (min x.L2 200) x.c2 x.f2 from (P8.out.pl.arg hs0.1).upto _ (by omega))
          obtain ⟨ns, hns⟩ : ∃ n, n = min x.L2 200 := ⟨_, rfl⟩
          rw [← hns] at G8 ⊢
          have hns2 : ns ≤ 200 := by omega
          have HNS := Lib.hid hns
          clear hs0 hns
          go_wp2_with fail
          refine ⟨.inr (Below.refl _ _), ?_⟩
          show wpQuiet _ _ _ _ _ _
          refine wpQuiet_nil ?_
          go_wp2_with fail
          refine (pen_any B K x.id x.f nf x.c x.A x.f2 ns x.c2 x.A2 w8 P8.out.pl.kp F8.out.sl (P8.out.pl.off F8.out) G8.out.sl (P8.out.pl.off G8.out)).mono ?_
          rintro e w9 ⟨v, rfl, ho, hk9, hc9⟩
          obtain ⟨A10, c10, rfl, -, -, -⟩ := ho.sl
          have R10 := Lib.hid (RdS.own (T := T8) ho (Nat.le_refl _))
          have P9 := Lib.hid (P8.out.prog hk9 hc9)
          obtain ⟨E, hE⟩ : ∃ E, E = enE K x.id nf ns := ⟨_, rfl⟩
          obtain ⟨V, hV⟩ : ∃ E, E = enV K x.id nf ns := ⟨_, rfl⟩
          obtain ⟨L, hL⟩ : ∃ E, E = enL K x.id nf ns := ⟨_, rfl⟩
          have hL64 : L ≤ 1000 := by rw [hL]; exact enL_le _ _ _ _
          rw [← hL] at R10
          rw [← hE, ← hV, ← hL]
          have HE := Lib.hid hE
          have HV := Lib.hid hV
          have HLL := Lib.hid hL
          obtain ⟨T9, hT9⟩ : ∃ T9, T9 = paint T8 w8.heap.size 0 := ⟨_, rfl⟩
          rw [← hT9] at P9 R10
          clear ho hk9 hc9 hE hV hL hT9 P8 F8 G8
          go_wp2_with fail
          refine ⟨.inl trivial, ?_⟩
          show wpQuiet _ _ _ _ _ _
          repeat (go_big_quiet_step (fail))
          refine wpQuiet_nil ?_
          go_wp2_with fail
          refine flow_seen [([0, 1, 2, 3, 4, 6, 7], 5, false), ([], 8, false), ([], 9, true)] [10, 11, 12, 13, 14, 15, 16] (by kernel_rfl) (by kernel_rfl) (fun _ _ _ _ _ h => h) fun X => ?_
          have P10 := Lib.hid (P9.out.new X.below)
          have R11 := Lib.hid (R10.out.new X.below 0)
          obtain ⟨w10, hw10⟩ : ∃ w, w = X.val := ⟨_, rfl⟩
          obtain ⟨T10, hT10⟩ : ∃ t, t = paint T9 w9.heap.size 0 := ⟨_, rfl⟩
          rw [← hw10, ← hT10] at P10 R11
          rw [← hw10]
          clear hw10 hT10 X P9 R10
          have ci : ∀ y : After w10, y.val.cell? ⟨Z, 1, none⟩ = some (.int .i64 x.id) := fun y => (oe_at (carry y.below P10.out.zr)).2.1
          have cb2 : ∀ y : After w10, y.val.cell? ⟨Z, 35, none⟩ = some (.slice x.A x.L x.c) := fun y => (oe_at (carry y.below P10.out.zr)).2.2.2.1
          have cs2 : ∀ y : After w10, y.val.cell? ⟨Z, 36, none⟩ = some (.slice x.A2 x.L2 x.c2) := fun y => (oe_at (carry y.below P10.out.zr)).2.2.2.2
          simp only [wpFs, pk, List.getElem?_cons_zero, List.getElem?_cons_succ]
          repeat (go_big_quiet_step (fail))
          refine wpQuiet_nil ?_
          clear ci cb2 cs2
          have hb0 := HWF.out.2.1
          go_wp2_with fail
          refine (few_any x.A x.L x.c hb0.1.le hb0.2 w10).mono ?_
          rintro e w10' ⟨rfl, rfl⟩
          have F10 := Lib.hid (show RdS T10 w10 0 x.A (min x.L 200) x.c x.f from (P10.out.pl.arg hb0.1).upto _ (by omega))
          rw [← HNF.out] at F10 ⊢
          clear hb0
          go_wp2_with fail
          refine ⟨.inr (Below.refl _ _), ?_⟩
          show wpQuiet _ _ _ _ _ _
          refine wpQuiet_nil ?_
          have hs0 := HWF.out.2.2
          go_wp2_with fail
          refine (few_any x.A2 x.L2 x.c2 hs0.1.le hs0.2 w10).mono ?_
          rintro e w10' ⟨rfl, rfl⟩
          have G10 := Lib.hid (show RdS T10 w10 0 x.A2 (min x.L2 200) x.c2 x.f2 from (P10.out.pl.arg hs0.1).upto _ (by omega))
          rw [← HNS.out] at G10 ⊢
          clear hs0
          go_wp2_with fail
          refine ⟨.inr (Below.refl _ _), ?_⟩
          show wpQuiet _ _ _ _ _ _
          refine wpQuiet_nil ?_
          go_wp2_with fail
          refine (ren_any T10 30 B' K x.id x.f nf x.c x.A x.f2 ns x.c2 x.A2 w10 P10.out.pl.kr (by omega) F10.out G10.out).mono ?_
          rintro e w11 ⟨v, rfl, ho, T11, hk11, hf11⟩
          obtain ⟨A11, c11, rfl, h11, -, -⟩ := ho.sl
          have P11 := Lib.hid (P10.out.ref hk11 hf11)
          have R12 := Lib.hid (R11.out.ref hf11)
          rw [← HLL.out] at h11
          rw [← HE.out, ← HV.out, ← HLL.out]
          have S11 := Lib.hid h11
          clear ho hk11 hf11 h11 P10 R11 F10 G10
          go_wp2_with fail
          refine ⟨.inl trivial, ?_⟩
          show wpQuiet _ _ _ _ _ _
          repeat (go_big_quiet_step (fail))
          refine wpQuiet_nil ?_
          go_wp2_with fail
          go_meet
          exact ⟨_, _, L, _, _, _, _, _, V, E, rfl, rfl, rfl, rfl, rfl, rfl, R12.out, S11.out, hL64, P11.out.pl⟩
        · as_aux_lemma => -- Decrypt
          clear c7i c7n
          obtain ⟨-, -, -, -, c7s⟩ := oe_at r7
          go_wp2_with fail
          clear r7 c7s
          have hs0 := HWF.out.2.2
          refine (few_any x.A2 x.L2 x.c2 hs0.1.le hs0.2 w7).mono ?_
          rintro e w7' ⟨rfl, rfl⟩
          have G7 := Lib.hid (show RdS T7 w7 0 x.A2 (min x.L2 200) x.c2 x.f2 from (P7.out.pl.arg hs0.1).upto _ (by omega))
          obtain ⟨ns, hns⟩ : ∃ n, n = min x.L2 200 := ⟨_, rfl⟩
          rw [← hns] at G7 ⊢
          have hns2 : ns ≤ 200 := by omega
          have HNS := Lib.hid hns
          clear hs0 hns
          go_wp2_with fail
          refine (pdc_any B K f9 n9 c9 A9 x.f2 ns x.c2 x.A2 w7 P7.out.pl.kp R7.out.sl (by omega) G7.out.sl).mono ?_
          rintro e w8 ⟨v, rfl, ho, hb8⟩
          obtain ⟨A10, c10, rfl, -, -, -⟩ := ho.sl
          have R10 := Lib.hid (RdS.own (T := T7) ho (Nat.le_refl _))
          have P8 := Lib.hid (P7.out.new hb8)
          have R8 := Lib.hid (R7.out.new hb8 0)
          have G8 := Lib.hid (G7.out.new hb8 0)
          obtain ⟨E, hE⟩ : ∃ E, E = dcE K n9 f9 x.f2 ns := ⟨_, rfl⟩
          obtain ⟨L, hL⟩ : ∃ E, E = dcL K n9 f9 x.f2 ns := ⟨_, rfl⟩
          have hL64 : L ≤ 1000 := by rw [hL]; have := dcL_le (K := K) (n := n9) (f := f9) (s := x.f2) (S := ns); omega
          rw [← hL] at R10
          rw [← hE, ← hL]
          have HE := Lib.hid hE
          have HLL := Lib.hid hL
          obtain ⟨T8, hT8⟩ : ∃ T8, T8 = paint T7 w7.heap.size 0 := ⟨_, rfl⟩
          rw [← hT8] at P8 R8 G8 R10
          obtain ⟨-, -, -, -, c8s⟩ := oe_at P8.out.zr
          clear ho hb8 hE hL hT8 P7 R7 G7
          go_wp2_with fail
          clear c8s
          have hs0 := HWF.out.2.2
          refine (few_any x.A2 x.L2 x.c2 hs0.1.le hs0.2 w8).mono ?_
          rintro e w8' ⟨rfl, rfl⟩
          rw [← HNS.out]
          clear hs0
          go_wp2_with fail
          refine (rdc_any T8 30 B' K f9 n9 c9 A9 x.f2 ns x.c2 x.A2 w8 P8.out.pl.kr R8.out.sl (by omega) G8.out.sl).mono ?_
          rintro e w9 ⟨v, rfl, ho, hb9⟩
          obtain ⟨A11, c11, rfl, h11, -, -⟩ := ho.sl
          have P9 := Lib.hid (P8.out.new hb9)
          have R11 := Lib.hid (R10.out.new hb9 0)
          rw [← HLL.out] at h11
          rw [← HE.out, ← HLL.out]
          have S11 := Lib.hid h11
          clear ho hb9 h11 P8 R8 G8 R10
          go_wp2_with fail
          go_meet
          exact ⟨_, K, L, _, _, _, _, _, 0, E, rfl, rfl, rfl, rfl, rfl, rfl, R11.out, S11.out, hL64, P9.out.pl⟩
        · as_aux_lemma => -- Rewrap
          clear c7i c7n
          obtain ⟨-, -, -, -, c7s⟩ := oe_at r7
          go_wp2_with fail
          clear r7 c7s
          have hs0 := HWF.out.2.2
          refine (few_any x.A2 x.L2 x.c2 hs0.1.le hs0.2 w7).mono ?_
          rintro e w7' ⟨rfl, rfl⟩
          have G7 := Lib.hid (show RdS T7 w7 0 x.A2 (min x.L2 200) x.c2 x.f2 from (P7.out.pl.arg hs0.1).upto _ (by omega))
          obtain ⟨ns, hns⟩ : ∃ n, n = min x.L2 200 := ⟨_, rfl⟩
          rw [← hns] at G7 ⊢
          have hns2 : ns ≤ 200 := by omega
          have HNS := Lib.hid hns
          clear hs0 hns
          go_wp2_with fail
          refine (prw_any B K f9 n9 c9 A9 x.f2 ns x.c2 x.A2 w7 P7.out.pl.kp R7.out.sl (by omega) G7.out.sl (P7.out.pl.off G7.out)).mono ?_
          rintro e w8 ⟨v, rfl, ho, hk8, hc8⟩
          obtain ⟨A10, c10, rfl, -, -, -⟩ := ho.sl
          have R10 := Lib.hid (RdS.own (T := T7) ho (Nat.le_refl _))
          have P8 := Lib.hid (P7.out.prog hk8 hc8)
          have R8 := Lib.hid (R7.out.prog P7.out.pl hc8)
          have G8 := Lib.hid (G7.out.prog P7.out.pl hc8)
          obtain ⟨E, hE⟩ : ∃ E, E = rwE K n9 f9 x.f2 ns := ⟨_, rfl⟩
          obtain ⟨V, hV⟩ : ∃ E, E = rwV K n9 f9 x.f2 ns := ⟨_, rfl⟩
          obtain ⟨L, hL⟩ : ∃ E, E = rwL K n9 f9 x.f2 ns := ⟨_, rfl⟩
          have hL64 : L ≤ 1000 := by rw [hL]; exact rwL_le _ _ _ _ _
          rw [← hL] at R10
          rw [← hE, ← hV, ← hL]
          have HE := Lib.hid hE
          have HV := Lib.hid hV
          have HLL := Lib.hid hL
          obtain ⟨T8, hT8⟩ : ∃ T8, T8 = paint T7 w7.heap.size 0 := ⟨_, rfl⟩
          rw [← hT8] at P8 R8 G8 R10
          obtain ⟨-, -, -, -, c8s⟩ := oe_at P8.out.zr
          clear ho hk8 hc8 hE hV hL hT8 P7 R7 G7
          go_wp2_with fail
          clear c8s
          have hs0 := HWF.out.2.2
          refine (few_any x.A2 x.L2 x.c2 hs0.1.le hs0.2 w8).mono ?_
          rintro e w8' ⟨rfl, rfl⟩
          rw [← HNS.out]
          clear hs0
          go_wp2_with fail
          refine (rrw_any T8 30 B' K f9 n9 c9 A9 x.f2 ns x.c2 x.A2 w8 P8.out.pl.kr (by omega) R8.out (by omega) G8.out).mono ?_
          rintro e w9 ⟨v, rfl, ho, T9, hk9, hf9⟩
          obtain ⟨A11, c11, rfl, h11, -, -⟩ := ho.sl
          have P9 := Lib.hid (P8.out.ref hk9 hf9)
          have R11 := Lib.hid (R10.out.ref hf9)
          rw [← HLL.out] at h11
          rw [← HE.out, ← HV.out, ← HLL.out]
          have S11 := Lib.hid h11
          clear ho hk9 hf9 h11 P8 R8 G8 R10
          go_wp2_with fail
          go_meet
          exact ⟨_, _, L, _, _, _, _, _, V, E, rfl, rfl, rfl, rfl, rfl, rfl, R11.out, S11.out, hL64, P9.out.pl⟩
      -- BEHIND
      as_aux_lemma =>
      obtain ⟨T8, K8, L, f, A, c, A', c', V, E, rfl, rfl, rfl, rfl, rfl, rfl, hrd, hsl, hL64, hpl⟩ := hcut
      obtain ⟨w8, rfl⟩ : ∃ w : World, w = wc := ⟨_, rfl⟩
      have P8 := Lib.hid hpl
      have R8 := Lib.hid hrd
      have S8 := Lib.hid hsl
      clear hpl hrd hsl P7 R7 hcase
      go_wp2_with fail
      refine flow_seen [([0, 2, 3, 4, 5], 1, false), ([], 6, false)] [7] (by kernel_rfl) (by kernel_rfl) (fun _ _ _ _ _ h => h) fun X => ?_
      have P9 := Lib.hid (P8.out.new X.below)
      have R9 := Lib.hid (R8.out.new X.below 0)
      have S9 := Lib.hid ((S8.out.below X.below).more X.below.size)
      obtain ⟨w9, hw9⟩ : ∃ w, w = X.val := ⟨_, rfl⟩
      obtain ⟨T9, hT9⟩ : ∃ t, t = paint T8 w8.heap.size 0 := ⟨_, rfl⟩
      rw [← hw9, ← hT9] at P9 R9
      rw [← hw9] at S9 ⊢
      clear hw9 hT9 X P8 R8 S8
      obtain ⟨A6, c6, -, hr6, hrs6⟩ := P9.out.kr.open_
      have hok6 := P9.out.kp.ok
      have HOK := Lib.hid hok6
      have RR := Lib.hid hrs6.rd
      obtain ⟨v6, hv6⟩ : ∃ v, v = Value.slice A6 K8.length c6 := ⟨_, rfl⟩
      have hc1 : v6.oneCell' = true := by rw [hv6]; rfl
      rw [← hv6] at hr6 RR
      have HV6 := Lib.hid hv6
      clear hv6
      have k0 : ∀ y : After w9, y.val.cell? ⟨B', 0, none⟩ = some v6 := fun y => by rw [cell_row (carry y.below hr6)]; rfl
      clear hr6 hrs6 hok6 
      simp only [wpFs, pk, List.getElem?_cons_zero, List.getElem?_cons_succ]
      repeat (go_big_quiet_step (fail))
      refine wpQuiet_nil ?_
      clear k0
      go_wp2_with fail
      refine (prs_any T9 1 50 B K8 w9 (P9.out.kp.mk' P9.out.tb) (fun k hk e => by have := e.1; have := P9.out.bd k; omega)).mono ?_
      rintro e w10 ⟨v5, T', rfl, r7, f7⟩
      obtain ⟨A5, c5, rfl, -⟩ := r7.form
      have HS := Lib.hid (rsame_any K8 _ _ w10 r7.rd (RR.out.below f7.below) (by have := HOK.out.1; omega) (fun r hr => by have := (HOK.out.2 r hr).1.2; omega))
      have P10 := Lib.hid (P9.out.new f7.below)
      have R10 := Lib.hid (R9.out.new f7.below 0)
      have S10 := Lib.hid ((S9.out.below f7.below).more f7.below.size)
      obtain ⟨T10, hT10⟩ : ∃ t, t = paint T9 w9.heap.size 0 := ⟨_, rfl⟩
      rw [← hT10] at P10 R10
      have hb10 := f7.below
      clear hT10 r7 f7 P9 R9 S9 RR HOK
      go_wp2_with fail
      refine ⟨.inr hb10, ?_⟩
      clear hb10
      show wpQuiet _ _ _ _ _ _
      refine wpQuiet_nil ?_
      go_wp2_with fail
      refine HS.out.mono ?_
      rintro e w11 ⟨rfl, hb11⟩
      have P11 := Lib.hid (P10.out.new hb11)
      have R11 := Lib.hid (R10.out.new hb11 0)
      have S11 := Lib.hid ((S10.out.below hb11).more hb11.size)
      obtain ⟨T11, hT11⟩ : ∃ t, t = paint T10 w10.heap.size 0 := ⟨_, rfl⟩
      rw [← hT11] at P11 R11
      clear hT11 P10 R10 S10 HS
      go_wp2_with fail
      refine ⟨.inr hb11, ?_⟩
      clear hb11
      show wpQuiet _ _ _ _ _ _
      repeat (go_big_quiet_step (fail))
      refine wpQuiet_nil ?_
      obtain ⟨ST, hST⟩ : ∃ S, S = Oct.strOf L f := ⟨_, rfl⟩
      have cv1 := run_str (P := Tryz.prog) sli_u u8_u str_u R11.out.sl
      have cv2 := run_str (P := Tryz.prog) sli_u u8_u str_u S11.out
      rw [← hST] at cv1 cv2
      clear hST S11
      by_cases hap : E = 0 ∧ 0 < V
      · obtain ⟨rfl, hV⟩ := hap
        have hV1 : decide (0 < V) = true := by simpa using hV
        obtain ⟨w12, hw12⟩ : ∃ w, w = w11.alloc (.cells #[.slice A L c] 33) := ⟨_, rfl⟩
        have b12 : Below w11.heap.size w11 w12 := by rw [hw12]; exact (Below.refl _ _).alloc (Nat.le_refl _) _
        have r12 : row w12 w11.heap.size = some #[.slice A L c] := by rw [hw12]; exact row_alloc_at _ _ _ _ rfl
        have P12 := Lib.hid (P11.out.new b12)
        have X12 := Lib.hid (show BlE (paint T11 w11.heap.size 0) w12 (.slice A L c) from ⟨A, L, c, f, rfl, R11.out.new b12 0, hL64⟩)
        have Q12 := Lib.hid r12
        have HXS := Lib.hid (show xs.length ≤ 1000 by have := HNB.out; omega)
        rw [hw12] at P12 X12 Q12
        clear b12 r12 hw12 P11 R11
        go_wp2_with (at_builtin; refine wpl_appRow rfl (.tmp 222) (.tmp 224) rfl slz_u sli_info rfl (by decide) (by decide) P12.out.bl.own (vs := [.slice A L c]) Q12.out rfl (fun v hv => by rw [List.mem_singleton.1 hv]; rfl) (by have := HXS.out; omega) rfl rfl ?_; intro v13 w13 ho13 hg13 ht13)
        have P13 := Lib.hid (P12.out.app X12.out ho13 hg13 ht13)
        clear ho13 hg13 ht13 P12 X12 Q12 cv1 cv2
        go_wp2_with fail
        go_roundw
        case rel => exact ⟨j + 1, _, K8, _, by omega, by omega, by rw [List.length_append]; have := HNB.out; simp; omega, by go_num, P13.out⟩
        case measure => simp [intOf]; omega
      · have hV1 : E ≠ 0 ∨ ¬ 0 < V := by by_cases h : E = 0; exact .inr (fun h2 => hap ⟨h, h2⟩); exact .inl h
        clear hap
        by_cases hE : E = 0
        · subst hE
          have hV2 : decide (0 < V) = false := by
            rw [decide_eq_false_iff_not]
            exact hV1.resolve_left (fun h => h rfl)
          clear hV1
          go_wp2_with fail
          go_roundw
          case rel => exact ⟨j + 1, _, K8, xs, by omega, by omega, by have := HNB.out; omega, by go_num, P11.out⟩
          case measure => simp [intOf]; omega
        · have hE1 : (E == 0) = false := by simpa using hE
          have hE2 : decide (E = 0) = false := by simpa using hE
          clear hV1
          go_wp2_with fail
          go_roundw
          case rel => exact ⟨j + 1, _, K8, xs, by omega, by omega, by have := HNB.out; omega, by go_num, P11.out⟩
          case measure => simp [intOf]; omega
    · by_cases hl1 : j < n0
      · have hd1 : decide ((j : Int) < (n0 : Int)) = true := by simp; omega
        have hd2 : decide ((j : Int) < 25) = false := by simp; omega
        rw [← hnb]
        clear hnb
        go_wp2_with fail
        go_ret
        exact ⟨rfl, PI.out.bel⟩
      · have hd1 : decide ((j : Int) < (n0 : Int)) = false := by simp; omega
        rw [← hnb]
        clear hnb
        go_wp2_with fail
        go_ret
        exact ⟨rfl, PI.out.bel⟩

set_option maxRecDepth 100000 in
theorem lifted (os : Os) (started : os.Started) (H : Type) (enc : TypeId × Value → H) :
    ReturnsInHanded {} Tryz.checked os 3 .any (Rows.envelopePlaysSpec.pre6 enc Tryz.prog Tryz.f3 Rows.envelopePlaysRow.domain false) (Rows.envelopePlaysSpec.post enc Tryz.prog Tryz.f3 false true false false) := by
  refine returnsInHanded_of_change (C := Tryz.checked) own started (by kernel_rfl) Tryz.func3
    (ChangeSpec.witness6 (enc := enc) (C := Tryz.checked) false ⟨#[], #[.slice none 0 0], []⟩ 8 (by kernel_rfl) (by kernel_rfl) (by kernel_rfl) (by kernel_rfl)) ?_
  intro W base args ds gs before hval0 hW hcnd _
  have hval : ∀ (j : Nat) t v, Tryz.f3.params[j]? = some t → args[j]? = some v → Value.okWide Tryz.prog W .any base t v := hval0
  have hW' := hW
  obtain ⟨p, q, hA0, hV, rfl, hfz, hnd⟩ := hW
  have hA : DataW.TrodAll enc Tryz.prog W 0 (fun _ => true) true Tryz.f3.params.toList args.toList ds p := hA0
  rw [Tryz.params3] at hA hval
  obtain ⟨v0, vs0, d0, ds0, p0, q0, hargs, rfl, rfl, h0, r0⟩ := trodAll_cons hA
  obtain ⟨rfl, rfl, rfl⟩ := trodAll_nil r0
  obtain rfl : args = #[v0] := by cases args; simp_all
  obtain ⟨rfl, rfl⟩ := trodVars_none hV
  have k0 := h0
  have lt0 : ∀ x ∈ p0, x.block < W.heap.size := by obtain ⟨m, hm⟩ := k0; exact DataW.trod_lt m _ _ _ hm
  obtain ⟨l0, hl0⟩ := open_opsE (hval 0 22 v0 rfl rfl) h0
  clear hA0 hval0
  refine (walk v0 l0 W hl0).mono fun e W' ⟨he, bel⟩ => ?_
  subst he
  exact ⟨_, rfl, _, _, _, [], _, [], hW', trodAll_mk1 (shut_bool Tryz.underlying4 _), (trodAll_cons_mk (Below.trod laidOut (by kernel_rfl) (of_decide_eq_true (by kernel_rfl)) k0 bel lt0) trodAll_mk0), rfl, bel.frame _, fun h => by cases h⟩

theorem over : Rows.envelopePlaysRow.holds Tryz.pinned (OpenSpec.ofChange Rows.envelopePlaysSpec) :=
  OpenClaim.holds_of_wide 3 Tryz.f3 rfl rfl rfl rfl rfl rfl rfl ⟨rfl, rfl, rfl, rfl, rfl⟩ rfl rfl rfl rfl rfl (by kernel_rfl) Tryz.func3 (by kernel_rfl)
    (of_decide_eq_true (by kernel_rfl)) (by unfold Func.isWrapper; first | (rw [if_pos (by decide +kernel)]; kernel_rfl) | (rw [if_neg (by decide +kernel)]; exact ⟨rfl, rfl⟩))
    (fun os started H enc _ => lifted os started H enc)

theorem proved : Rows.EnvelopePlaysSaid := over
#print axioms proved
end Go.Proofs.YtamemjldafoolaaGreat.envelopePlays
