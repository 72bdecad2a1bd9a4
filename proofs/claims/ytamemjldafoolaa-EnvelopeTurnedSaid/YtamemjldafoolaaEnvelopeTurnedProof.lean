/- The statement EnvelopeTurned: the law strongroomlaw14.EnvelopeTurned answers true for every input, and leaves its arguments as they were. No further condition. -/
import Derived.Test.YtamemjldafoolaaRows
import Derived.Test.YtamemjldafoolaaLib
import Derived.Test.YtamemjldafoolaaEvKi
import Derived.Test.YtamemjldafoolaaOpTwo
namespace Go.Proofs.Ytamemjldafoolaa.envelopeTurned
open Go.ChangeShapes Go.WideShapes Go.ChangeAt Go.RowKit
open Go.Proofs.Ytamemjldafoolaa.Oct
set_option linter.unusedVariables false

theorem own : ownKnob Try.prog.godebug = none := by kernel_rfl
theorem laidOut : laidOutB Try.prog = true := by kernel_rfl

set_option maxRecDepth 20000 in
set_option maxHeartbeats 4000000 in
theorem walk (a0 : Nat → BitVec 8) (a1 : Nat → BitVec 8) (n1 c1 : Nat) (A1 : Option Addr) (a2 : Int) (w : World) (hs1 : Sl w w.heap.size A1 n1 c1 a1) (hm1 : c1 ≤ maxLen) (w2 : (Lit.int .i64 a2).wf = true) :
    Calls Try.prog 6 #[.agg (ba 32 a0), .slice A1 n1 c1, .int .i64 a2] w fun e w' => e = .returned (.bool true) ∧ Below w.heap.size w w' := by
  have HS1 := Lib.hid hs1
  have HW2 := Lib.hid (wf_bd2 w2)
  obtain ⟨w0, hw0⟩ : ∃ w0, w0 = w.alloc (.cells (ba 32 a0) 39) := ⟨_, rfl⟩
  have B0 := Lib.hid (show Below w.heap.size w w0 by rw [hw0]; exact (Below.refl w.heap.size w).alloc (by simp) _)
  have q0 : row w0 w.heap.size = some (ba 32 a0) := by rw [hw0]; exact row_alloc_at _ _ _ _ rfl
  obtain ⟨H, hH⟩ : ∃ H, H = w.heap.size := ⟨_, rfl⟩
  have HH := Lib.hid hH
  rw [← hH] at q0
  have Q0 := Lib.hid q0
  clear hs1 hH q0
  go_enter Try.func6, Try.ntmps6
  go_wp2_with fail
  rw [← hw0, ← HH.out]
  clear hw0
  refine (shown_any w0).mono ?_
  rintro e w1 ⟨rfl, hb1⟩
  have B1 := Lib.hid (onto B0.out B0.out.size hb1)
  have Q1 := Lib.hid (carry hb1 Q0.out)
  clear hb1 Q0 B0
  go_wp2_with fail
  refine (wnew_any w1).mono ?_
  rintro e x2 ⟨B, rfl, hk2, hB, hb2⟩
  have HBH := Lib.hid (show H ≠ B by have := row_lt Q1.out; omega)
  have HBw := Lib.hid (show w.heap.size ≤ B by have := B1.out.size; omega)
  have K2 := Lib.hid hk2
  have B2 := Lib.hid (onto B1.out B1.out.size hb2)
  have Q2 := Lib.hid (carry hb2 Q1.out)
  clear hk2 hB hb2 Q1 B1
  by_cases hlong : 64 < n1
  · have hd : decide ((64 : Int) < (n1 : Int)) = true := by simp; omega
    clear hlong
    go_wp2_with fail
    go_ret
    exact ⟨rfl, B2.out⟩
  · have hd : decide ((64 : Int) < (n1 : Int)) = false := by simp; omega
    have hn64 : n1 ≤ 64 := by omega
    clear hlong
    have r2 := Q2.out
    go_wp2_with fail
    clear r2
    refine (wcr_any B [] a0 x2 K2.out).mono ?_
    rintro e w3 ⟨rfl, hk3, hc3⟩
    obtain ⟨c1', c2', c3'⟩ := cr1 a0
    rw [c1'] at hk3
    rw [c2', c3']
    have K3 := Lib.hid hk3
    have B3 := Lib.hid (hc3.on B2.out HBw.out (Nat.le_refl _))
    clear hk3 hc3 c1' c2' c3' K2 B2 Q2
    go_wp2_with fail
    have T3 := Lib.hid ((HS1.out.below B3.out).more B3.out.size)
    have HO1 := Lib.hid (HS1.out.off HBw.out)
    -- encrypted
    refine (pen_any B (ks1 a0 0) 1 a1 n1 c1 A1 nF 0 0 none w3 K3.out T3.out HO1.out (Sl.nothing _ _ _ _ _) Off.nil).mono ?_
    obtain ⟨e1, e2, e3, e4, e5⟩ := en1 a0 0 n1 0 (by omega) hn64 (by omega)
    rintro e w4 ⟨v, rfl, ho, hk4, hc4⟩
    rw [e1, e2]
    rw [e3] at hk4
    rw [e4, e5] at ho
    obtain ⟨A4, c4, rfl, h4, -, -⟩ := ho.sl
    obtain ⟨S, hS⟩ : ∃ F, F = sealF a0 (nonC 0) nF 0 a1 n1 := ⟨_, rfl⟩
    obtain ⟨F, hF⟩ : ∃ F, F = blF 1 1 (nonC 0) S := ⟨_, rfl⟩
    obtain ⟨X, hX⟩ : ∃ F, F = blL 1 1 (n1 + 16) := ⟨_, rfl⟩
    have hXb : X ≤ 1000 := by rw [hX]; unfold blL; have := hdL_le 1 1; omega
    rw [← hS, ← hX, ← hF] at h4
    rw [← hX]
    have S4 := Lib.hid h4
    have K4 := Lib.hid hk4
    have B4 := Lib.hid (hc4.on B3.out HBw.out (Nat.le_refl _))
    have HS := Lib.hid hS
    have HF := Lib.hid hF
    have HX := Lib.hid hX
    clear e1 e2 e3 e4 e5 ho h4 hk4 hc4 hF hX hS K3 B3 T3
    go_wp2_with fail
    -- taken apart
    refine (prd_any X c4 A4 F w4 S4.out (by omega)).mono ?_
    rintro e w5 ⟨A5, c5, rfl, h5, -, hb5⟩
    obtain ⟨f0, f1, f2, f3, f4, f5⟩ := bl_ok (i := 1) (v := 1) (L := n1 + 16) (n := nonC 0) (b := S) (by omega) (by omega) (by omega) (by omega) (by omega) (by omega)
    have f6 := rdE_ok f0
    rw [← HX.out, ← HF.out] at f1 f2 f3 f4 f6
    rw [← HF.out] at f5
    rw [f3, f5] at h5
    rw [f1, f2, f3, f6]
    obtain ⟨M, hM⟩ : ∃ M, M = n1 + 16 := ⟨_, rfl⟩
    rw [← hM] at h5 ⊢
    have HM := Lib.hid hM
    obtain ⟨rn, hrn⟩ : ∃ z, z = rdN X F := ⟨_, rfl⟩
    rw [← hrn] at f4
    rw [← hrn]
    have F4 := Lib.hid f4
    have b6 := hb5.alloc hb5.size (.cells (ba 12 rn) 24)
    have b56 := (Below.refl w5.heap.size w5).alloc (Nat.le_refl _) (.cells (ba 12 rn) 24)
    have r6 : row (w5.alloc (.cells (ba 12 rn) 24)) w5.heap.size = some (ba 12 rn) := row_alloc_at _ _ _ _ rfl
    have S6 := Lib.hid ((h5.below b56).more b56.size)
    have K6 := Lib.hid (K4.out.below b6)
    have B6 := Lib.hid (onto B4.out B4.out.size b6)
    obtain ⟨D, hD⟩ : ∃ D, D = w5.heap.size := ⟨_, rfl⟩
    rw [← hD] at r6
    have HD := Lib.hid hD
    have hadd : (n1 : Int) + 16 = (M : Int) := by omega
    have hMb : M ≤ 80 := by omega
    clear hM f0 f1 f2 f3 f4 f5 f6 hrn h5 hb5 b6 b56 K4 B4 S4 HX HF hD
    obtain ⟨w6, hw6⟩ : ∃ w6, w6 = w5.alloc (.cells (ba 12 rn) 24) := ⟨_, rfl⟩
    rw [← hw6] at r6 S6 K6 B6
    have HW6 := Lib.hid hw6
    clear hw6
    go_wp2_with fail
    rw [← HD.out, ← HW6.out]
    clear HD HW6 hadd
    refine (kindE_any a2 128 HW2.out (by omega) w6).mono ?_
    rintro e w6' ⟨rfl, rfl⟩
    obtain ⟨xn, hxn⟩ : ∃ x : Nat, kdE a2 128 = (x : Int) := ⟨(kdE a2 128).toNat, by have := (kdE_nn a2 128 (by omega)).1; omega⟩
    have hx128 : xn < 128 := by have := (kdE_nn a2 128 (by omega)).2; omega
    rw [hxn]
    have O7 := Lib.hid (show Own (w6.alloc (.cells #[] 5)) w6.heap.size 5 (.slice (some ⟨w6.heap.size, 0, none⟩) 0 0) 0 nF from Own.empty w6 w6.heap.size 5 _ (Nat.le_refl _))
    have b7 := (Below.refl w6.heap.size w6).alloc (Nat.le_refl _) (.cells #[] 5)
    have S7 := S6.out.below b7
    have hz7 : w6.heap.size ≤ (w6.alloc (.cells #[] 5)).heap.size := by simp
    clear hxn
    go_wp2_with (at_builtin; refine wpl_appB rfl (.tmp 80) (.tmp 81) rfl sli_u u8_info O7.out S7 (by omega) hz7 rfl rfl ?_; intro v8 w8 ho8 hg8 ht8)
    rw [Nat.zero_add, catF_zero] at ho8
    have b8 := O7.out.after hg8 b7 hz7 (Nat.le_refl _)
    have Z8 := Lib.hid b8
    have R6 := Lib.hid r6
    obtain ⟨A8, c8, rfl, h8, -, hA8⟩ := ho8.sl
    obtain ⟨g, rfl, hg⟩ : ∃ g, A8 = some ⟨g, 0, none⟩ ∧ w6.heap.size ≤ g := by
      rcases hA8 with h | h
      · obtain ⟨g, o, e, _⟩ := h8.at_ (by have := HM.out; omega)
        rw [h] at e; cases e
      · exact h
    have O8 := Lib.hid ho8
    have hle8 := h8.le
    have T8 := Lib.hid h8
    clear ho8 hg8 ht8 O7 b7 S7 hz7 b8 r6 hA8 h8
    go_wp2_with fail
    obtain ⟨P, hP⟩ : ∃ P, P = n1 + xn / 8 := ⟨_, rfl⟩
    obtain ⟨r, hr⟩ : ∃ r, r = xn % 8 := ⟨_, rfl⟩
    have hPM : P < M := by have := HM.out; omega
    have hr8 : r < 8 := by omega
    have hMn : (M : Int) - 16 = (n1 : Int) := by have := HM.out; omega
    have hPi : (n1 : Int) + (xn : Int) / 8 = (P : Int) := by omega
    have hri : (xn : Int) % 8 = (r : Int) := by omega
    have HP := Lib.hid hP
    obtain ⟨Vb, hVb⟩ : ∃ v, v = S P ^^^ (1#8 <<< r) := ⟨_, rfl⟩
    have HVb := Lib.hid hVb
    clear hP hr hVb
    refine flow_seen [([0, 1, 2, 3, 4, 5, 6, 7, 8, 9, 10, 11, 12, 13, 14, 15, 16, 17, 18, 19, 20], 21, true)] [] (by kernel_rfl) (by kernel_rfl) (fun _ _ _ _ _ h => h) fun Z => ?_
    have O9 := Lib.hid (O8.out.below Z.below (Nat.le_refl _))
    have T9 := Lib.hid ((T8.out.below Z.below).more Z.below.size)
    have Z9 := Lib.hid (onto Z8.out Z8.out.size Z.below)
    clear O8 T8 Z8
    generalize Z.val = w9 at O9 T9 Z9 ⊢
    clear Z
    obtain ⟨g', o', e', hg', hc9⟩ := T9.out.at_ (by omega)
    simp only [Option.some.injEq, Addr.mk.injEq] at e'
    obtain ⟨rfl, rfl, -⟩ := e'
    have hcell : w9.cell? ⟨g, P, none⟩ = some (.int .u8 (I (S P))) := by have := hc9 P hPM; rwa [Nat.zero_add] at this
    have hcx : ∀ x : After w9, x.val.cell? ⟨g, P, none⟩ = some (.int .u8 (I (S P))) := fun x => (x.below.cell (p := ⟨g, P, none⟩) hg').trans hcell
    clear hc9
    simp only [wpFs, pk, List.getElem?_cons_zero, List.getElem?_cons_succ]
    repeat (go_big_quiet_step (fail))
    refine wpQuiet_nil ?_
    clear hcx hMn hPi hri
    have hxx : bits .xor .u8 (I (S P)) (2 ^ r % 256) = I Vb := by rw [bit_turn ⟨r, hr8⟩, HVb.out]; exact I_xor _ _
    have hfz := own_frozen O9.out P
    obtain ⟨hst, hgr⟩ := own_stored O9.out P Vb
    have HST := Lib.hid hst
    have Z10 := Lib.hid (Z9.out.grown hgr Z9.out.size (fun k e => by injection e with e; omega))
    clear hst hgr T9 O9
    go_wp2_with fail
    clear hcell hxx hfz
    generalize w9.setCell ⟨g, P, none⟩ (.int .u8 (I Vb)) = w10 at HST Z10 ⊢
    refine ⟨.inl trivial, ?_⟩
    show wpQuiet _ _ _ _ _ _
    refine wpQuiet_nil ?_
    have K10 := Lib.hid (K6.out.below Z10.out)
    have S10 := Lib.hid ((S6.out.below Z10.out).more Z10.out.size)
    have B10 := Lib.hid (onto B6.out B6.out.size Z10.out)
    have r10 := carry Z10.out R6.out
    obtain ⟨A10, c10, hv10, h10, -, -⟩ := HST.out.sl
    have T10 : Sl w10 w10.heap.size (some ⟨g, 0, none⟩) M c8 (upd S P Vb) := by
      simp only [Value.slice.injEq] at hv10
      obtain ⟨rfl, _, rfl⟩ := hv10
      exact h10
    have HT10 := Lib.hid T10
    clear K6 S6 B6 R6 Z9 HST T10 hv10 h10
    go_wp2_with fail
    -- a bit of the tag turned
    have HR10 := Lib.hid r10
    clear r10
    refine (pbl_any 1 1 rn (upd S P Vb) M c8 _ w10 (by omega) (by omega) HT10.out (by omega)).mono ?_
    rintro e w11 ⟨v, rfl, ho, hb11⟩
    obtain ⟨A11, c11, rfl, h11, -, -⟩ := ho.sl
    rw [HM.out] at h11
    have HBL := Lib.hid (show blL 1 1 M ≤ 1000 by unfold blL; have := hdL_le 1 1; omega)
    have S11 := Lib.hid ((S10.out.below hb11).more hb11.size)
    have K11 := Lib.hid (K10.out.below hb11)
    have B11 := Lib.hid (onto B10.out B10.out.size hb11)
    have R11 := Lib.hid (carry hb11 HR10.out)
    have T11 := Lib.hid h11
    obtain ⟨X1, hX1⟩ : ∃ X1, X1 = blL 1 1 M := ⟨_, rfl⟩
    have HX1 := Lib.hid hX1
    rw [← hX1] at HBL ⊢
    rw [← HM.out, ← hX1] at T11
    clear ho h11 hb11 S10 K10 B10 HR10 HT10 hX1
    go_wp2_with fail
    refine (pdc_any B _ (blF 1 1 rn (upd S P Vb)) X1 c11 A11 nF 0 0 none w11 K11.out T11.out (by have := HBL.out; omega) (Sl.nothing _ _ _ _ _)).mono ?_
    rintro e w12 ⟨v12, rfl, -, hb12⟩
    have e40 : dcE (ks1 a0 (0 + 1)) X1 (blF 1 1 rn (upd S P Vb)) nF 0 = 40 := by
      rw [HX1.out, dc_gen (by omega) (by omega) (by omega) (by omega) (by have := HM.out; omega) hMb (by omega), if_pos (mt1 a0 (0 + 1)).1, (mt1 a0 (0 + 1)).2, opC_cong F4.out, HS.out, HM.out, HP.out]
      exact opC_turn _ _ _ _ _ _ (xn / 8) (by omega) Vb (by
        rw [HVb.out, HP.out, HS.out]
        exact bit_ne _ r hr8)
    rw [e40]
    have S12 := Lib.hid ((S11.out.below hb12).more hb12.size)
    have K12 := Lib.hid (K11.out.below hb12)
    have B12 := Lib.hid (onto B11.out B11.out.size hb12)
    have R12 := Lib.hid (carry hb12 R11.out)
    have r12 := R12.out
    clear e40 hb12 S11 K11 B11 R11 T11 HX1 HBL
    go_wp2_with fail
    clear r12
    -- another version
    refine (pbl_any 1 2 rn S M c5 A5 w12 (by omega) (by omega) S12.out (by omega)).mono ?_
    rintro e w13 ⟨v, rfl, ho, hb13⟩
    obtain ⟨A13, c13, rfl, h13, -, -⟩ := ho.sl
    have HBL := Lib.hid (show blL 1 2 M ≤ 1000 by unfold blL; have := hdL_le 1 2; omega)
    have S13 := Lib.hid ((S12.out.below hb13).more hb13.size)
    have K13 := Lib.hid (K12.out.below hb13)
    have B13 := Lib.hid (onto B12.out B12.out.size hb13)
    have R13 := Lib.hid (carry hb13 R12.out)
    obtain ⟨X2, hX2⟩ : ∃ X1, X1 = blL 1 2 M := ⟨_, rfl⟩
    have HX2 := Lib.hid hX2
    rw [← hX2] at HBL h13 ⊢
    have T13 := Lib.hid h13
    clear ho h13 hb13 S12 K12 B12 R12 hX2
    go_wp2_with fail
    refine (pdc_any B _ (blF 1 2 rn S) X2 c13 A13 nF 0 0 none w13 K13.out T13.out (by have := HBL.out; omega) (Sl.nothing _ _ _ _ _)).mono ?_
    rintro e w14 ⟨v14, rfl, -, hb14⟩
    have e130 : dcE (ks1 a0 (0 + 1)) X2 (blF 1 2 rn S) nF 0 = 130 := by
      have h130 : mtE (ks1 a0 (0 + 1)) ((1 : Nat) : Int) ((2 : Nat) : Int) = 130 := mtL_ver (l := [⟨a0, ((0 + 1 : Nat) : Int), false⟩]) 2 (by simp)
      rw [HX2.out, dc_gen (by omega) (by omega) (by omega) (by omega) (by have := HM.out; omega) hMb (by omega), h130]
      rfl
    rw [e130]
    have S14 := Lib.hid ((S13.out.below hb14).more hb14.size)
    have K14 := Lib.hid (K13.out.below hb14)
    have B14 := Lib.hid (onto B13.out B13.out.size hb14)
    have R14 := Lib.hid (carry hb14 R13.out)
    have r14 := R14.out
    clear e130 hb14 S13 K13 B13 R13 T13 HX2 HBL
    go_wp2_with fail
    clear r14
    -- another key
    refine (pbl_any 2 1 rn S M c5 A5 w14 (by omega) (by omega) S14.out (by omega)).mono ?_
    rintro e w15 ⟨v, rfl, ho, hb15⟩
    obtain ⟨A15, c15, rfl, h15, -, -⟩ := ho.sl
    have HBL := Lib.hid (show blL 2 1 M ≤ 1000 by unfold blL; have := hdL_le 2 1; omega)
    have S15 := Lib.hid ((S14.out.below hb15).more hb15.size)
    have K15 := Lib.hid (K14.out.below hb15)
    have B15 := Lib.hid (onto B14.out B14.out.size hb15)
    have R15 := Lib.hid (carry hb15 R14.out)
    obtain ⟨X3, hX3⟩ : ∃ X1, X1 = blL 2 1 M := ⟨_, rfl⟩
    have HX3 := Lib.hid hX3
    rw [← hX3] at HBL h15 ⊢
    have T15 := Lib.hid h15
    clear ho h15 hb15 S14 K14 B14 R14 hX3
    go_wp2_with fail
    refine (pdc_any B _ (blF 2 1 rn S) X3 c15 A15 nF 0 0 none w15 K15.out T15.out (by have := HBL.out; omega) (Sl.nothing _ _ _ _ _)).mono ?_
    rintro e w16 ⟨v16, rfl, -, hb16⟩
    have e130 : dcE (ks1 a0 (0 + 1)) X3 (blF 2 1 rn S) nF 0 = 130 := by
      have h130 : mtE (ks1 a0 (0 + 1)) ((2 : Nat) : Int) ((1 : Nat) : Int) = 130 := mtL_key (l := [⟨a0, ((0 + 1 : Nat) : Int), false⟩]) _
      rw [HX3.out, dc_gen (by omega) (by omega) (by omega) (by omega) (by have := HM.out; omega) hMb (by omega), h130]
      rfl
    rw [e130]
    have S16 := Lib.hid ((S15.out.below hb16).more hb16.size)
    have K16 := Lib.hid (K15.out.below hb16)
    have B16 := Lib.hid (onto B15.out B15.out.size hb16)
    have R16 := Lib.hid (carry hb16 R15.out)
    have r16 := R16.out
    clear e130 hb16 S15 K15 B15 R15 T15 HX3 HBL
    go_wp2_with fail
    clear r16
    -- as it was
    refine (pbl_any 1 1 rn S M c5 A5 w16 (by omega) (by omega) S16.out (by omega)).mono ?_
    rintro e w17 ⟨v, rfl, ho, hb17⟩
    obtain ⟨A17, c17, rfl, h17, -, -⟩ := ho.sl
    have HBL := Lib.hid (show blL 1 1 M ≤ 1000 by unfold blL; have := hdL_le 1 1; omega)
    have K17 := Lib.hid (K16.out.below hb17)
    have B17 := Lib.hid (onto B16.out B16.out.size hb17)
    obtain ⟨X4, hX4⟩ : ∃ X1, X1 = blL 1 1 M := ⟨_, rfl⟩
    have HX4 := Lib.hid hX4
    rw [← hX4] at HBL h17 ⊢
    have T17 := Lib.hid h17
    clear ho h17 hb17 S16 K16 B16 R16 hX4
    go_wp2_with fail
    refine (pdc_any B _ (blF 1 1 rn S) X4 c17 A17 nF 0 0 none w17 K17.out T17.out (by have := HBL.out; omega) (Sl.nothing _ _ _ _ _)).mono ?_
    rintro e w18 ⟨v18, rfl, ho, hb18⟩
    have e0 : dcE (ks1 a0 (0 + 1)) X4 (blF 1 1 rn S) nF 0 = 0 := by
      rw [HX4.out, dc_gen (by omega) (by omega) (by omega) (by omega) (by have := HM.out; omega) hMb (by omega), if_pos (mt1 a0 (0 + 1)).1, (mt1 a0 (0 + 1)).2, opC_cong F4.out, HS.out, HM.out, opC_back]
    have eL : dcL (ks1 a0 (0 + 1)) X4 (blF 1 1 rn S) nF 0 = n1 := by
      rw [HX4.out] at e0 ⊢
      rw [dcL_gen (by omega) (by omega) (by omega) (by omega) (by have := HM.out; omega) hMb e0, HM.out, Nat.add_sub_cancel]
    have eF : ∀ k, k < n1 → dcF (ks1 a0 (0 + 1)) X4 (blF 1 1 rn S) k = a1 k := fun k hk => by
      rw [HX4.out, dcF_gen (by omega) (by omega) (by omega) (by omega) (by have := HM.out; omega) hMb, (mt1 a0 (0 + 1)).2, xorS_cong F4.out, HS.out]
      exact xor_back _ _ _ _ _ _ k hk
    rw [e0]
    rw [eL] at ho
    obtain ⟨A18, c18, rfl, h18, -, -⟩ := ho.sl
    have B18 := Lib.hid (onto B17.out B17.out.size hb18)
    obtain ⟨ST, hST⟩ : ∃ S, S = Oct.strOf n1 a1 := ⟨_, rfl⟩
    have s1 := run_str (P := Try.prog) sli_u u8_u str_u (h18.congr eF)
    have s2 := run_str (P := Try.prog) sli_u u8_u str_u ((HS1.out.below B18.out).more B18.out.size)
    rw [← hST] at s1 s2
    clear e0 eL eF ho h18 hb18 K17 B17 T17 HX4 HBL hST
    go_wp2_with fail
    go_ret
    exact ⟨rfl, B18.out⟩

set_option maxRecDepth 100000 in
theorem lifted (os : Os) (started : os.Started) (H : Type) (enc : TypeId × Value → H) :
    ReturnsInHanded {} Try.checked os 6 .any (Rows.envelopeTurnedSpec.pre6 enc Try.prog Try.f6 Rows.envelopeTurnedRow.domain false) (Rows.envelopeTurnedSpec.post enc Try.prog Try.f6 false true false false) := by
  refine returnsInHanded_of_change (C := Try.checked) own started (by kernel_rfl) Try.func6
    (ChangeSpec.witness6 (enc := enc) (C := Try.checked) false ⟨#[], #[.agg (Array.replicate 32 (.int .u8 0)), .slice none 0 0, .int .i64 0], []⟩ 8 (by kernel_rfl) (by kernel_rfl) (by kernel_rfl) (by kernel_rfl)) ?_
  intro W base args ds gs before hval0 hW hcnd _
  have hval : ∀ (j : Nat) t v, Try.f6.params[j]? = some t → args[j]? = some v → Value.okWide Try.prog W .any base t v := hval0
  have hW' := hW
  obtain ⟨p, q, hA0, hV, rfl, hfz, hnd⟩ := hW
  have hA : DataW.TrodAll enc Try.prog W 0 (fun _ => true) true Try.f6.params.toList args.toList ds p := hA0
  rw [Try.params6] at hA hval
  obtain ⟨v0, vs0, d0, ds0, p0, q0, hargs, rfl, rfl, h0, r0⟩ := trodAll_cons hA
  obtain ⟨v1, vs1, d1, ds1, p1, q1, rfl, rfl, rfl, h1, r1⟩ := trodAll_cons r0
  obtain ⟨v2, vs2, d2, ds2, p2, q2, rfl, rfl, rfl, h2, r2⟩ := trodAll_cons r1
  obtain ⟨rfl, rfl, rfl⟩ := trodAll_nil r2
  obtain rfl : args = #[v0, v1, v2] := by cases args; simp_all
  obtain ⟨rfl, rfl⟩ := trodVars_none hV
  have k0 := h0
  have lt0 : ∀ x ∈ p0, x.block < W.heap.size := by obtain ⟨m, hm⟩ := k0; exact DataW.trod_lt m _ _ _ hm
  obtain ⟨a0, rfl⟩ := open_bytes Try.underlying39 Try.underlying5 (by kernel_rfl) (by kernel_rfl) (hval 0 39 v0 rfl rfl) h0
  have k1 := h1
  have lt1 : ∀ x ∈ p1, x.block < W.heap.size := by obtain ⟨m, hm⟩ := k1; exact DataW.trod_lt m _ _ _ hm
  obtain ⟨A1, n1, c1, a1, rfl, hs1, hm1⟩ := open_sl Try.underlying25 Try.underlying5 (by kernel_rfl) (hval 1 25 v1 rfl rfl) h1
  obtain ⟨a2, rfl, rfl, rfl, w2⟩ := open_int Try.underlying3 (hval 2 3 v2 rfl rfl) h2
  clear hA0 hval0
  refine (walk a0 a1 n1 c1 A1 a2 W hs1 hm1 w2).mono fun e W' ⟨he, bel⟩ => ?_
  subst he
  exact ⟨_, rfl, _, _, _, [], _, [], hW', trodAll_mk1 (shut_bool Try.underlying4 _), (trodAll_cons_mk (Below.trod laidOut (by kernel_rfl) (of_decide_eq_true (by kernel_rfl)) k0 bel lt0) (trodAll_cons_mk (Below.trod laidOut (by kernel_rfl) (of_decide_eq_true (by kernel_rfl)) k1 bel lt1) (trodAll_cons_mk (shut_int Try.underlying3 w2) trodAll_mk0))), rfl, bel.frame _, fun h => by cases h⟩

theorem over : Rows.envelopeTurnedRow.holds Try.pinned (OpenSpec.ofChange Rows.envelopeTurnedSpec) :=
  OpenClaim.holds_of_wide 6 Try.f6 rfl rfl rfl rfl rfl rfl rfl ⟨rfl, rfl, rfl, rfl, rfl⟩ rfl rfl rfl rfl rfl (by kernel_rfl) Try.func6 (by kernel_rfl)
    (of_decide_eq_true (by kernel_rfl)) (by unfold Func.isWrapper; first | (rw [if_pos (by decide +kernel)]; kernel_rfl) | (rw [if_neg (by decide +kernel)]; exact ⟨rfl, rfl⟩))
    (fun os started H enc _ => lifted os started H enc)

theorem proved : Rows.EnvelopeTurnedSaid := over
#print axioms proved
end Go.Proofs.Ytamemjldafoolaa.envelopeTurned
