/- The statement PackBack: the law strongroomlaw08.PackBack answers true for every input, and leaves its arguments as they were. No further condition. -/
import Derived.Test.YtbdnokccipoibaaRows
import Derived.Test.YtbdnokccipoibaaLib
import Derived.Test.YtbdnokccipoibaaPkN
namespace Go.Proofs.Ytbdnokccipoibaa.packBack
open Go.ChangeShapes Go.WideShapes Go.ChangeAt Go.RowKit
open Go.Proofs.Ytbdnokccipoibaa.Oct
set_option linter.unusedVariables false

theorem own : ownKnob Try.prog.godebug = none := by kernel_rfl
theorem laidOut : laidOutB Try.prog = true := by kernel_rfl

set_option maxRecDepth 20000 in
set_option maxHeartbeats 16000000 in
theorem walk (a0 : Int) (a1 : Nat → BitVec 8) (n1 c1 : Nat) (A1 : Option Addr) (a2 : Nat → Int) (n2 c2 : Nat) (A2 : Option Addr) (w : World) (w0 : (Lit.int .i64 a0).wf = true) (hs1 : Sl w w.heap.size A1 n1 c1 a1) (hm1 : c1 ≤ maxLen) (hz1 : n1 ≤ 140737488351232) (hs2 : SlG w w.heap.size A2 n2 c2 (iV a2)) (hm2 : c2 ≤ maxLen) (hx2 : ∀ j, j < n2 → -9223372036854775808 ≤ a2 j ∧ a2 j < 9223372036854775808) :
    Calls Try.prog 6 #[.int .i64 a0, .slice A1 n1 c1, .slice A2 n2 c2] w fun e w' => e = .returned (.bool true) ∧ Below w.heap.size w w' := by
  have HS1 := Lib.hid hs1
  have HS2 := Lib.hid hs2
  have HX2 := Lib.hid hx2
  have hn2 := hs2.le
  have HM2 := Lib.hid hm2
  obtain ⟨hlo, hhi⟩ := wf_bd w0
  clear hs1 hs2 hx2 w0 hm1 hm2 hlo
  go_enter Try.func6, Try.ntmps6
  go_wp2_with fail
  refine (shown_any w).mono ?_
  rintro e w1 ⟨rfl, hb1⟩
  have C0 := Lib.hid hb1
  have hy0 := hb1.size
  have T0 := Lib.hid ((HS1.out.below hb1).more hy0)
  have HF := Lib.hid (few_any n2 c2 A2 w1 hn2 HM2.out)
  obtain ⟨M, hM⟩ : ∃ M, M = min n2 200 := ⟨_, rfl⟩
  rw [← hM] at HF
  have L0 := Lib.hid (((HS2.out.below hb1).more hy0).upto M (by omega))
  have hM2 : M ≤ 200 := by omega
  have HXM := Lib.hid (show ∀ j, j < M → -9223372036854775808 ≤ a2 j ∧ a2 j < 9223372036854775808 from fun j hj => HX2.out j (by omega))
  clear hb1 HS1 HS2 hM hn2 HM2 HX2
  go_wp2_with fail
  refine HF.out.mono ?_
  rintro e w2 ⟨rfl, hw2⟩
  subst hw2
  clear HF
  obtain ⟨SX, hSX⟩ : ∃ SX, SX = strOf n1 a1 := ⟨_, rfl⟩
  have HSX := Lib.hid hSX
  clear hSX
  by_cases hneg : a0 < 0
  case' pos =>
    have hd0 : decide ((0 : Int) ≤ a0) = false := by simp; omega
    have H2 := Lib.hid (put_neg a0 0 0 none w1 hneg)
    go_wp2_with fail
    refine H2.out.mono ?_
    rintro e w3 ⟨rfl, hw3⟩
    subst hw3
    clear H2 hhi
    obtain ⟨y1, rfl⟩ : ∃ y1 : World, y1 = w1 := ⟨_, rfl⟩
    have C1 := Lib.hid C0.out
    have hy1 := hy0
    have T1 := Lib.hid T0.out
    have L1 := Lib.hid L0.out
    have A1' := Lib.hid (Sl.nothing y1 y1.heap.size none 0 nF)
    clear C0 T0 L0
    have Fc0 := Lib.hid ((Below.refl y1.heap.size y1).alloc (Nat.le_refl _) (.cells #[] 5))
    have Oc0 := Lib.hid (show Own (y1.alloc (.cells #[] 5)) y1.heap.size 5 (.slice (some ⟨y1.heap.size, 0, none⟩) 0 0) 0 nF from Own.empty y1 y1.heap.size 5 _ (Nat.le_refl _))
    have Xc0 := Lib.hid (A1'.out.below Fc0.out)
    have hc0 : y1.heap.size ≤ (y1.alloc (.cells #[] 5)).heap.size := by simp
    go_wp2_with (at_builtin; first
      | (refine wpl_appB rfl (.tmp 31) (.tmp 32) rfl sli_u u8_info Oc0.out Xc0.out (by omega) hc0 rfl rfl ?_
         intro vc1 wc1 hoc1 hgc1 htc1
         rw [Nat.zero_add, catF_zero] at hoc1
         have hc1 : y1.heap.size ≤ wc1.heap.size := by have := hgc1.size; omega
         have Fc1 := Lib.hid (Oc0.out.after hgc1 Fc0.out hc0 (Nat.le_refl _))
         have Oc1 := Lib.hid hoc1
         have Xc1 := Lib.hid (T1.out.below Fc1.out)
         clear hoc1 hgc1 htc1)
      | (refine wpl_appB rfl (.tmp 33) (.tmp 34) rfl sli_u u8_info Oc1.out Xc1.out (by omega) hc1 rfl rfl ?_; intro vc2 wc2 hoc2 hgc2 htc2))
    have Fc2 := Lib.hid (Oc1.out.after hgc2 Fc1.out hc1 (Nat.le_refl _))
    obtain ⟨Ac2, cc2, hvc2, hsc2, -, -⟩ := hoc2.sl
    subst hvc2
    clear Fc0 Oc0 Xc0 hc0 Fc1 Oc1 Xc1 hoc2 hgc2 htc2
    have H3 := Lib.hid (take_num (0 + n1) cc2 Ac2 (catF 0 nF a1) wc2 hsc2 (by omega))
    have C2 := Lib.hid (onto C1.out hy1 Fc2.out)
    have hy2 : w.heap.size ≤ wc2.heap.size := by have := (Fc2.out).size; omega
    have T2 := Lib.hid ((T1.out.below Fc2.out).more (Fc2.out).size)
    have L2 := Lib.hid ((L1.out.below Fc2.out).more (Fc2.out).size)
    have A2' := Lib.hid ((A1'.out.below Fc2.out).more (Fc2.out).size)
    clear Fc2 hsc2 C1 T1 L1 A1'
    go_wp2_with fail
    refine H3.out.mono ?_
    intro e w5 h5
    obtain ⟨p5, v5, E5, rfl, hb5⟩ := h5.any
    have C3 := Lib.hid (onto C2.out hy2 hb5)
    have hy3 : w.heap.size ≤ w5.heap.size := by have := (hb5).size; omega
    have T3 := Lib.hid ((T2.out.below hb5).more (hb5).size)
    have L3 := Lib.hid ((L2.out.below hb5).more (hb5).size)
    have A3' := Lib.hid ((A2'.out.below hb5).more (hb5).size)
    clear H3 h5 hb5 C2 T2 L2 A2' hneg
    go_wp2_with fail
    obtain ⟨y3, rfl⟩ : ∃ y3 : World, y3 = w5 := ⟨_, rfl⟩
    obtain ⟨SA, hSA⟩ : ∃ SA, SA = strOf 0 nF := ⟨_, rfl⟩
    have HSA := Lib.hid hSA
    clear hSA
    by_cases hT : 4096 < n1
    case' pos =>
      have hdT : decide ((n1 : Int) ≤ 4096) = false := by simp; omega
      have H2 := Lib.hid (putt_long 0 0 n1 c1 none A1 y3 hT)
      go_wp2_with fail
      refine H2.out.mono ?_
      rintro e w6 ⟨rfl, hw6⟩
      subst hw6
      clear H2
      obtain ⟨y4, rfl⟩ : ∃ y4 : World, y4 = y3 := ⟨_, rfl⟩
      have C4 := Lib.hid C3.out
      have hy4 := hy3
      have T4 := Lib.hid T3.out
      have L4 := Lib.hid L3.out
      have A4' := Lib.hid A3'.out
      have D4 := Lib.hid (Sl.nothing y4 y4.heap.size none 0 nF)
      clear C3 T3 L3 A3'
      have Fd0 := Lib.hid ((Below.refl y4.heap.size y4).alloc (Nat.le_refl _) (.cells #[] 5))
      have Od0 := Lib.hid (show Own (y4.alloc (.cells #[] 5)) y4.heap.size 5 (.slice (some ⟨y4.heap.size, 0, none⟩) 0 0) 0 nF from Own.empty y4 y4.heap.size 5 _ (Nat.le_refl _))
      have Xd0 := Lib.hid (D4.out.below Fd0.out)
      have hd0 : y4.heap.size ≤ (y4.alloc (.cells #[] 5)).heap.size := by simp
      go_wp2_with (at_builtin; first
        | (refine wpl_appB rfl (.tmp 71) (.tmp 72) rfl sli_u u8_info Od0.out Xd0.out (by omega) hd0 rfl rfl ?_
           intro vd1 wd1 hod1 hgd1 htd1
           rw [Nat.zero_add, catF_zero] at hod1
           have hd1 : y4.heap.size ≤ wd1.heap.size := by have := hgd1.size; omega
           have Fd1 := Lib.hid (Od0.out.after hgd1 Fd0.out hd0 (Nat.le_refl _))
           have Od1 := Lib.hid hod1
           have Xd1 := Lib.hid (A4'.out.below Fd1.out)
           clear hod1 hgd1 htd1)
        | (refine wpl_appB rfl (.tmp 73) (.tmp 74) rfl sli_u u8_info Od1.out Xd1.out (by omega) hd1 rfl rfl ?_; intro vd2 wd2 hod2 hgd2 htd2))
      have Fd2 := Lib.hid (Od1.out.after hgd2 Fd1.out hd1 (Nat.le_refl _))
      obtain ⟨Ad2, cd2, hvd2, hsd2, -, -⟩ := hod2.sl
      subst hvd2
      clear Fd0 Od0 Xd0 hd0 Fd1 Od1 Xd1 hod2 hgd2 htd2
      have H3 := Lib.hid (taket_any (0 + 0) cd2 (n1 : Int) Ad2 (catF (0) nF nF) wd2 hsd2 (by omega))
      have C5 := Lib.hid (onto C4.out hy4 Fd2.out)
      have hy5 : w.heap.size ≤ wd2.heap.size := by have := (Fd2.out).size; omega
      have T5 := Lib.hid ((T4.out.below Fd2.out).more (Fd2.out).size)
      have L5 := Lib.hid ((L4.out.below Fd2.out).more (Fd2.out).size)
      have A5' := Lib.hid ((A4'.out.below Fd2.out).more (Fd2.out).size)
      clear Fd2 hsd2 C4 T4 L4 A4' D4
      go_wp2_with fail
      refine H3.out.mono ?_
      intro e w7 h7
      obtain ⟨u7, v7, E7, rfl, hb7⟩ := h7.any
      have C6 := Lib.hid (onto C5.out hy5 hb7)
      have hy6 : w.heap.size ≤ w7.heap.size := by have := (hb7).size; omega
      have T6 := Lib.hid ((T5.out.below hb7).more (hb7).size)
      have L6 := Lib.hid ((L5.out.below hb7).more (hb7).size)
      have A6' := Lib.hid ((A5'.out.below hb7).more (hb7).size)
      clear H3 h7 hb7 C5 T5 L5 A5'
      go_wp2_with fail
      obtain ⟨y6, rfl⟩ : ∃ y6 : World, y6 = w7 := ⟨_, rfl⟩
      have H4 := Lib.hid (putl_nil M c2 A2 a2 y6 L6.out HXM.out (by omega))
      go_wp2_with fail
      refine H4.out.mono ?_
      rintro e w8 (⟨_, rfl, hb8⟩ | ⟨hpos, v8, rfl, ho8, hb8⟩)
      case' inl =>
        have B8 := Lib.hid (onto C6.out hy6 hb8)
        clear H4 hb8 C6 T6 L6 A6'
        go_wp2_with fail
        go_ret
        exact ⟨rfl, B8.out⟩
      case' inr =>
        obtain ⟨Al, cl, hvl, hsl, -, -⟩ := ho8.sl
        subst hvl
        have hL9 := lsL_le (natS a2) M M
        obtain ⟨Lc, hLc⟩ : ∃ Lc, Lc = lsL (natS a2) M M := ⟨_, rfl⟩
        rw [← hLc] at hsl hL9 ⊢
        have HLC := Lib.hid hLc
        have HP := Lib.hid hpos
        have D8 := Lib.hid hsl
        have C8 := Lib.hid (onto C6.out hy6 hb8)
        have hy8 : w.heap.size ≤ w8.heap.size := by have := (hb8).size; omega
        have T8 := Lib.hid ((T6.out.below hb8).more (hb8).size)
        have L8 := Lib.hid ((L6.out.below hb8).more (hb8).size)
        have A8' := Lib.hid ((A6'.out.below hb8).more (hb8).size)
        clear H4 ho8 hb8 C6 T6 L6 A6' hsl hLc hpos
        obtain ⟨y8, rfl⟩ : ∃ y8 : World, y8 = w8 := ⟨_, rfl⟩
        have Ff0 := Lib.hid ((Below.refl y8.heap.size y8).alloc (Nat.le_refl _) (.cells #[] 5))
        have Of0 := Lib.hid (show Own (y8.alloc (.cells #[] 5)) y8.heap.size 5 (.slice (some ⟨y8.heap.size, 0, none⟩) 0 0) 0 nF from Own.empty y8 y8.heap.size 5 _ (Nat.le_refl _))
        have Xf0 := Lib.hid (D8.out.below Ff0.out)
        have hf0 : y8.heap.size ≤ (y8.alloc (.cells #[] 5)).heap.size := by simp
        go_wp2_with (at_builtin; first
          | (refine wpl_appB rfl (.tmp 123) (.tmp 124) rfl sli_u u8_info Of0.out Xf0.out (by omega) hf0 rfl rfl ?_
             intro vf1 wf1 hof1 hgf1 htf1
             rw [Nat.zero_add, catF_zero] at hof1
             have hf1 : y8.heap.size ≤ wf1.heap.size := by have := hgf1.size; omega
             have Ff1 := Lib.hid (Of0.out.after hgf1 Ff0.out hf0 (Nat.le_refl _))
             have Of1 := Lib.hid hof1
             have Xf1 := Lib.hid (A8'.out.below Ff1.out)
             clear hof1 hgf1 htf1)
          | (refine wpl_appB rfl (.tmp 125) (.tmp 126) rfl sli_u u8_info Of1.out Xf1.out (by omega) hf1 rfl rfl ?_; intro vf2 wf2 hof2 hgf2 htf2))
        have Ff2 := Lib.hid (Of1.out.after hgf2 Ff1.out hf1 (Nat.le_refl _))
        obtain ⟨Af2, cf2, hvf2, hsf2, -, -⟩ := hof2.sl
        subst hvf2
        clear Ff0 Of0 Xf0 hf0 Ff1 Of1 Xf1 hof2 hgf2 htf2
        have H5 := Lib.hid (takel_any (Lc + 0) cf2 (M : Int) Af2 (catF Lc (lsF (natS a2) M M) nF) wf2 hsf2 (by omega) (by omega))
        have C9 := Lib.hid (onto C8.out hy8 Ff2.out)
        have hy9 : w.heap.size ≤ wf2.heap.size := by have := (Ff2.out).size; omega
        have T9 := Lib.hid ((T8.out.below Ff2.out).more (Ff2.out).size)
        have L9 := Lib.hid ((L8.out.below Ff2.out).more (Ff2.out).size)
        have A9' := Lib.hid ((A8'.out.below Ff2.out).more (Ff2.out).size)
        clear Ff2 hsf2 C8 T8 L8 A8' D8
        go_wp2_with fail
        refine H5.out.mono ?_
        intro e w10 h10
        have hagr : ∀ i, i < lsL (natS a2) M M → catF Lc (lsF (natS a2) M M) nF i = lsF (natS a2) M M i := fun i hi => by unfold catF; rw [if_pos (by rw [HLC.out]; exact hi)]
        have hxs : ∀ i, i < M → natS a2 i < 9223372036854775808 := fun i hi => by have := HXM.out i hi; have := HP.out i hi; unfold natS; omega
        have hbl := back_list (n := Lc + 0) (by rw [← HLC.out]; omega) (by omega) hxs hagr
        obtain ⟨Ak, ck, v10, rfl, hl10, -, ho10, hb10⟩ := h10.ok (back_list_E (n := Lc + 0) (by rw [← HLC.out]; omega) (by omega) hxs hagr)
        have hM3 := hbl.2.2 M (Nat.le_refl _)
        rw [hbl.2.1] at hl10 ho10 ⊢
        rw [hM3.2.1, ← HLC.out, show Lc + 0 - Lc = 0 by omega] at ho10
        have hl11 : SlG w10 w10.heap.size Ak M ck (iV a2) := hl10.congr fun i hi => by
          unfold iV
          dsimp only
          rw [hM3.2.2 i hi]
          congr 1
          have := HP.out i hi
          unfold natS
          omega
        have O10 := Lib.hid ho10
        have C10 := Lib.hid (onto C9.out hy9 hb10)
        have hy10 : w.heap.size ≤ w10.heap.size := by have := (hb10).size; omega
        have T10 := Lib.hid ((T9.out.below hb10).more (hb10).size)
        have L10 := Lib.hid ((L9.out.below hb10).more (hb10).size)
        have A10' := Lib.hid ((A9'.out.below hb10).more (hb10).size)
        have H6 := Lib.hid (ints_any M ck c2 Ak A2 a2 w10 hl11 L10.out (by omega))
        clear H5 h10 hb10 C9 T9 L9 A9' hagr hxs hbl hM3 hl10 hl11 ho10
        go_wp2_with fail
        refine H6.out.mono ?_
        rintro e w11 ⟨rfl, hb11⟩
        have B11 := Lib.hid (onto C10.out hy10 hb11)
        have k1 := conv_own (O10.out.below hb11 (Nat.le_refl _))
        have k2 := conv_sl (A10'.out.below hb11)
        rw [str_behind, ← HSA.out] at k1
        rw [← HSA.out] at k2
        clear H6 hb11 C10 T10 L10 A10' O10
        go_wp2_with fail
        go_ret
        exact ⟨rfl, B11.out⟩
    case' neg =>
      have hdT : decide ((n1 : Int) ≤ 4096) = true := by simp; omega
      have hE1 := encL_le n1
      have htx : txL n1 = encL n1 + n1 := rfl
      have H2 := Lib.hid (putt_nil n1 c1 A1 a1 y3 T3.out (by omega))
      go_wp2_with fail
      refine H2.out.mono ?_
      rintro e w6 ⟨v6, rfl, ho6, hb6⟩
      obtain ⟨Ab, cb, hvb, hsb, -, -⟩ := ho6.sl
      subst hvb
      have D4 := Lib.hid hsb
      have C4 := Lib.hid (onto C3.out hy3 hb6)
      have hy4 : w.heap.size ≤ w6.heap.size := by have := (hb6).size; omega
      have T4 := Lib.hid ((T3.out.below hb6).more (hb6).size)
      have L4 := Lib.hid ((L3.out.below hb6).more (hb6).size)
      have A4' := Lib.hid ((A3'.out.below hb6).more (hb6).size)
      clear H2 ho6 hb6 C3 T3 L3 A3' hsb
      obtain ⟨y4, rfl⟩ : ∃ y4 : World, y4 = w6 := ⟨_, rfl⟩
      have Fd0 := Lib.hid ((Below.refl y4.heap.size y4).alloc (Nat.le_refl _) (.cells #[] 5))
      have Od0 := Lib.hid (show Own (y4.alloc (.cells #[] 5)) y4.heap.size 5 (.slice (some ⟨y4.heap.size, 0, none⟩) 0 0) 0 nF from Own.empty y4 y4.heap.size 5 _ (Nat.le_refl _))
      have Xd0 := Lib.hid (D4.out.below Fd0.out)
      have hd0 : y4.heap.size ≤ (y4.alloc (.cells #[] 5)).heap.size := by simp
      go_wp2_with (at_builtin; first
        | (refine wpl_appB rfl (.tmp 71) (.tmp 72) rfl sli_u u8_info Od0.out Xd0.out (by omega) hd0 rfl rfl ?_
           intro vd1 wd1 hod1 hgd1 htd1
           rw [Nat.zero_add, catF_zero] at hod1
           have hd1 : y4.heap.size ≤ wd1.heap.size := by have := hgd1.size; omega
           have Fd1 := Lib.hid (Od0.out.after hgd1 Fd0.out hd0 (Nat.le_refl _))
           have Od1 := Lib.hid hod1
           have Xd1 := Lib.hid (A4'.out.below Fd1.out)
           clear hod1 hgd1 htd1)
        | (refine wpl_appB rfl (.tmp 73) (.tmp 74) rfl sli_u u8_info Od1.out Xd1.out (by omega) hd1 rfl rfl ?_; intro vd2 wd2 hod2 hgd2 htd2))
      have Fd2 := Lib.hid (Od1.out.after hgd2 Fd1.out hd1 (Nat.le_refl _))
      obtain ⟨Ad2, cd2, hvd2, hsd2, -, -⟩ := hod2.sl
      subst hvd2
      clear Fd0 Od0 Xd0 hd0 Fd1 Od1 Xd1 hod2 hgd2 htd2
      have H3 := Lib.hid (taket_any (txL n1 + 0) cd2 (n1 : Int) Ad2 (catF (txL n1) (txF n1 a1) nF) wd2 hsd2 (by omega))
      have C5 := Lib.hid (onto C4.out hy4 Fd2.out)
      have hy5 : w.heap.size ≤ wd2.heap.size := by have := (Fd2.out).size; omega
      have T5 := Lib.hid ((T4.out.below Fd2.out).more (Fd2.out).size)
      have L5 := Lib.hid ((L4.out.below Fd2.out).more (Fd2.out).size)
      have A5' := Lib.hid ((A4'.out.below Fd2.out).more (Fd2.out).size)
      clear Fd2 hsd2 C4 T4 L4 A4' D4
      go_wp2_with fail
      refine H3.out.mono ?_
      intro e w7 h7
      have hte := back_text n1 a1 nF (0) (by omega)
      obtain ⟨u7, v7, rfl, hp7, ho7, hb7⟩ := h7.ok hte.1
      rw [hte.2.1, hte.2.2] at hp7
      rw [hte.2.1, hte.2.2, show txL n1 + 0 - encL n1 - n1 = 0 by omega, ← htx] at ho7
      have k1 := conv_own hp7
      rw [back_text_s, ← HSX.out] at k1
      have k2 := conv_own ho7
      rw [str_behind, ← HSA.out] at k2
      have C6 := Lib.hid (onto C5.out hy5 hb7)
      have hy6 : w.heap.size ≤ w7.heap.size := by have := (hb7).size; omega
      have T6 := Lib.hid ((T5.out.below hb7).more (hb7).size)
      have L6 := Lib.hid ((L5.out.below hb7).more (hb7).size)
      have A6' := Lib.hid ((A5'.out.below hb7).more (hb7).size)
      have k3 := conv_sl T6.out
      rw [← HSX.out] at k3
      have k4 := conv_sl A6'.out
      rw [← HSA.out] at k4
      clear H3 h7 hb7 C5 T5 L5 A5' hte ho7 hp7 hE1 htx
      go_wp2_with fail
      obtain ⟨y6, rfl⟩ : ∃ y6 : World, y6 = w7 := ⟨_, rfl⟩
      clear k1 k2 k3 k4
      have H4 := Lib.hid (putl_nil M c2 A2 a2 y6 L6.out HXM.out (by omega))
      go_wp2_with fail
      refine H4.out.mono ?_
      rintro e w8 (⟨_, rfl, hb8⟩ | ⟨hpos, v8, rfl, ho8, hb8⟩)
      case' inl =>
        have B8 := Lib.hid (onto C6.out hy6 hb8)
        clear H4 hb8 C6 T6 L6 A6'
        go_wp2_with fail
        go_ret
        exact ⟨rfl, B8.out⟩
      case' inr =>
        obtain ⟨Al, cl, hvl, hsl, -, -⟩ := ho8.sl
        subst hvl
        have hL9 := lsL_le (natS a2) M M
        obtain ⟨Lc, hLc⟩ : ∃ Lc, Lc = lsL (natS a2) M M := ⟨_, rfl⟩
        rw [← hLc] at hsl hL9 ⊢
        have HLC := Lib.hid hLc
        have HP := Lib.hid hpos
        have D8 := Lib.hid hsl
        have C8 := Lib.hid (onto C6.out hy6 hb8)
        have hy8 : w.heap.size ≤ w8.heap.size := by have := (hb8).size; omega
        have T8 := Lib.hid ((T6.out.below hb8).more (hb8).size)
        have L8 := Lib.hid ((L6.out.below hb8).more (hb8).size)
        have A8' := Lib.hid ((A6'.out.below hb8).more (hb8).size)
        clear H4 ho8 hb8 C6 T6 L6 A6' hsl hLc hpos
        obtain ⟨y8, rfl⟩ : ∃ y8 : World, y8 = w8 := ⟨_, rfl⟩
        have Ff0 := Lib.hid ((Below.refl y8.heap.size y8).alloc (Nat.le_refl _) (.cells #[] 5))
        have Of0 := Lib.hid (show Own (y8.alloc (.cells #[] 5)) y8.heap.size 5 (.slice (some ⟨y8.heap.size, 0, none⟩) 0 0) 0 nF from Own.empty y8 y8.heap.size 5 _ (Nat.le_refl _))
        have Xf0 := Lib.hid (D8.out.below Ff0.out)
        have hf0 : y8.heap.size ≤ (y8.alloc (.cells #[] 5)).heap.size := by simp
        go_wp2_with (at_builtin; first
          | (refine wpl_appB rfl (.tmp 123) (.tmp 124) rfl sli_u u8_info Of0.out Xf0.out (by omega) hf0 rfl rfl ?_
             intro vf1 wf1 hof1 hgf1 htf1
             rw [Nat.zero_add, catF_zero] at hof1
             have hf1 : y8.heap.size ≤ wf1.heap.size := by have := hgf1.size; omega
             have Ff1 := Lib.hid (Of0.out.after hgf1 Ff0.out hf0 (Nat.le_refl _))
             have Of1 := Lib.hid hof1
             have Xf1 := Lib.hid (A8'.out.below Ff1.out)
             clear hof1 hgf1 htf1)
          | (refine wpl_appB rfl (.tmp 125) (.tmp 126) rfl sli_u u8_info Of1.out Xf1.out (by omega) hf1 rfl rfl ?_; intro vf2 wf2 hof2 hgf2 htf2))
        have Ff2 := Lib.hid (Of1.out.after hgf2 Ff1.out hf1 (Nat.le_refl _))
        obtain ⟨Af2, cf2, hvf2, hsf2, -, -⟩ := hof2.sl
        subst hvf2
        clear Ff0 Of0 Xf0 hf0 Ff1 Of1 Xf1 hof2 hgf2 htf2
        have H5 := Lib.hid (takel_any (Lc + 0) cf2 (M : Int) Af2 (catF Lc (lsF (natS a2) M M) nF) wf2 hsf2 (by omega) (by omega))
        have C9 := Lib.hid (onto C8.out hy8 Ff2.out)
        have hy9 : w.heap.size ≤ wf2.heap.size := by have := (Ff2.out).size; omega
        have T9 := Lib.hid ((T8.out.below Ff2.out).more (Ff2.out).size)
        have L9 := Lib.hid ((L8.out.below Ff2.out).more (Ff2.out).size)
        have A9' := Lib.hid ((A8'.out.below Ff2.out).more (Ff2.out).size)
        clear Ff2 hsf2 C8 T8 L8 A8' D8
        go_wp2_with fail
        refine H5.out.mono ?_
        intro e w10 h10
        have hagr : ∀ i, i < lsL (natS a2) M M → catF Lc (lsF (natS a2) M M) nF i = lsF (natS a2) M M i := fun i hi => by unfold catF; rw [if_pos (by rw [HLC.out]; exact hi)]
        have hxs : ∀ i, i < M → natS a2 i < 9223372036854775808 := fun i hi => by have := HXM.out i hi; have := HP.out i hi; unfold natS; omega
        have hbl := back_list (n := Lc + 0) (by rw [← HLC.out]; omega) (by omega) hxs hagr
        obtain ⟨Ak, ck, v10, rfl, hl10, -, ho10, hb10⟩ := h10.ok (back_list_E (n := Lc + 0) (by rw [← HLC.out]; omega) (by omega) hxs hagr)
        have hM3 := hbl.2.2 M (Nat.le_refl _)
        rw [hbl.2.1] at hl10 ho10 ⊢
        rw [hM3.2.1, ← HLC.out, show Lc + 0 - Lc = 0 by omega] at ho10
        have hl11 : SlG w10 w10.heap.size Ak M ck (iV a2) := hl10.congr fun i hi => by
          unfold iV
          dsimp only
          rw [hM3.2.2 i hi]
          congr 1
          have := HP.out i hi
          unfold natS
          omega
        have O10 := Lib.hid ho10
        have C10 := Lib.hid (onto C9.out hy9 hb10)
        have hy10 : w.heap.size ≤ w10.heap.size := by have := (hb10).size; omega
        have T10 := Lib.hid ((T9.out.below hb10).more (hb10).size)
        have L10 := Lib.hid ((L9.out.below hb10).more (hb10).size)
        have A10' := Lib.hid ((A9'.out.below hb10).more (hb10).size)
        have H6 := Lib.hid (ints_any M ck c2 Ak A2 a2 w10 hl11 L10.out (by omega))
        clear H5 h10 hb10 C9 T9 L9 A9' hagr hxs hbl hM3 hl10 hl11 ho10
        go_wp2_with fail
        refine H6.out.mono ?_
        rintro e w11 ⟨rfl, hb11⟩
        have B11 := Lib.hid (onto C10.out hy10 hb11)
        have k1 := conv_own (O10.out.below hb11 (Nat.le_refl _))
        have k2 := conv_sl (A10'.out.below hb11)
        rw [str_behind, ← HSA.out] at k1
        rw [← HSA.out] at k2
        clear H6 hb11 C10 T10 L10 A10' O10
        go_wp2_with fail
        go_ret
        exact ⟨rfl, B11.out⟩
  case' neg =>
    obtain ⟨n, rfl⟩ : ∃ n : Nat, a0 = n := ⟨a0.toNat, by omega⟩
    have hn : n < 9223372036854775808 := by omega
    have hd0 : decide ((0 : Int) ≤ (n : Int)) = true := by simp
    have H2 := Lib.hid (put_nil n w1 hn)
    clear hneg hhi
    go_wp2_with fail
    refine H2.out.mono ?_
    rintro e w3 ⟨v3, rfl, ho3, hb3⟩
    obtain ⟨Aa, ca, hva, hsa, -, -⟩ := ho3.sl
    subst hva
    have hLa9 := encL_le n
    obtain ⟨La, hLa⟩ : ∃ La, La = encL n := ⟨_, rfl⟩
    rw [← hLa] at hsa hLa9 ⊢
    have HLA := Lib.hid hLa
    have C1 := Lib.hid (onto C0.out hy0 hb3)
    have hy1 : w.heap.size ≤ w3.heap.size := by have := (hb3).size; omega
    have T1 := Lib.hid ((T0.out.below hb3).more (hb3).size)
    have L1 := Lib.hid ((L0.out.below hb3).more (hb3).size)
    have A1' := Lib.hid hsa
    clear H2 ho3 hb3 C0 T0 L0 hy0 hsa hLa
    obtain ⟨y1, rfl⟩ : ∃ y1 : World, y1 = w3 := ⟨_, rfl⟩
    have Fc0 := Lib.hid ((Below.refl y1.heap.size y1).alloc (Nat.le_refl _) (.cells #[] 5))
    have Oc0 := Lib.hid (show Own (y1.alloc (.cells #[] 5)) y1.heap.size 5 (.slice (some ⟨y1.heap.size, 0, none⟩) 0 0) 0 nF from Own.empty y1 y1.heap.size 5 _ (Nat.le_refl _))
    have Xc0 := Lib.hid (A1'.out.below Fc0.out)
    have hc0 : y1.heap.size ≤ (y1.alloc (.cells #[] 5)).heap.size := by simp
    go_wp2_with (at_builtin; first
      | (refine wpl_appB rfl (.tmp 31) (.tmp 32) rfl sli_u u8_info Oc0.out Xc0.out (by omega) hc0 rfl rfl ?_
         intro vc1 wc1 hoc1 hgc1 htc1
         rw [Nat.zero_add, catF_zero] at hoc1
         have hc1 : y1.heap.size ≤ wc1.heap.size := by have := hgc1.size; omega
         have Fc1 := Lib.hid (Oc0.out.after hgc1 Fc0.out hc0 (Nat.le_refl _))
         have Oc1 := Lib.hid hoc1
         have Xc1 := Lib.hid (T1.out.below Fc1.out)
         clear hoc1 hgc1 htc1)
      | (refine wpl_appB rfl (.tmp 33) (.tmp 34) rfl sli_u u8_info Oc1.out Xc1.out (by omega) hc1 rfl rfl ?_; intro vc2 wc2 hoc2 hgc2 htc2))
    have Fc2 := Lib.hid (Oc1.out.after hgc2 Fc1.out hc1 (Nat.le_refl _))
    obtain ⟨Ac2, cc2, hvc2, hsc2, -, -⟩ := hoc2.sl
    subst hvc2
    clear Fc0 Oc0 Xc0 hc0 Fc1 Oc1 Xc1 hoc2 hgc2 htc2
    have H3 := Lib.hid (take_num (La + n1) cc2 Ac2 (catF La (encF n) a1) wc2 hsc2 (by omega))
    have C2 := Lib.hid (onto C1.out hy1 Fc2.out)
    have hy2 : w.heap.size ≤ wc2.heap.size := by have := (Fc2.out).size; omega
    have T2 := Lib.hid ((T1.out.below Fc2.out).more (Fc2.out).size)
    have L2 := Lib.hid ((L1.out.below Fc2.out).more (Fc2.out).size)
    have A2' := Lib.hid ((A1'.out.below Fc2.out).more (Fc2.out).size)
    clear Fc2 hsc2 C1 T1 L1 A1'
    go_wp2_with fail
    refine H3.out.mono ?_
    intro e w5 h5
    have hte := tk_enc n hn (La + n1) (catF La (encF n) a1) (by rw [← HLA.out]; omega) (fun i hi => by unfold catF; rw [if_pos (by rw [HLA.out]; exact hi)])
    obtain ⟨v5, rfl, ho5, hb5⟩ := h5.ok hte.1
    rw [hte.2.1]
    rw [hte.2.2, ← HLA.out, show La + n1 - La = n1 by omega] at ho5
    have k1 := conv_own ho5
    rw [str_behind, ← HSX.out] at k1
    have C3 := Lib.hid (onto C2.out hy2 hb5)
    have hy3 : w.heap.size ≤ w5.heap.size := by have := (hb5).size; omega
    have T3 := Lib.hid ((T2.out.below hb5).more (hb5).size)
    have L3 := Lib.hid ((L2.out.below hb5).more (hb5).size)
    have A3' := Lib.hid ((A2'.out.below hb5).more (hb5).size)
    have k2 := conv_sl T3.out
    rw [← HSX.out] at k2
    clear H3 h5 hb5 C2 T2 L2 A2' hte ho5
    go_wp2_with fail
    obtain ⟨y3, rfl⟩ : ∃ y3 : World, y3 = w5 := ⟨_, rfl⟩
    clear k1 k2
    obtain ⟨SA, hSA⟩ : ∃ SA, SA = strOf La (encF n) := ⟨_, rfl⟩
    have HSA := Lib.hid hSA
    clear hSA
    by_cases hT : 4096 < n1
    case' pos =>
      have hdT : decide ((n1 : Int) ≤ 4096) = false := by simp; omega
      have H2 := Lib.hid (putt_long 0 0 n1 c1 none A1 y3 hT)
      go_wp2_with fail
      refine H2.out.mono ?_
      rintro e w6 ⟨rfl, hw6⟩
      subst hw6
      clear H2
      obtain ⟨y4, rfl⟩ : ∃ y4 : World, y4 = y3 := ⟨_, rfl⟩
      have C4 := Lib.hid C3.out
      have hy4 := hy3
      have T4 := Lib.hid T3.out
      have L4 := Lib.hid L3.out
      have A4' := Lib.hid A3'.out
      have D4 := Lib.hid (Sl.nothing y4 y4.heap.size none 0 nF)
      clear C3 T3 L3 A3'
      have Fd0 := Lib.hid ((Below.refl y4.heap.size y4).alloc (Nat.le_refl _) (.cells #[] 5))
      have Od0 := Lib.hid (show Own (y4.alloc (.cells #[] 5)) y4.heap.size 5 (.slice (some ⟨y4.heap.size, 0, none⟩) 0 0) 0 nF from Own.empty y4 y4.heap.size 5 _ (Nat.le_refl _))
      have Xd0 := Lib.hid (D4.out.below Fd0.out)
      have hd0 : y4.heap.size ≤ (y4.alloc (.cells #[] 5)).heap.size := by simp
      go_wp2_with (at_builtin; first
        | (refine wpl_appB rfl (.tmp 71) (.tmp 72) rfl sli_u u8_info Od0.out Xd0.out (by omega) hd0 rfl rfl ?_
           intro vd1 wd1 hod1 hgd1 htd1
           rw [Nat.zero_add, catF_zero] at hod1
           have hd1 : y4.heap.size ≤ wd1.heap.size := by have := hgd1.size; omega
           have Fd1 := Lib.hid (Od0.out.after hgd1 Fd0.out hd0 (Nat.le_refl _))
           have Od1 := Lib.hid hod1
           have Xd1 := Lib.hid (A4'.out.below Fd1.out)
           clear hod1 hgd1 htd1)
        | (refine wpl_appB rfl (.tmp 73) (.tmp 74) rfl sli_u u8_info Od1.out Xd1.out (by omega) hd1 rfl rfl ?_; intro vd2 wd2 hod2 hgd2 htd2))
      have Fd2 := Lib.hid (Od1.out.after hgd2 Fd1.out hd1 (Nat.le_refl _))
      obtain ⟨Ad2, cd2, hvd2, hsd2, -, -⟩ := hod2.sl
      subst hvd2
      clear Fd0 Od0 Xd0 hd0 Fd1 Od1 Xd1 hod2 hgd2 htd2
      have H3 := Lib.hid (taket_any (0 + La) cd2 (n1 : Int) Ad2 (catF (0) nF (encF n)) wd2 hsd2 (by omega))
      have C5 := Lib.hid (onto C4.out hy4 Fd2.out)
      have hy5 : w.heap.size ≤ wd2.heap.size := by have := (Fd2.out).size; omega
      have T5 := Lib.hid ((T4.out.below Fd2.out).more (Fd2.out).size)
      have L5 := Lib.hid ((L4.out.below Fd2.out).more (Fd2.out).size)
      have A5' := Lib.hid ((A4'.out.below Fd2.out).more (Fd2.out).size)
      clear Fd2 hsd2 C4 T4 L4 A4' D4
      go_wp2_with fail
      refine H3.out.mono ?_
      intro e w7 h7
      obtain ⟨u7, v7, E7, rfl, hb7⟩ := h7.any
      have C6 := Lib.hid (onto C5.out hy5 hb7)
      have hy6 : w.heap.size ≤ w7.heap.size := by have := (hb7).size; omega
      have T6 := Lib.hid ((T5.out.below hb7).more (hb7).size)
      have L6 := Lib.hid ((L5.out.below hb7).more (hb7).size)
      have A6' := Lib.hid ((A5'.out.below hb7).more (hb7).size)
      clear H3 h7 hb7 C5 T5 L5 A5'
      go_wp2_with fail
      obtain ⟨y6, rfl⟩ : ∃ y6 : World, y6 = w7 := ⟨_, rfl⟩
      have H4 := Lib.hid (putl_nil M c2 A2 a2 y6 L6.out HXM.out (by omega))
      go_wp2_with fail
      refine H4.out.mono ?_
      rintro e w8 (⟨_, rfl, hb8⟩ | ⟨hpos, v8, rfl, ho8, hb8⟩)
      case' inl =>
        have B8 := Lib.hid (onto C6.out hy6 hb8)
        clear H4 hb8 C6 T6 L6 A6'
        go_wp2_with fail
        go_ret
        exact ⟨rfl, B8.out⟩
      case' inr =>
        obtain ⟨Al, cl, hvl, hsl, -, -⟩ := ho8.sl
        subst hvl
        have hL9 := lsL_le (natS a2) M M
        obtain ⟨Lc, hLc⟩ : ∃ Lc, Lc = lsL (natS a2) M M := ⟨_, rfl⟩
        rw [← hLc] at hsl hL9 ⊢
        have HLC := Lib.hid hLc
        have HP := Lib.hid hpos
        have D8 := Lib.hid hsl
        have C8 := Lib.hid (onto C6.out hy6 hb8)
        have hy8 : w.heap.size ≤ w8.heap.size := by have := (hb8).size; omega
        have T8 := Lib.hid ((T6.out.below hb8).more (hb8).size)
        have L8 := Lib.hid ((L6.out.below hb8).more (hb8).size)
        have A8' := Lib.hid ((A6'.out.below hb8).more (hb8).size)
        clear H4 ho8 hb8 C6 T6 L6 A6' hsl hLc hpos
        obtain ⟨y8, rfl⟩ : ∃ y8 : World, y8 = w8 := ⟨_, rfl⟩
        have Ff0 := Lib.hid ((Below.refl y8.heap.size y8).alloc (Nat.le_refl _) (.cells #[] 5))
        have Of0 := Lib.hid (show Own (y8.alloc (.cells #[] 5)) y8.heap.size 5 (.slice (some ⟨y8.heap.size, 0, none⟩) 0 0) 0 nF from Own.empty y8 y8.heap.size 5 _ (Nat.le_refl _))
        have Xf0 := Lib.hid (D8.out.below Ff0.out)
        have hf0 : y8.heap.size ≤ (y8.alloc (.cells #[] 5)).heap.size := by simp
        go_wp2_with (at_builtin; first
          | (refine wpl_appB rfl (.tmp 123) (.tmp 124) rfl sli_u u8_info Of0.out Xf0.out (by omega) hf0 rfl rfl ?_
             intro vf1 wf1 hof1 hgf1 htf1
             rw [Nat.zero_add, catF_zero] at hof1
             have hf1 : y8.heap.size ≤ wf1.heap.size := by have := hgf1.size; omega
             have Ff1 := Lib.hid (Of0.out.after hgf1 Ff0.out hf0 (Nat.le_refl _))
             have Of1 := Lib.hid hof1
             have Xf1 := Lib.hid (A8'.out.below Ff1.out)
             clear hof1 hgf1 htf1)
          | (refine wpl_appB rfl (.tmp 125) (.tmp 126) rfl sli_u u8_info Of1.out Xf1.out (by omega) hf1 rfl rfl ?_; intro vf2 wf2 hof2 hgf2 htf2))
        have Ff2 := Lib.hid (Of1.out.after hgf2 Ff1.out hf1 (Nat.le_refl _))
        obtain ⟨Af2, cf2, hvf2, hsf2, -, -⟩ := hof2.sl
        subst hvf2
        clear Ff0 Of0 Xf0 hf0 Ff1 Of1 Xf1 hof2 hgf2 htf2
        have H5 := Lib.hid (takel_any (Lc + La) cf2 (M : Int) Af2 (catF Lc (lsF (natS a2) M M) (encF n)) wf2 hsf2 (by omega) (by omega))
        have C9 := Lib.hid (onto C8.out hy8 Ff2.out)
        have hy9 : w.heap.size ≤ wf2.heap.size := by have := (Ff2.out).size; omega
        have T9 := Lib.hid ((T8.out.below Ff2.out).more (Ff2.out).size)
        have L9 := Lib.hid ((L8.out.below Ff2.out).more (Ff2.out).size)
        have A9' := Lib.hid ((A8'.out.below Ff2.out).more (Ff2.out).size)
        clear Ff2 hsf2 C8 T8 L8 A8' D8
        go_wp2_with fail
        refine H5.out.mono ?_
        intro e w10 h10
        have hagr : ∀ i, i < lsL (natS a2) M M → catF Lc (lsF (natS a2) M M) (encF n) i = lsF (natS a2) M M i := fun i hi => by unfold catF; rw [if_pos (by rw [HLC.out]; exact hi)]
        have hxs : ∀ i, i < M → natS a2 i < 9223372036854775808 := fun i hi => by have := HXM.out i hi; have := HP.out i hi; unfold natS; omega
        have hbl := back_list (n := Lc + La) (by rw [← HLC.out]; omega) (by omega) hxs hagr
        obtain ⟨Ak, ck, v10, rfl, hl10, -, ho10, hb10⟩ := h10.ok (back_list_E (n := Lc + La) (by rw [← HLC.out]; omega) (by omega) hxs hagr)
        have hM3 := hbl.2.2 M (Nat.le_refl _)
        rw [hbl.2.1] at hl10 ho10 ⊢
        rw [hM3.2.1, ← HLC.out, show Lc + La - Lc = La by omega] at ho10
        have hl11 : SlG w10 w10.heap.size Ak M ck (iV a2) := hl10.congr fun i hi => by
          unfold iV
          dsimp only
          rw [hM3.2.2 i hi]
          congr 1
          have := HP.out i hi
          unfold natS
          omega
        have O10 := Lib.hid ho10
        have C10 := Lib.hid (onto C9.out hy9 hb10)
        have hy10 : w.heap.size ≤ w10.heap.size := by have := (hb10).size; omega
        have T10 := Lib.hid ((T9.out.below hb10).more (hb10).size)
        have L10 := Lib.hid ((L9.out.below hb10).more (hb10).size)
        have A10' := Lib.hid ((A9'.out.below hb10).more (hb10).size)
        have H6 := Lib.hid (ints_any M ck c2 Ak A2 a2 w10 hl11 L10.out (by omega))
        clear H5 h10 hb10 C9 T9 L9 A9' hagr hxs hbl hM3 hl10 hl11 ho10
        go_wp2_with fail
        refine H6.out.mono ?_
        rintro e w11 ⟨rfl, hb11⟩
        have B11 := Lib.hid (onto C10.out hy10 hb11)
        have k1 := conv_own (O10.out.below hb11 (Nat.le_refl _))
        have k2 := conv_sl (A10'.out.below hb11)
        rw [str_behind, ← HSA.out] at k1
        rw [← HSA.out] at k2
        clear H6 hb11 C10 T10 L10 A10' O10
        go_wp2_with fail
        go_ret
        exact ⟨rfl, B11.out⟩
    case' neg =>
      have hdT : decide ((n1 : Int) ≤ 4096) = true := by simp; omega
      have hE1 := encL_le n1
      have htx : txL n1 = encL n1 + n1 := rfl
      have H2 := Lib.hid (putt_nil n1 c1 A1 a1 y3 T3.out (by omega))
      go_wp2_with fail
      refine H2.out.mono ?_
      rintro e w6 ⟨v6, rfl, ho6, hb6⟩
      obtain ⟨Ab, cb, hvb, hsb, -, -⟩ := ho6.sl
      subst hvb
      have D4 := Lib.hid hsb
      have C4 := Lib.hid (onto C3.out hy3 hb6)
      have hy4 : w.heap.size ≤ w6.heap.size := by have := (hb6).size; omega
      have T4 := Lib.hid ((T3.out.below hb6).more (hb6).size)
      have L4 := Lib.hid ((L3.out.below hb6).more (hb6).size)
      have A4' := Lib.hid ((A3'.out.below hb6).more (hb6).size)
      clear H2 ho6 hb6 C3 T3 L3 A3' hsb
      obtain ⟨y4, rfl⟩ : ∃ y4 : World, y4 = w6 := ⟨_, rfl⟩
      have Fd0 := Lib.hid ((Below.refl y4.heap.size y4).alloc (Nat.le_refl _) (.cells #[] 5))
      have Od0 := Lib.hid (show Own (y4.alloc (.cells #[] 5)) y4.heap.size 5 (.slice (some ⟨y4.heap.size, 0, none⟩) 0 0) 0 nF from Own.empty y4 y4.heap.size 5 _ (Nat.le_refl _))
      have Xd0 := Lib.hid (D4.out.below Fd0.out)
      have hd0 : y4.heap.size ≤ (y4.alloc (.cells #[] 5)).heap.size := by simp
      go_wp2_with (at_builtin; first
        | (refine wpl_appB rfl (.tmp 71) (.tmp 72) rfl sli_u u8_info Od0.out Xd0.out (by omega) hd0 rfl rfl ?_
           intro vd1 wd1 hod1 hgd1 htd1
           rw [Nat.zero_add, catF_zero] at hod1
           have hd1 : y4.heap.size ≤ wd1.heap.size := by have := hgd1.size; omega
           have Fd1 := Lib.hid (Od0.out.after hgd1 Fd0.out hd0 (Nat.le_refl _))
           have Od1 := Lib.hid hod1
           have Xd1 := Lib.hid (A4'.out.below Fd1.out)
           clear hod1 hgd1 htd1)
        | (refine wpl_appB rfl (.tmp 73) (.tmp 74) rfl sli_u u8_info Od1.out Xd1.out (by omega) hd1 rfl rfl ?_; intro vd2 wd2 hod2 hgd2 htd2))
      have Fd2 := Lib.hid (Od1.out.after hgd2 Fd1.out hd1 (Nat.le_refl _))
      obtain ⟨Ad2, cd2, hvd2, hsd2, -, -⟩ := hod2.sl
      subst hvd2
      clear Fd0 Od0 Xd0 hd0 Fd1 Od1 Xd1 hod2 hgd2 htd2
      have H3 := Lib.hid (taket_any (txL n1 + La) cd2 (n1 : Int) Ad2 (catF (txL n1) (txF n1 a1) (encF n)) wd2 hsd2 (by omega))
      have C5 := Lib.hid (onto C4.out hy4 Fd2.out)
      have hy5 : w.heap.size ≤ wd2.heap.size := by have := (Fd2.out).size; omega
      have T5 := Lib.hid ((T4.out.below Fd2.out).more (Fd2.out).size)
      have L5 := Lib.hid ((L4.out.below Fd2.out).more (Fd2.out).size)
      have A5' := Lib.hid ((A4'.out.below Fd2.out).more (Fd2.out).size)
      clear Fd2 hsd2 C4 T4 L4 A4' D4
      go_wp2_with fail
      refine H3.out.mono ?_
      intro e w7 h7
      have hte := back_text n1 a1 (encF n) (La) (by omega)
      obtain ⟨u7, v7, rfl, hp7, ho7, hb7⟩ := h7.ok hte.1
      rw [hte.2.1, hte.2.2] at hp7
      rw [hte.2.1, hte.2.2, show txL n1 + La - encL n1 - n1 = La by omega, ← htx] at ho7
      have k1 := conv_own hp7
      rw [back_text_s, ← HSX.out] at k1
      have k2 := conv_own ho7
      rw [str_behind, ← HSA.out] at k2
      have C6 := Lib.hid (onto C5.out hy5 hb7)
      have hy6 : w.heap.size ≤ w7.heap.size := by have := (hb7).size; omega
      have T6 := Lib.hid ((T5.out.below hb7).more (hb7).size)
      have L6 := Lib.hid ((L5.out.below hb7).more (hb7).size)
      have A6' := Lib.hid ((A5'.out.below hb7).more (hb7).size)
      have k3 := conv_sl T6.out
      rw [← HSX.out] at k3
      have k4 := conv_sl A6'.out
      rw [← HSA.out] at k4
      clear H3 h7 hb7 C5 T5 L5 A5' hte ho7 hp7 hE1 htx
      go_wp2_with fail
      obtain ⟨y6, rfl⟩ : ∃ y6 : World, y6 = w7 := ⟨_, rfl⟩
      clear k1 k2 k3 k4
      have H4 := Lib.hid (putl_nil M c2 A2 a2 y6 L6.out HXM.out (by omega))
      go_wp2_with fail
      refine H4.out.mono ?_
      rintro e w8 (⟨_, rfl, hb8⟩ | ⟨hpos, v8, rfl, ho8, hb8⟩)
      case' inl =>
        have B8 := Lib.hid (onto C6.out hy6 hb8)
        clear H4 hb8 C6 T6 L6 A6'
        go_wp2_with fail
        go_ret
        exact ⟨rfl, B8.out⟩
      case' inr =>
        obtain ⟨Al, cl, hvl, hsl, -, -⟩ := ho8.sl
        subst hvl
        have hL9 := lsL_le (natS a2) M M
        obtain ⟨Lc, hLc⟩ : ∃ Lc, Lc = lsL (natS a2) M M := ⟨_, rfl⟩
        rw [← hLc] at hsl hL9 ⊢
        have HLC := Lib.hid hLc
        have HP := Lib.hid hpos
        have D8 := Lib.hid hsl
        have C8 := Lib.hid (onto C6.out hy6 hb8)
        have hy8 : w.heap.size ≤ w8.heap.size := by have := (hb8).size; omega
        have T8 := Lib.hid ((T6.out.below hb8).more (hb8).size)
        have L8 := Lib.hid ((L6.out.below hb8).more (hb8).size)
        have A8' := Lib.hid ((A6'.out.below hb8).more (hb8).size)
        clear H4 ho8 hb8 C6 T6 L6 A6' hsl hLc hpos
        obtain ⟨y8, rfl⟩ : ∃ y8 : World, y8 = w8 := ⟨_, rfl⟩
        have Ff0 := Lib.hid ((Below.refl y8.heap.size y8).alloc (Nat.le_refl _) (.cells #[] 5))
        have Of0 := Lib.hid (show Own (y8.alloc (.cells #[] 5)) y8.heap.size 5 (.slice (some ⟨y8.heap.size, 0, none⟩) 0 0) 0 nF from Own.empty y8 y8.heap.size 5 _ (Nat.le_refl _))
        have Xf0 := Lib.hid (D8.out.below Ff0.out)
        have hf0 : y8.heap.size ≤ (y8.alloc (.cells #[] 5)).heap.size := by simp
        go_wp2_with (at_builtin; first
          | (refine wpl_appB rfl (.tmp 123) (.tmp 124) rfl sli_u u8_info Of0.out Xf0.out (by omega) hf0 rfl rfl ?_
             intro vf1 wf1 hof1 hgf1 htf1
             rw [Nat.zero_add, catF_zero] at hof1
             have hf1 : y8.heap.size ≤ wf1.heap.size := by have := hgf1.size; omega
             have Ff1 := Lib.hid (Of0.out.after hgf1 Ff0.out hf0 (Nat.le_refl _))
             have Of1 := Lib.hid hof1
             have Xf1 := Lib.hid (A8'.out.below Ff1.out)
             clear hof1 hgf1 htf1)
          | (refine wpl_appB rfl (.tmp 125) (.tmp 126) rfl sli_u u8_info Of1.out Xf1.out (by omega) hf1 rfl rfl ?_; intro vf2 wf2 hof2 hgf2 htf2))
        have Ff2 := Lib.hid (Of1.out.after hgf2 Ff1.out hf1 (Nat.le_refl _))
        obtain ⟨Af2, cf2, hvf2, hsf2, -, -⟩ := hof2.sl
        subst hvf2
        clear Ff0 Of0 Xf0 hf0 Ff1 Of1 Xf1 hof2 hgf2 htf2
        have H5 := Lib.hid (takel_any (Lc + La) cf2 (M : Int) Af2 (catF Lc (lsF (natS a2) M M) (encF n)) wf2 hsf2 (by omega) (by omega))
        have C9 := Lib.hid (onto C8.out hy8 Ff2.out)
        have hy9 : w.heap.size ≤ wf2.heap.size := by have := (Ff2.out).size; omega
        have T9 := Lib.hid ((T8.out.below Ff2.out).more (Ff2.out).size)
        have L9 := Lib.hid ((L8.out.below Ff2.out).more (Ff2.out).size)
        have A9' := Lib.hid ((A8'.out.below Ff2.out).more (Ff2.out).size)
        clear Ff2 hsf2 C8 T8 L8 A8' D8
        go_wp2_with fail
        refine H5.out.mono ?_
        intro e w10 h10
        have hagr : ∀ i, i < lsL (natS a2) M M → catF Lc (lsF (natS a2) M M) (encF n) i = lsF (natS a2) M M i := fun i hi => by unfold catF; rw [if_pos (by rw [HLC.out]; exact hi)]
        have hxs : ∀ i, i < M → natS a2 i < 9223372036854775808 := fun i hi => by have := HXM.out i hi; have := HP.out i hi; unfold natS; omega
        have hbl := back_list (n := Lc + La) (by rw [← HLC.out]; omega) (by omega) hxs hagr
        obtain ⟨Ak, ck, v10, rfl, hl10, -, ho10, hb10⟩ := h10.ok (back_list_E (n := Lc + La) (by rw [← HLC.out]; omega) (by omega) hxs hagr)
        have hM3 := hbl.2.2 M (Nat.le_refl _)
        rw [hbl.2.1] at hl10 ho10 ⊢
        rw [hM3.2.1, ← HLC.out, show Lc + La - Lc = La by omega] at ho10
        have hl11 : SlG w10 w10.heap.size Ak M ck (iV a2) := hl10.congr fun i hi => by
          unfold iV
          dsimp only
          rw [hM3.2.2 i hi]
          congr 1
          have := HP.out i hi
          unfold natS
          omega
        have O10 := Lib.hid ho10
        have C10 := Lib.hid (onto C9.out hy9 hb10)
        have hy10 : w.heap.size ≤ w10.heap.size := by have := (hb10).size; omega
        have T10 := Lib.hid ((T9.out.below hb10).more (hb10).size)
        have L10 := Lib.hid ((L9.out.below hb10).more (hb10).size)
        have A10' := Lib.hid ((A9'.out.below hb10).more (hb10).size)
        have H6 := Lib.hid (ints_any M ck c2 Ak A2 a2 w10 hl11 L10.out (by omega))
        clear H5 h10 hb10 C9 T9 L9 A9' hagr hxs hbl hM3 hl10 hl11 ho10
        go_wp2_with fail
        refine H6.out.mono ?_
        rintro e w11 ⟨rfl, hb11⟩
        have B11 := Lib.hid (onto C10.out hy10 hb11)
        have k1 := conv_own (O10.out.below hb11 (Nat.le_refl _))
        have k2 := conv_sl (A10'.out.below hb11)
        rw [str_behind, ← HSA.out] at k1
        rw [← HSA.out] at k2
        clear H6 hb11 C10 T10 L10 A10' O10
        go_wp2_with fail
        go_ret
        exact ⟨rfl, B11.out⟩

set_option maxRecDepth 100000 in
theorem lifted (os : Os) (started : os.Started) (H : Type) (enc : TypeId × Value → H) :
    ReturnsInHanded {} Try.checked os 6 .any (Rows.packBackSpec.pre6 enc Try.prog Try.f6 Rows.packBackRow.domain false) (Rows.packBackSpec.post enc Try.prog Try.f6 false true false false) := by
  refine returnsInHanded_of_change_sized (C := Try.checked) own started (by kernel_rfl) Try.func6
    (ChangeSpec.witness6 (enc := enc) (C := Try.checked) false ⟨#[], #[.int .i64 0, .slice none 0 0, .slice none 0 0], []⟩ 8 (by kernel_rfl) (by kernel_rfl) (by kernel_rfl) (by kernel_rfl)) ?_
  intro W base args ds gs before hval0 hW hcnd hsz0 _
  have hval : ∀ (j : Nat) t v, Try.f6.params[j]? = some t → args[j]? = some v → Value.okWide Try.prog W .any base t v := hval0
  have hW' := hW
  obtain ⟨p, q, hA0, hV, rfl, hfz, hnd⟩ := hW
  have hA : DataW.TrodAll enc Try.prog W 0 (fun _ => true) true Try.f6.params.toList args.toList ds p := hA0
  rw [Try.params6] at hA hval
  have hsz : (DataW.weightsEach Try.prog (Try.f6.params.toList ++ Rows.packBackSpec.plain.varTypes Try.prog) (ds ++ gs)).all (· ≤ reachBytes) = true := hsz0
  rw [Try.params6] at hsz
  clear hsz0
  obtain ⟨v0, vs0, d0, ds0, p0, q0, hargs, rfl, rfl, h0, r0⟩ := trodAll_cons hA
  obtain ⟨v1, vs1, d1, ds1, p1, q1, rfl, rfl, rfl, h1, r1⟩ := trodAll_cons r0
  obtain ⟨v2, vs2, d2, ds2, p2, q2, rfl, rfl, rfl, h2, r2⟩ := trodAll_cons r1
  obtain ⟨rfl, rfl, rfl⟩ := trodAll_nil r2
  obtain rfl : args = #[v0, v1, v2] := by cases args; simp_all
  obtain ⟨rfl, rfl⟩ := trodVars_none hV
  obtain ⟨a0, rfl, rfl, rfl, w0⟩ := open_int Try.underlying3 (hval 0 3 v0 rfl rfl) h0
  have k1 := h1
  have lt1 : ∀ x ∈ p1, x.block < W.heap.size := by obtain ⟨m, hm⟩ := k1; exact DataW.trod_lt m _ _ _ hm
  obtain ⟨A1, n1, c1, a1, rfl, hs1, hm1⟩ := open_sl Try.underlying22 Try.underlying5 (by kernel_rfl) (hval 1 22 v1 rfl rfl) h1
  have hz1 : n1 ≤ 140737488351232 := by have := reach_sl Try.underlying22 k1 hsz (j := 1) rfl rfl; rw [show Try.prog.bytesOf 5 = 1 by kernel_rfl] at this; omega
  have k2 := h2
  have lt2 : ∀ x ∈ p2, x.block < W.heap.size := by obtain ⟨m, hm⟩ := k2; exact DataW.trod_lt m _ _ _ hm
  obtain ⟨A2, n2, c2, a2, rfl, hs2, hm2, hx2⟩ := open_ints Try.underlying34 Try.underlying3 (by kernel_rfl) (hval 2 34 v2 rfl rfl) h2
  clear hA0 hval0
  refine (walk a0 a1 n1 c1 A1 a2 n2 c2 A2 W w0 hs1 hm1 hz1 hs2 hm2 hx2).mono fun e W' ⟨he, bel⟩ => ?_
  subst he
  exact ⟨_, rfl, _, _, _, [], _, [], hW', trodAll_mk1 (shut_bool Try.underlying4 _), (trodAll_cons_mk (shut_int Try.underlying3 w0) (trodAll_cons_mk (Below.trod laidOut (by kernel_rfl) (of_decide_eq_true (by kernel_rfl)) k1 bel lt1) (trodAll_cons_mk (Below.trod laidOut (by kernel_rfl) (of_decide_eq_true (by kernel_rfl)) k2 bel lt2) trodAll_mk0))), rfl, bel.frame _, fun h => by cases h⟩

theorem over : Rows.packBackRow.holds Try.pinned (OpenSpec.ofChange Rows.packBackSpec) :=
  OpenClaim.holds_of_wide 6 Try.f6 rfl rfl rfl rfl rfl rfl rfl ⟨rfl, rfl, rfl, rfl, rfl⟩ rfl rfl rfl rfl rfl (by kernel_rfl) Try.func6 (by kernel_rfl)
    (of_decide_eq_true (by kernel_rfl)) (by unfold Func.isWrapper; first | (rw [if_pos (by decide +kernel)]; kernel_rfl) | (rw [if_neg (by decide +kernel)]; exact ⟨rfl, rfl⟩))
    (fun os started H enc _ => lifted os started H enc)

theorem proved : Rows.PackBackSaid := over
#print axioms proved
end Go.Proofs.Ytbdnokccipoibaa.packBack
