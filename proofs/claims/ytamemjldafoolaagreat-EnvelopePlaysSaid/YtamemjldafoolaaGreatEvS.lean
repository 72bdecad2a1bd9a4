/- What the statements of layer 14 share: few, kind, and the document's examples at their head. -/
import Derived.Test.YtamemjldafoolaaGreatEvF
import Derived.Test.YtamemjldafoolaaGreatEvEx
namespace Go.Proofs.YtamemjldafoolaaGreat.Oct
open Go.ChangeShapes Go.WideShapes Go.ChangeAt Go.RowKit
set_option linter.unusedVariables false

theorem few_any (A : Option Addr) (n c : Nat) (h : n ≤ c) (hc : c ≤ maxLen) (w : World) :
    Calls Tryz.prog 6 #[.slice A n c] w fun e w' => e = .returned (.slice A (min n 200) c) ∧ w = w' := by
  unfold maxLen at hc
  by_cases hlt : 200 < n
  · have hd : decide ((200 : Int) < (n : Int)) = true := by simp; omega
    have hup := run_upto sli_u u8_i A n c 200 (by omega)
    rw [show min n 200 = 200 by omega]
    go_enter Tryz.func6, Tryz.ntmps6
    go_wp2
    go_ret
    exact ⟨rfl, rfl⟩
  · have hd : decide ((200 : Int) < (n : Int)) = false := by simp; omega
    rw [show min n 200 = n by omega]
    go_enter Tryz.func6, Tryz.ntmps6
    go_wp2
    go_ret
    exact ⟨rfl, rfl⟩
@[go_sem] theorem one_lit : (ba 32 fun _ => 0#8).setIfInBounds 0 (.int .u8 1) = ba 32 mO := ba_set 32 (fun _ => 0#8) 0 1#8
theorem lit_x : strOf 1 xO = ⟨#[120]⟩ := by unfold strOf; decide +kernel
theorem lit_xs {f : Bf} (h : ∀ i, i < 1 → f i = xO i) : strOf 1 f = ⟨#[120]⟩ := by rw [str_congr h]; exact lit_x

set_option maxRecDepth 20000 in
set_option maxHeartbeats 4000000 in
theorem shown_any (w : World) :
    Calls Tryz.prog 4 #[] w fun e w' => e = .returned (.bool true) ∧ Below w.heap.size w w' := by
  go_enter Tryz.func4, Tryz.ntmps4
  go_wp2_with fail
  refine (wnew_any w).mono ?_
  rintro e w1 ⟨B, rfl, hk1, hB, hb1⟩
  have B1 := Lib.hid hb1
  have HB := Lib.hid hB
  clear hb1 hB
  go_wp2_with fail
  refine (wcr_any B [] mO w1 hk1).mono ?_
  rintro e w2 ⟨rfl, hk2, hc2⟩
  obtain ⟨c1, c2, c3⟩ := cr1 mO
  rw [c1] at hk2
  rw [c2, c3]
  have K2 := Lib.hid hk2
  have B2 := Lib.hid (hc2.on B1.out HB.out (Nat.le_refl _))
  clear hk1 hk2 hc2 c1 c2 c3 B1
  go_wp2_with fail
  -- encrypted
  obtain ⟨w3, hw3⟩ : ∃ w3, w3 = w2.alloc (.cells #[.int .u8 120] 5 (1, 2)) := ⟨_, rfl⟩
  have b3 : Below w2.heap.size w2 w3 := by rw [hw3]; exact (Below.refl _ _).alloc (Nat.le_refl _) _
  have T3 : Sl w3 w3.heap.size (some ⟨w2.heap.size, 0, none⟩) 1 1 xO := by rw [hw3]; exact Sl.lit w2 (show (#[.int .u8 (I 120#8)] : Array Value) = ba 1 xO from ba_1 _) _ _ _ (by simp)
  have K3 := K2.out.below b3
  have hBl := K2.out.lt
  have B3 := onto B2.out B2.out.size b3
  rw [← hw3]
  refine (pen_any B (ks1 mO 0) 1 xO 1 1 _ nF 0 0 none w3 K3 T3 (Off.at (by omega) rfl) (Sl.nothing _ _ _ _ _) Off.nil).mono ?_
  obtain ⟨e1, e2, e3, e4, e5⟩ := en1 mO 0 1 0 (by omega) (by omega) (by omega)
  rintro e w4 ⟨v, rfl, ho, hk4, hc4⟩
  rw [e1, e2]
  rw [e3] at hk4
  rw [e4, e5] at ho
  obtain ⟨A4, c4, rfl, h4, -, -⟩ := ho.sl
  obtain ⟨F, hF⟩ : ∃ F, F = blF 1 1 (nonC 0) (sealF mO (nonC 0) nF 0 xO 1) := ⟨_, rfl⟩
  rw [show blL 1 1 (1 + 16) = 33 from rfl] at h4 ho ⊢
  rw [← hF] at h4
  have S4 := Lib.hid h4
  have HO4 := Lib.hid (Off.own ho (show B < w3.heap.size by have := b3.size; omega))
  have K4 := Lib.hid hk4
  have B4 := Lib.hid (hc4.on B3 HB.out (Nat.le_refl _))
  have HF := Lib.hid hF
  clear hw3 b3 T3 K3 hBl B3 e1 e2 e3 e4 e5 ho h4 hk4 hc4 K2 B2 hF
  go_wp2_with fail
  -- decrypted
  refine (pdc_any B (ks1 mO 1) F 33 c4 A4 nF 0 0 none w4 K4.out S4.out (by omega) (Sl.nothing _ _ _ _ _)).mono ?_
  obtain ⟨e1, e2, e3, e4⟩ := dc1 mO 1 1 0 (nonC 0) xO nF (by omega) (by omega)
  rw [show blL 1 1 (1 + 16) = 33 from rfl, ← HF.out] at e1 e2 e3 e4
  rintro e w5 ⟨v, rfl, ho, hb5⟩
  rw [e1]
  rw [e3] at ho
  obtain ⟨A5, c5, rfl, h5, -, -⟩ := ho.sl
  have T5 := Lib.hid (h5.congr e4)
  have HO5 := Lib.hid (Off.own ho K4.out.lt)
  have S5 := Lib.hid ((S4.out.below hb5).more hb5.size)
  have K5 := Lib.hid (K4.out.below hb5)
  have B5 := Lib.hid (onto B4.out B4.out.size hb5)
  clear e1 e2 e3 e4 ho h5 hb5 S4 K4 B4
  go_wp2_with fail
  -- forged
  obtain ⟨w6, hw6⟩ : ∃ w6, w6 = w5.alloc (.cells #[.int .u8 121] 5 (1, 2)) := ⟨_, rfl⟩
  have b6 : Below w5.heap.size w5 w6 := by rw [hw6]; exact (Below.refl _ _).alloc (Nat.le_refl _) _
  have Y6 : Sl w6 w6.heap.size (some ⟨w5.heap.size, 0, none⟩) 1 1 yO := by rw [hw6]; exact Sl.lit w5 (show (#[.int .u8 (I 121#8)] : Array Value) = ba 1 yO from ba_1 _) _ _ _ (by simp)
  rw [← hw6]
  refine (pdc_any B (ks1 mO 1) F 33 c4 A4 yO 1 1 _ w6 (K5.out.below b6) ((S5.out.below b6).more b6.size) (by omega) Y6).mono ?_
  have e1 : dcE (ks1 mO 1) 33 F yO 1 = 40 := by
    rw [show (33 : Nat) = blL 1 1 17 from rfl, HF.out, dc_gen (by omega) (by omega) (by omega) (by omega) (by omega) (by omega) (by omega), if_pos (mt1 mO 1).1, (mt1 mO 1).2]
    exact ex_forged
  have e2 : dcL (ks1 mO 1) 33 F yO 1 = 0 := dcL_no (by rw [e1]; decide)
  rintro e w7 ⟨v, rfl, ho, hb7⟩
  rw [e1]
  have b7 := onto b6 b6.size hb7
  have T7 := Lib.hid ((T5.out.below b7).more b7.size)
  have K7 := Lib.hid (K5.out.below b7)
  have B7 := Lib.hid (onto B5.out B5.out.size b7)
  clear e1 e2 ho hw6 b6 Y6 hb7 b7 T5 S5 K5 B5 HF
  go_wp2_with fail
  -- nothing
  refine (pdc_any B (ks1 mO 1) nF 0 0 none nF 0 0 none w7 K7.out (Sl.nothing _ _ _ _ _) (by omega) (Sl.nothing _ _ _ _ _)).mono ?_
  rintro e w8 ⟨v, rfl, ho, hb8⟩
  rw [dc_none _ _ _ _ (by omega)]
  have T8 := Lib.hid ((T7.out.below hb8).more hb8.size)
  have K8 := Lib.hid (K7.out.below hb8)
  have B8 := Lib.hid (onto B7.out B7.out.size hb8)
  clear ho hb8 T7 K7 B7
  go_wp2_with fail
  -- no key
  refine (pen_any B (ks1 mO 1) 2 nF 0 0 none nF 0 0 none w8 K8.out (Sl.nothing _ _ _ _ _) Off.nil (Sl.nothing _ _ _ _ _) Off.nil).mono ?_
  obtain ⟨e1, e2, e3, e4⟩ := en1_no mO 1 0 0 (by omega) (by omega)
  rintro e w9 ⟨v, rfl, ho, hk9, hc9⟩
  rw [e1, e2]
  rw [e3] at hk9
  have T9 := Lib.hid (hc9.sl_up T8.out HO5.out)
  have K9 := Lib.hid hk9
  have B9 := Lib.hid (hc9.on B8.out HB.out (Nat.le_refl _))
  clear e1 e2 e3 e4 ho hk9 hc9 T8 K8 B8
  have hmk : ∀ w : World, (Instr.makeSlice 33 (.int .i64 65) (.int .i64 65)).run Tryz.prog w = .ok (.slice (some ⟨w.heap.size, 0, none⟩) 65 65) (w.alloc (.cells (ba 65 fun _ => 0#8) 5)) := fun w => mk_sl 65 (by omega) w
  go_wp2_with fail
  clear hmk
  -- too long
  obtain ⟨w10, hw10⟩ : ∃ w10, w10 = w9.alloc (.cells (ba 65 fun _ => 0#8) 5) := ⟨_, rfl⟩
  have b10 : Below w9.heap.size w9 w10 := by rw [hw10]; exact (Below.refl _ _).alloc (Nat.le_refl _) _
  have Y10 : Sl w10 w10.heap.size (some ⟨w9.heap.size, 0, none⟩) 65 65 (fun _ => 0#8) := by rw [hw10]; exact Sl.of_row (row_alloc_at _ _ _ _ rfl) _ (by simp)
  have hBl := K9.out.lt
  rw [← hw10]
  refine (pen_any B (ks1 mO 1) 1 _ 65 65 _ nF 0 0 none w10 (K9.out.below b10) Y10 (Off.at (by omega) rfl) (Sl.nothing _ _ _ _ _) Off.nil).mono ?_
  obtain ⟨e1, e2, e3, e4⟩ := en_long (K := ks1 mO 1) (id := 1) (L := 65) (S := 0) (by omega)
  rintro e w11 ⟨v, rfl, ho, hk11, hc11⟩
  rw [e1, e2]
  have T11 := hc11.sl_up ((T9.out.below b10).more b10.size) HO5.out
  have B11 := Lib.hid (hc11.on (onto B9.out B9.out.size b10) HB.out (Nat.le_refl _))
  have s11 := run_str (P := Tryz.prog) sli_u u8_u str_u T11
  rw [lit_x] at s11
  clear e1 e2 e3 e4 ho hk11 hc11 hw10 b10 Y10 hBl T9 K9 B9 T11
  go_wp2_with fail
  go_ret
  exact ⟨rfl, B11.out⟩
end Go.Proofs.YtamemjldafoolaaGreat.Oct
