/- The statement EnvelopeBack: the law strongroomlaw14.EnvelopeBack answers true for every input, and leaves its arguments as they were. No further condition. -/
import Derived.Test.YtamemjldafoolaaRows
import Derived.Test.YtamemjldafoolaaLib
import Derived.Test.YtamemjldafoolaaEvS
import Derived.Test.YtamemjldafoolaaEvR
import Derived.Test.YtamemjldafoolaaOpKey
namespace Go.Proofs.Ytamemjldafoolaa.envelopeBack
open Go.ChangeShapes Go.WideShapes Go.ChangeAt Go.RowKit
open Go.Proofs.Ytamemjldafoolaa.Oct
set_option linter.unusedVariables false

theorem own : ownKnob Try.prog.godebug = none := by kernel_rfl
theorem laidOut : laidOutB Try.prog = true := by kernel_rfl

theorem nonC_zero : nonC 0 = fun _ => 0#8 := by
  funext i
  unfold nonC catF beN
  by_cases h : i < 4
  · rw [if_pos h]
  · rw [if_neg h]; simp
/-- the versions on the way -/
def vsR (f : Nat → Nat → BitVec 8) (i : Nat) : List Ve := (List.range i).map fun k => ⟨f k, ((1 : Nat) : Int), false⟩
theorem vsR_len (f : Nat → Nat → BitVec 8) (i : Nat) : (vsR f i).length = i := by unfold vsR; simp
theorem vsR_succ (f : Nat → Nat → BitVec 8) (i : Nat) : vsR f (i + 1) = vsR f i ++ [⟨f i, ((1 : Nat) : Int), false⟩] := by unfold vsR; rw [List.range_succ]; simp
theorem vsR_at (f : Nat → Nat → BitVec 8) (i k : Nat) (h : k < (vsR f i).length) : (vsR f i)[k] = ⟨f k, ((1 : Nat) : Int), false⟩ := by unfold vsR; simp
theorem vsR_one (f : Nat → Nat → BitVec 8) : ks1 (f 0) 1 = ksL (vsR f 1) := rfl
set_option maxRecDepth 20000 in
set_option maxHeartbeats 8000000 in
theorem walk (n0 c0 : Nat) (A0 : Option Addr) (f0 : Nat → Nat → BitVec 8) (a1 : Nat → BitVec 8) (n1 c1 : Nat) (A1 : Option Addr) (a2 : Nat → BitVec 8) (n2 c2 : Nat) (A2 : Option Addr) (w : World) (hl0 : ArSl w w.heap.size 32 A0 n0 c0 f0) (hs1 : Sl w w.heap.size A1 n1 c1 a1) (hm1 : c1 ≤ maxLen) (hs2 : Sl w w.heap.size A2 n2 c2 a2) (hm2 : c2 ≤ maxLen) :
    Calls Try.prog 4 #[.slice A0 n0 c0, .slice A1 n1 c1, .slice A2 n2 c2] w fun e w' => e = .returned (.bool true) ∧ Below w.heap.size w w' := by
  have HL := Lib.hid hl0
  have HS1 := Lib.hid hs1
  have HS2 := Lib.hid hs2
  clear hl0 hs1 hs2
  go_enter Try.func4, Try.ntmps4
  go_wp2_with fail
  refine (shown_any w).mono ?_
  rintro e w1 ⟨rfl, hb1⟩
  have B1 := Lib.hid hb1
  clear hb1
  go_wp2_with fail
  refine (wnew_any w1).mono ?_
  rintro e w2 ⟨B, rfl, hk2, hB, hb2⟩
  have HBw := Lib.hid (show w.heap.size ≤ B by have := B1.out.size; omega)
  have K2 := Lib.hid hk2
  have B2 := Lib.hid (onto B1.out B1.out.size hb2)
  clear hk2 hB hb2 B1
  by_cases h0 : n0 = 0
  · have hd : ((n0 : Int) == 0) = true := by simpa using h0
    clear h0
    go_wp2_with fail
    go_ret
    exact ⟨rfl, B2.out⟩
  have hd0 : ((n0 : Int) == 0) = false := by simpa using h0
  by_cases hlong : 64 < n1
  · have hd : decide ((64 : Int) < (n1 : Int)) = true := by simp; omega
    clear h0 hlong
    go_wp2_with fail
    go_ret
    exact ⟨rfl, B2.out⟩
  have hd1 : decide ((64 : Int) < (n1 : Int)) = false := by simp; omega
  by_cases hlong2 : 32 < n2
  · have hd : decide ((32 : Int) < (n2 : Int)) = true := by simp; omega
    clear h0 hlong hlong2
    go_wp2_with fail
    go_ret
    exact ⟨rfl, B2.out⟩
  have hd2 : decide ((32 : Int) < (n2 : Int)) = false := by simp; omega
  have hn64 : n1 ≤ 64 := by omega
  have hn32 : n2 ≤ 32 := by omega
  have hn0 : 0 < n0 := by omega
  obtain ⟨g, o, rfl, hg, hcell⟩ := HL.out.at_ hn0
  have hle := HL.out.le
  have hmx := HL.out.big
  have HKEY := Lib.hid (show ∀ i, i < n0 → ∀ y : World, Below w.heap.size w y → ldR Try.prog 39 32 y g (o + i * 32) (row y g) = .ok (.agg (ba 32 (f0 i))) y from fun i hi y hy =>
    ldR_cells _ 32 _ key_u 32 key_i y g (o + i * 32) (f0 i) fun j hj => (hy.cell (p := ⟨g, o + i * 32 + j, none⟩) hg).trans (hcell i j hi hj))
  clear h0 hlong hlong2 hcell HL
  have hk0 := HKEY.out 0 hn0 w2 B2.out
  rw [show o + 0 * 32 = o by omega] at hk0
  go_wp2_with fail
  clear hk0
  obtain ⟨m, hm⟩ : ∃ m, m = f0 0 := ⟨_, rfl⟩
  rw [← hm]
  have HM := Lib.hid hm
  clear hm
  refine (wcr_any B [] m w2 K2.out).mono ?_
  rintro e w3 ⟨rfl, hk3, hc3⟩
  obtain ⟨c1', c2', c3'⟩ := cr1 m
  rw [c1'] at hk3
  rw [c2', c3']
  have K3 := Lib.hid hk3
  have B3 := Lib.hid (hc3.on B2.out HBw.out (Nat.le_refl _))
  clear hk3 hc3 c1' c2' c3' K2 B2
  have HT1 := Lib.hid (fun x (hb : Below w.heap.size w x) => (HS1.out.below hb).more hb.size)
  have HT2 := Lib.hid (fun x (hb : Below w.heap.size w x) => (HS2.out.below hb).more hb.size)
  have HO1 := Lib.hid (HS1.out.off HBw.out)
  have HO2 := Lib.hid (HS2.out.off HBw.out)
  go_wp2_with fail
  -- encrypted
  refine (pen_any B (ks1 m 0) 1 a1 n1 c1 A1 a2 n2 c2 A2 w3 K3.out (HT1.out _ B3.out) HO1.out (HT2.out _ B3.out) HO2.out).mono ?_
  obtain ⟨e1, e2, e3, e4, e5⟩ := en1 m 0 n1 n2 (by omega) hn64 hn32
  rintro e w4 ⟨v, rfl, ho, hk4, hc4⟩
  rw [e1, e2]
  rw [e3] at hk4
  rw [e4, e5] at ho
  obtain ⟨A4, c4, rfl, h4, -, -⟩ := ho.sl
  obtain ⟨F, hF⟩ : ∃ F, F = blF 1 1 (nonC 0) (sealF m (nonC 0) a2 n2 a1 n1) := ⟨_, rfl⟩
  obtain ⟨X, hX⟩ : ∃ F, F = blL 1 1 (n1 + 16) := ⟨_, rfl⟩
  have hXb : X ≤ 1000 := by rw [hX]; unfold blL; have := hdL_le 1 1; omega
  have HOA := Lib.hid (Off.own ho (show B < w3.heap.size from K3.out.lt))
  rw [← hX, ← hF] at h4
  rw [← hX] at HOA ⊢
  have S4 := Lib.hid h4
  have K4 := Lib.hid (show KpW w4 B (ksL (vsR f0 1)) by rw [← vsR_one, ← HM.out]; exact hk4)
  have B4 := Lib.hid (hc4.on B3.out HBw.out (Nat.le_refl _))
  have HF := Lib.hid hF
  have HX := Lib.hid hX
  clear e1 e2 e3 e4 e5 ho h4 hk4 hc4 hF hX K3 B3
  have hk0 := HKEY.out 0 hn0 w4 B4.out
  rw [show o + 0 * 32 = o by omega, ← HM.out] at hk0
  go_wp2_with fail
  clear hk0
  -- by gcm
  refine (gseal_any m (fun _ => 0#8) a2 n2 c2 A2 a1 n1 c1 A1 w4 (HT2.out _ B4.out) (HT1.out _ B4.out) (by omega) (by omega)).mono ?_
  rintro e w5 ⟨v5, rfl, ho, hb5⟩
  obtain ⟨A5, c5, rfl, h5, -, -⟩ := ho.sl
  have S5 := Lib.hid h5
  have T5 := Lib.hid ((S4.out.below hb5).more hb5.size)
  have K5 := Lib.hid (K4.out.below hb5)
  have B5 := Lib.hid (onto B4.out B4.out.size hb5)
  clear ho h5 hb5 S4 K4 B4
  go_wp2_with fail
  refine (rbl_any 1 1 (fun _ => 0#8) _ (n1 + 16) c5 A5 w5 (by omega) (by omega) S5.out (by omega)).mono ?_
  rintro e w6 ⟨v6, rfl, ho, hb6⟩
  obtain ⟨A6, c6, rfl, h6, -, -⟩ := ho.sl
  rw [← HX.out, ← nonC_zero, ← HF.out] at h6
  rw [← HX.out]
  have T6 := Lib.hid ((T5.out.below hb6).more hb6.size)
  have K6 := Lib.hid (K5.out.below hb6)
  have B6 := Lib.hid (onto B5.out B5.out.size hb6)
  obtain ⟨ST, hST⟩ : ∃ S, S = Oct.strOf X F := ⟨_, rfl⟩
  have s1 := run_str (P := Try.prog) sli_u u8_u str_u h6
  have s2 := run_str (P := Try.prog) sli_u u8_u str_u T6.out
  rw [← hST] at s1 s2
  clear ho h6 hb6 T5 K5 B5 S5 hST
  go_wp2_with fail
  clear s1 s2
  obtain ⟨SX, hSX⟩ : ∃ S, S = Oct.strOf n1 a1 := ⟨_, rfl⟩
  have HSX := Lib.hid hSX
  clear hSX
  go_loopw [15] (fun iv wr => ∃ i : Nat, 1 ≤ i ∧ i ≤ 4 ∧ iv = .int .i64 i ∧ KpW wr B (ksL (vsR f0 i)) ∧ Below w.heap.size w wr ∧ Sl wr wr.heap.size A4 X c4 F) (fun iv _ => 4 - (intOf iv).toNat)
  case atStart => exact ⟨1, by omega, by omega, rfl, K6.out, B6.out, T6.out⟩
  case round =>
    clear K6 B6 T6
    obtain ⟨i, hi1, hi4, rfl, hk, hb, hs⟩ := hrel
    obtain ⟨w7, rfl⟩ : ∃ w7 : World, w7 = wr := ⟨_, rfl⟩
    have K7 := Lib.hid hk
    have B7 := Lib.hid hb
    have T7 := Lib.hid hs
    clear hk hb hs
    by_cases hlt : i < n0 ∧ i < 4
    · have hd1 : decide ((i : Int) < (n0 : Int)) = true := by simp; omega
      have hd2 : decide ((i : Int) < 4) = true := by simp; omega
      have hin : i < n0 := hlt.1
      have hi3 : i < 4 := hlt.2
      have hk0 := HKEY.out i hin w7 B7.out
      clear hlt
      go_wp2_with fail
      clear hk0
      refine (wrt_any B (ksL (vsR f0 i)) 1 (f0 i) w7 K7.out).mono ?_
      obtain ⟨r1, r2, r3⟩ := rtL (l := vsR f0 i) (m := f0 i) (by rw [vsR_len]; omega)
      rintro e w8 ⟨rfl, hk8, hc8⟩
      rw [r1, r2, vsR_len]
      rw [r3] at hk8
      have K8 := Lib.hid (show KpW w8 B (ksL (vsR f0 i ++ [⟨f0 i, ((0 : Nat) : Int), false⟩])) from hk8)
      have B8 := Lib.hid (hc8.on B7.out HBw.out (Nat.le_refl _))
      have T8 := Lib.hid (hc8.sl_up T7.out HOA.out)
      clear r1 r2 r3 hk8 hc8 K7 B7 T7
      go_wp2_with fail
      -- wrapped anew
      refine (prw_any B _ F X c4 A4 a2 n2 c2 A2 w8 K8.out T8.out (by omega) (HT2.out _ B8.out) HO2.out).mono ?_
      have hlen : (vsR f0 i ++ [(⟨f0 i, ((0 : Nat) : Int), false⟩ : Ve)]).length = i + 1 := by rw [List.length_append, vsR_len]; rfl
      have hget : (vsR f0 i ++ [(⟨f0 i, ((0 : Nat) : Int), false⟩ : Ve)])[0]'(by rw [hlen]; omega) = ⟨f0 0, ((1 : Nat) : Int), false⟩ := by
        rw [List.getElem_append_left (by rw [vsR_len]; omega)]; exact vsR_at f0 i 0 _
      obtain ⟨d1, d2, d3, d4⟩ := dcG (vsR f0 i ++ [⟨f0 i, ((0 : Nat) : Int), false⟩]) 0 n1 n2 (nonC 0) a1 a2 m (by rw [hlen]; omega) (by omega) (by rw [hget]) (by rw [hget, HM.out]) hn64 hn32
      rw [Nat.zero_add, ← HX.out, ← HF.out] at d1 d2 d3 d4
      obtain ⟨p1, p2, p3, p4⟩ := rw_ok d1
      rw [d2, d3] at p1 p2 p3 p4
      obtain ⟨e1, e2, e3, e4, e5⟩ := enG (vsR f0 i) (f0 i) 0 n1 n2 (by omega) hn64 hn32
      rw [vsR_len] at e2 e4 e5
      rw [Nat.zero_add, ← vsR_succ] at e3
      rintro e w9 ⟨v9, rfl, ho, hk9, hc9⟩
      obtain ⟨t', ht'⟩ : ∃ t', t' = dcF (ksL (vsR f0 i ++ [⟨f0 i, ((0 : Nat) : Int), false⟩])) X F := ⟨_, rfl⟩
      rw [← ht'] at d4
      rw [show rwF (ksL (vsR f0 i ++ [⟨f0 i, ((0 : Nat) : Int), false⟩])) X F a2 n2 = blF 1 (i + 1) (nonC 0) (sealF (f0 i) (nonC 0) a2 n2 t' n1) by unfold rwF; rw [d2, d3, e5, ht'], p4, e4] at ho
      rw [p3, e3] at hk9
      rw [p1, p2, e1, e2]
      obtain ⟨A9, c9, rfl, h9, -, -⟩ := ho.sl
      obtain ⟨F2, hF2⟩ : ∃ F, F = blF 1 (i + 1) (nonC 0) (sealF (f0 i) (nonC 0) a2 n2 t' n1) := ⟨_, rfl⟩
      obtain ⟨X2, hX2⟩ : ∃ F, F = blL 1 (i + 1) (n1 + 16) := ⟨_, rfl⟩
      have hXb2 : X2 ≤ 1000 := by rw [hX2]; unfold blL; have := hdL_le 1 (i + 1); omega
      rw [← hX2, ← hF2] at h9
      rw [← hX2]
      have S9 := Lib.hid h9
      have K9 := Lib.hid hk9
      have B9 := Lib.hid (hc9.on B8.out HBw.out (Nat.le_refl _))
      have T9 := Lib.hid (hc9.sl_up T8.out HOA.out)
      have HF2 := Lib.hid hF2
      have HX2 := Lib.hid hX2
      have D4 := Lib.hid d4
      clear hlen hget d1 d2 d3 d4 p1 p2 p3 p4 e1 e2 e3 e4 e5 ho h9 hk9 hc9 ht' hF2 hX2 K8 B8 T8
      go_wp2_with fail
      -- what was wrapped anew
      refine (pdc_any B _ F2 X2 c9 A9 a2 n2 c2 A2 w9 K9.out S9.out (by omega) (HT2.out _ B9.out)).mono ?_
      obtain ⟨d1, -, d3, d4⟩ := dcG (vsR f0 (i + 1)) i n1 n2 (nonC 0) t' a2 (f0 i) (by rw [vsR_len]; omega) (by omega) (by rw [vsR_at]) (by rw [vsR_at]) hn64 hn32
      rw [← HX2.out, ← HF2.out] at d1 d3 d4
      rintro e w10 ⟨v10, rfl, ho, hb10⟩
      rw [d1]
      rw [d3] at ho
      obtain ⟨A10, c10, rfl, h10, -, -⟩ := ho.sl
      have U10 := Lib.hid (h10.congr fun k hk => (d4 k hk).trans (D4.out k hk))
      have T10 := Lib.hid ((T9.out.below hb10).more hb10.size)
      have K10 := Lib.hid (K9.out.below hb10)
      have B10 := Lib.hid (onto B9.out B9.out.size hb10)
      clear d1 d3 d4 ho h10 hb10 K9 B9 T9 S9 HF2 HX2 D4
      go_wp2_with fail
      -- what was there
      refine (pdc_any B _ F X c4 A4 a2 n2 c2 A2 w10 K10.out T10.out (by omega) (HT2.out _ B10.out)).mono ?_
      obtain ⟨d1, -, d3, d4⟩ := dcG (vsR f0 (i + 1)) 0 n1 n2 (nonC 0) a1 a2 m (by rw [vsR_len]; omega) (by omega) (by rw [vsR_at]) (by rw [vsR_at, HM.out]) hn64 hn32
      rw [Nat.zero_add, ← HX.out, ← HF.out] at d1 d3 d4
      rintro e w11 ⟨v11, rfl, ho, hb11⟩
      rw [d1]
      rw [d3] at ho
      obtain ⟨A11, c11, rfl, h11, -, -⟩ := ho.sl
      have U11 := h11.congr d4
      have V11 := (U10.out.below hb11).more hb11.size
      have T11 := Lib.hid ((T10.out.below hb11).more hb11.size)
      have K11 := Lib.hid (K10.out.below hb11)
      have B11 := Lib.hid (onto B10.out B10.out.size hb11)
      have s1 := run_str (P := Try.prog) sli_u u8_u str_u U11
      have s2 := run_str (P := Try.prog) sli_u u8_u str_u V11
      have s3 := run_str (P := Try.prog) sli_u u8_u str_u (HT1.out _ B11.out)
      rw [← HSX.out] at s1 s2 s3
      clear d1 d3 d4 ho h11 hb11 K10 B10 T10 U10 U11 V11
      go_wp2_with fail
      clear s1 s2 s3
      go_roundw
      case rel => exact ⟨i + 1, by omega, by omega, rfl, K11.out, B11.out, T11.out⟩
      case measure => simp [intOf]; omega
    · have hcase : decide ((i : Int) < (n0 : Int)) = false ∨ decide ((i : Int) < (n0 : Int)) = true ∧ decide ((i : Int) < 4) = false := by simp; omega
      clear hlt
      rcases hcase with hd1 | ⟨hd1, hd2⟩
      · have hd1' : decide (i < n0) = false := by simpa using hd1
        go_wp2_with fail
        refine (pdc_any B _ F X c4 A4 a2 n2 c2 A2 w7 K7.out T7.out (by omega) (HT2.out _ B7.out)).mono ?_
        obtain ⟨d1, -, d3, d4⟩ := dcG (vsR f0 i) 0 n1 n2 (nonC 0) a1 a2 m (by rw [vsR_len]; omega) (by omega) (by rw [vsR_at]) (by rw [vsR_at, HM.out]) hn64 hn32
        rw [Nat.zero_add, ← HX.out, ← HF.out] at d1 d3 d4
        rintro e w11 ⟨v11, rfl, ho, hb11⟩
        rw [d1]
        rw [d3] at ho
        obtain ⟨A11, c11, rfl, h11, -, -⟩ := ho.sl
        have U11 := h11.congr d4
        have B11 := Lib.hid (onto B7.out B7.out.size hb11)
        have s1 := run_str (P := Try.prog) sli_u u8_u str_u U11
        have s3 := run_str (P := Try.prog) sli_u u8_u str_u (HT1.out _ B11.out)
        rw [← HSX.out] at s1 s3
        clear d1 d3 d4 ho h11 hb11 U11
        go_wp2_with fail
        go_ret
        exact ⟨rfl, B11.out⟩
      · obtain rfl : i = 4 := by simp at hd2; omega
        clear hd2
        have hd2 : decide (((4 : Nat) : Int) < 4) = false := by decide
        have hd1' : decide (4 < n0) = true := by simp at hd1; simp; omega
        have hd3 : decide ((4 : Int) < (n0 : Int)) = true := by simp at hd1'; simp; omega
        go_wp2_with fail
        refine (pdc_any B _ F X c4 A4 a2 n2 c2 A2 w7 K7.out T7.out (by omega) (HT2.out _ B7.out)).mono ?_
        obtain ⟨d1, -, d3, d4⟩ := dcG (vsR f0 4) 0 n1 n2 (nonC 0) a1 a2 m (by rw [vsR_len]; omega) (by omega) (by rw [vsR_at]) (by rw [vsR_at, HM.out]) hn64 hn32
        rw [Nat.zero_add, ← HX.out, ← HF.out] at d1 d3 d4
        rintro e w11 ⟨v11, rfl, ho, hb11⟩
        rw [d1]
        rw [d3] at ho
        obtain ⟨A11, c11, rfl, h11, -, -⟩ := ho.sl
        have U11 := h11.congr d4
        have B11 := Lib.hid (onto B7.out B7.out.size hb11)
        have s1 := run_str (P := Try.prog) sli_u u8_u str_u U11
        have s3 := run_str (P := Try.prog) sli_u u8_u str_u (HT1.out _ B11.out)
        rw [← HSX.out] at s1 s3
        clear d1 d3 d4 ho h11 hb11 U11
        go_wp2_with fail
        go_ret
        exact ⟨rfl, B11.out⟩

set_option maxRecDepth 100000 in
theorem lifted (os : Os) (started : os.Started) (H : Type) (enc : TypeId × Value → H) :
    ReturnsInHanded {} Try.checked os 4 .any (Rows.envelopeBackSpec.pre6 enc Try.prog Try.f4 Rows.envelopeBackRow.domain false) (Rows.envelopeBackSpec.post enc Try.prog Try.f4 false true false false) := by
  refine returnsInHanded_of_change (C := Try.checked) own started (by kernel_rfl) Try.func4
    (ChangeSpec.witness6 (enc := enc) (C := Try.checked) false ⟨#[], #[.slice none 0 0, .slice none 0 0, .slice none 0 0], []⟩ 8 (by kernel_rfl) (by kernel_rfl) (by kernel_rfl) (by kernel_rfl)) ?_
  intro W base args ds gs before hval0 hW hcnd _
  have hval : ∀ (j : Nat) t v, Try.f4.params[j]? = some t → args[j]? = some v → Value.okWide Try.prog W .any base t v := hval0
  have hW' := hW
  obtain ⟨p, q, hA0, hV, rfl, hfz, hnd⟩ := hW
  have hA : DataW.TrodAll enc Try.prog W 0 (fun _ => true) true Try.f4.params.toList args.toList ds p := hA0
  rw [Try.params4] at hA hval
  obtain ⟨v0, vs0, d0, ds0, p0, q0, hargs, rfl, rfl, h0, r0⟩ := trodAll_cons hA
  obtain ⟨v1, vs1, d1, ds1, p1, q1, rfl, rfl, rfl, h1, r1⟩ := trodAll_cons r0
  obtain ⟨v2, vs2, d2, ds2, p2, q2, rfl, rfl, rfl, h2, r2⟩ := trodAll_cons r1
  obtain ⟨rfl, rfl, rfl⟩ := trodAll_nil r2
  obtain rfl : args = #[v0, v1, v2] := by cases args; simp_all
  obtain ⟨rfl, rfl⟩ := trodVars_none hV
  have k0 := h0
  have lt0 : ∀ x ∈ p0, x.block < W.heap.size := by obtain ⟨m, hm⟩ := k0; exact DataW.trod_lt m _ _ _ hm
  obtain ⟨A0, n0, c0, f0, rfl, hl0⟩ := open_arrs (t := 33) (e := 39) (e' := 5) (m := 32) (by kernel_rfl) (by kernel_rfl) (by kernel_rfl) (by kernel_rfl) (by kernel_rfl) (by omega) (hval 0 33 v0 rfl rfl) h0
  have k1 := h1
  have lt1 : ∀ x ∈ p1, x.block < W.heap.size := by obtain ⟨m, hm⟩ := k1; exact DataW.trod_lt m _ _ _ hm
  obtain ⟨A1, n1, c1, a1, rfl, hs1, hm1⟩ := open_sl Try.underlying25 Try.underlying5 (by kernel_rfl) (hval 1 25 v1 rfl rfl) h1
  have k2 := h2
  have lt2 : ∀ x ∈ p2, x.block < W.heap.size := by obtain ⟨m, hm⟩ := k2; exact DataW.trod_lt m _ _ _ hm
  obtain ⟨A2, n2, c2, a2, rfl, hs2, hm2⟩ := open_sl Try.underlying25 Try.underlying5 (by kernel_rfl) (hval 2 25 v2 rfl rfl) h2
  clear hA0 hval0
  refine (walk n0 c0 A0 f0 a1 n1 c1 A1 a2 n2 c2 A2 W hl0 hs1 hm1 hs2 hm2).mono fun e W' ⟨he, bel⟩ => ?_
  subst he
  exact ⟨_, rfl, _, _, _, [], _, [], hW', trodAll_mk1 (shut_bool Try.underlying4 _), (trodAll_cons_mk (Below.trod laidOut (by kernel_rfl) (of_decide_eq_true (by kernel_rfl)) k0 bel lt0) (trodAll_cons_mk (Below.trod laidOut (by kernel_rfl) (of_decide_eq_true (by kernel_rfl)) k1 bel lt1) (trodAll_cons_mk (Below.trod laidOut (by kernel_rfl) (of_decide_eq_true (by kernel_rfl)) k2 bel lt2) trodAll_mk0))), rfl, bel.frame _, fun h => by cases h⟩

theorem over : Rows.envelopeBackRow.holds Try.pinned (OpenSpec.ofChange Rows.envelopeBackSpec) :=
  OpenClaim.holds_of_wide 4 Try.f4 rfl rfl rfl rfl rfl rfl rfl ⟨rfl, rfl, rfl, rfl, rfl⟩ rfl rfl rfl rfl rfl (by kernel_rfl) Try.func4 (by kernel_rfl)
    (of_decide_eq_true (by kernel_rfl)) (by unfold Func.isWrapper; first | (rw [if_pos (by decide +kernel)]; kernel_rfl) | (rw [if_neg (by decide +kernel)]; exact ⟨rfl, rfl⟩))
    (fun os started H enc _ => lifted os started H enc)

theorem proved : Rows.EnvelopeBackSaid := over
#print axioms proved
end Go.Proofs.Ytamemjldafoolaa.envelopeBack
