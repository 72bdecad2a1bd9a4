/- The reference's Check. -/
import Derived.Test.YtfpkfbojckgcdaaWiC
namespace Go.Proofs.Ytfpkfbojckgcdaa.Oct
open Go.ChangeShapes Go.WideShapes Go.ChangeAt Go.RowKit
set_option linter.unusedVariables false

def numB (x : Int) (b : Bool) : Bool := if b then inB 1 1099511627776 x else decide (x = 0)
set_option maxHeartbeats 1000000 in
theorem rnum_any (x : Int) (b : Bool) (w : World) :
    Calls Try.prog 41 #[.int .i64 x, .bool b] w fun e w' => e = .returned (.bool (numB x b)) ∧ w = w' := by
  cases b with
  | true =>
    by_cases h1 : (1 : Int) ≤ x
    · have hd1 : decide ((1 : Int) ≤ x) = true := by simp; omega
      by_cases h2 : x ≤ 1099511627776
      · have hd2 : decide (x ≤ 1099511627776) = true := by simp; omega
        have hI := Lib.hid (show numB x true = true by unfold numB inB; rw [hd1, hd2]; rfl)
        go_enter Try.func41, Try.ntmps41
        go_wp2_with fail
        go_ret
        exact ⟨by rw [hI.out]; rfl, rfl⟩
      · have hd2 : decide (x ≤ 1099511627776) = false := by simp; omega
        have hI := Lib.hid (show numB x true = false by unfold numB inB; rw [hd1, hd2]; rfl)
        go_enter Try.func41, Try.ntmps41
        go_wp2_with fail
        go_ret
        exact ⟨by rw [hI.out]; rfl, rfl⟩
    · have hd1 : decide ((1 : Int) ≤ x) = false := by simp; omega
      have hI := Lib.hid (show numB x true = false by unfold numB inB; rw [hd1]; rfl)
      go_enter Try.func41, Try.ntmps41
      go_wp2_with fail
      go_ret
      exact ⟨by rw [hI.out]; rfl, rfl⟩
  | false =>
    by_cases h0 : x = 0
    · have hI := Lib.hid (show numB x false = true by unfold numB; rw [h0]; rfl)
      subst h0
      go_enter Try.func41, Try.ntmps41
      go_wp2_with fail
      go_ret
      exact ⟨by rw [hI.out]; rfl, rfl⟩
    · have hI := Lib.hid (show numB x false = false by unfold numB; simp [h0])
      have hd : (x == 0) = false := by simp [h0]
      clear h0
      go_enter Try.func41, Try.ntmps41
      go_wp2_with fail
      go_ret
      exact ⟨by rw [hI.out]; rfl, rfl⟩

def okN (k n : Int) : Bool := if hN k then (if k = 5 then decide (n = 0) || decide (n = 1) else decide (1 ≤ n)) else decide (n = 0)
def mostD (k : Int) : Int := if hD k then (if k = 8 ∨ k = 9 then 128 else 64) else 0
/-- the reference's check, as it is told -/
def rokB (k s q i n : Int) (T U : Nat) : Bool :=
  (((kiB k && (numB s (hS k) && (numB q (hS k) && numB i (hI k)))) && okN k n) && (decide ((T : Int) ≤ mostD k) && (decide (k ≠ 10) || decide (0 < (T : Int))))) && (decide ((U : Int) = 0) || (hB k && decide ((U : Int) ≤ 32)))
theorem has_x (k : Int) : ((hasS k).toList == [120]) = !kiB k := by
  have hcase : k = 1 ∨ k = 2 ∨ k = 3 ∨ k = 4 ∨ k = 5 ∨ k = 6 ∨ k = 7 ∨ k = 8 ∨ k = 9 ∨ k = 10 ∨ k < 1 ∨ 10 < k := by omega
  have key : (k < 1 ∨ 10 < k) → hasS k = ⟨#[120]⟩ ∧ kiB k = false := fun h => by
    refine ⟨?_, ?_⟩
    · unfold hasS; rw [if_neg (by omega), if_neg (by omega), if_neg (by omega), if_neg (by omega), if_neg (by omega), if_neg (by omega), if_neg (by omega), if_neg (by omega), if_neg (by omega), if_neg (by omega)]
    · unfold kiB; simp; omega
  rcases hcase with rfl | rfl | rfl | rfl | rfl | rfl | rfl | rfl | rfl | rfl | h | h
  all_goals first
    | (decide +kernel; done)
    | (obtain ⟨h1, h2⟩ := key (by omega)
       rw [h1, h2]
       decide +kernel)

set_option maxRecDepth 20000 in
set_option maxHeartbeats 8000000 in
theorem rcheck_any (k s q i n : Int) (T U c c' : Nat) (A A' : Option Addr) (w : World) :
    Calls Try.prog 17 #[comV k s q i n (.slice A T c) (.slice A' U c')] w fun e w' => e = .returned (.int .i64 (if rokB k s q i n T U then 0 else 1)) ∧ Below w.heap.size w w' := by
  obtain ⟨hz, hsS, hsI, hsN, hsD, hsB⟩ := has_in k
  have hx := has_x k
  have R0 := Lib.hid (show row (w.alloc (.cells #[.int .i64 k, .int .i64 s, .int .i64 q, .int .i64 i, .int .i64 n, .slice A T c, .slice A' U c'] 24)) w.heap.size = some #[.int .i64 k, .int .i64 s, .int .i64 q, .int .i64 i, .int .i64 n, .slice A T c, .slice A' U c'] from row_alloc_at _ _ _ _ rfl)
  have B0 := Lib.hid (show Below w.heap.size w (w.alloc (.cells #[.int .i64 k, .int .i64 s, .int .i64 q, .int .i64 i, .int .i64 n, .slice A T c, .slice A' U c'] 24)) from (Below.refl _ _).alloc (by simp) _)
  have hz0 : w.heap.size ≤ (w.alloc (.cells #[.int .i64 k, .int .i64 s, .int .i64 q, .int .i64 i, .int .i64 n, .slice A T c, .slice A' U c'] 24)).heap.size := by simp
  have G1 := Lib.hid (fun (w : World) => rin_any (hasS k) 115 hz w)
  have G2 := Lib.hid (fun (w : World) => rin_any (hasS k) 105 hz w)
  have G3 := Lib.hid (fun (w : World) => rin_any (hasS k) 110 hz w)
  have G4 := Lib.hid (fun (w : World) => rin_any (hasS k) 100 hz w)
  have G5 := Lib.hid (fun (w : World) => rin_any (hasS k) 98 hz w)
  rw [hsS] at G1
  rw [hsI] at G2
  rw [hsN] at G3
  rw [hsD] at G4
  rw [hsB] at G5
  have X := Lib.hid (rhas_any k)
  obtain ⟨S, hS'⟩ : ∃ S, S = hasS k := ⟨_, rfl⟩
  obtain ⟨K, hK⟩ : ∃ K, K = kiB k := ⟨_, rfl⟩
  obtain ⟨bs, hbs⟩ : ∃ x, x = hS k := ⟨_, rfl⟩
  obtain ⟨bi, hbi⟩ : ∃ x, x = hI k := ⟨_, rfl⟩
  obtain ⟨bn, hbn⟩ : ∃ x, x = hN k := ⟨_, rfl⟩
  obtain ⟨bd, hbd⟩ : ∃ x, x = hD k := ⟨_, rfl⟩
  obtain ⟨bb, hbb⟩ : ∃ x, x = hB k := ⟨_, rfl⟩
  obtain ⟨E, hE⟩ : ∃ E, E = rokB k s q i n T U := ⟨_, rfl⟩
  have HN := Lib.hid (show okN k n = if bn then (if k = 5 then decide (n = 0) || decide (n = 1) else decide (1 ≤ n)) else decide (n = 0) by rw [hbn]; rfl)
  have HM := Lib.hid (show mostD k = if bd then (if k = 8 ∨ k = 9 then 128 else 64) else 0 by rw [hbd]; rfl)
  rw [← hE]
  unfold rokB at hE
  rw [← hK, ← hbs, ← hbi, ← hbb] at hE
  have HE := Lib.hid hE
  rw [← hS', ← hbs] at G1
  rw [← hS', ← hbi] at G2
  rw [← hS', ← hbn] at G3
  rw [← hS', ← hbd] at G4
  rw [← hS', ← hbb] at G5
  rw [← hS', ← hK] at hx
  rw [← hS'] at X
  clear hz hsS hsI hsN hsD hsB hS' hK hbs hbi hbn hbd hbb hE
  go_enter Try.func17, Try.ntmps17
  go_wp2_with fail
  refine (X.out _).mono ?_
  rintro e w1 ⟨rfl, hb⟩
  have B1 := Lib.hid (onto B0.out hz0 hb)
  have R1 := Lib.hid (carry hb R0.out)
  clear hb B0 R0 hz0 X
  have HC1 := Lib.hid (fun w => rnum_any s bs w)
  have HC2 := Lib.hid (fun w => rnum_any q bs w)
  have HC3 := Lib.hid (fun w => rnum_any i bi w)
  obtain ⟨b1, hb1⟩ : ∃ x, x = numB s bs := ⟨_, rfl⟩
  obtain ⟨b2, hb2⟩ : ∃ x, x = numB q bs := ⟨_, rfl⟩
  obtain ⟨b3, hb3⟩ : ∃ x, x = numB i bi := ⟨_, rfl⟩
  rw [← hb1] at HC1
  rw [← hb2] at HC2
  rw [← hb3] at HC3
  obtain ⟨O1, hO1⟩ : ∃ O1, O1 = (K && (b1 && (b2 && b3))) := ⟨_, rfl⟩
  rw [← hb1, ← hb2, ← hb3, ← hO1] at HE
  have HO1 := Lib.hid hO1
  clear hO1 hb1 hb2 hb3
  go_upto_region 2 with fail
  go_cut [4] (fun x wx => x = .bool O1 ∧ Below w1.heap.size w1 wx)
  case first =>
    refine seen_region (by kernel_rfl) (by kernel_rfl) ?_
    have cc : ∀ x : After w1, (x.val.cell? ⟨w.heap.size, 1, none⟩ = some (.int .i64 s)) ∧ (x.val.cell? ⟨w.heap.size, 2, none⟩ = some (.int .i64 q)) ∧ (x.val.cell? ⟨w.heap.size, 3, none⟩ = some (.int .i64 i)) := fun x => ⟨x.cell R1.out 1, x.cell R1.out 2, x.cell R1.out 3⟩
    cases K with
    | false =>
      have hx1 : (S.toList == [120]) = true := hx
      clear hx
      have F := Lib.hid (show O1 = false from HO1.out)
      repeat (go_big_quiet_step ((first | (go_at_call 42; first | (with_reducible refine After.same _ (G1.out _)) | (with_reducible refine After.same _ (G2.out _))) | (go_at_call 41; first | (with_reducible refine After.same _ (HC1.out _)) | (with_reducible refine After.same _ (HC2.out _)) | (with_reducible refine After.same _ (HC3.out _))))))
      refine wpQuiet_nil ?_
      rintro w' ⟨x, rfl⟩
      go_wp2_with fail
      go_meet
      exact ⟨by rw [F.out], x.below⟩
    | true =>
      have hx1 : (S.toList == [120]) = false := hx
      clear hx
      cases b1 with
      | false =>
        have F := Lib.hid (show O1 = false from HO1.out)
        repeat (go_big_quiet_step ((first | (go_at_call 42; first | (with_reducible refine After.same _ (G1.out _)) | (with_reducible refine After.same _ (G2.out _))) | (go_at_call 41; first | (with_reducible refine After.same _ (HC1.out _)) | (with_reducible refine After.same _ (HC2.out _)) | (with_reducible refine After.same _ (HC3.out _))))))
        refine wpQuiet_nil ?_
        rintro w' ⟨x, rfl⟩
        go_wp2_with fail
        go_meet
        exact ⟨by rw [F.out], x.below⟩
      | true =>
        cases b2 with
        | false =>
          have F := Lib.hid (show O1 = false from HO1.out)
          repeat (go_big_quiet_step ((first | (go_at_call 42; first | (with_reducible refine After.same _ (G1.out _)) | (with_reducible refine After.same _ (G2.out _))) | (go_at_call 41; first | (with_reducible refine After.same _ (HC1.out _)) | (with_reducible refine After.same _ (HC2.out _)) | (with_reducible refine After.same _ (HC3.out _))))))
          refine wpQuiet_nil ?_
          rintro w' ⟨x, rfl⟩
          go_wp2_with fail
          go_meet
          exact ⟨by rw [F.out], x.below⟩
        | true =>
          have F := Lib.hid (show O1 = b3 from HO1.out)
          repeat (go_big_quiet_step ((first | (go_at_call 42; first | (with_reducible refine After.same _ (G1.out _)) | (with_reducible refine After.same _ (G2.out _))) | (go_at_call 41; first | (with_reducible refine After.same _ (HC1.out _)) | (with_reducible refine After.same _ (HC2.out _)) | (with_reducible refine After.same _ (HC3.out _))))))
          refine wpQuiet_nil ?_
          rintro w' ⟨x, rfl⟩
          go_wp2_with fail
          go_meet
          exact ⟨by rw [F.out], x.below⟩
  case rest =>
  obtain ⟨rfl, hb⟩ := hcut
  have B2 := Lib.hid (onto B1.out B1.out.size hb)
  have R2 := Lib.hid (carry hb R1.out)
  clear hb B1 R1 G1 G2 HC1 HC2 HC3 HO1 hx
  obtain ⟨wd, rfl⟩ : ∃ x : World, x = wc := ⟨_, rfl⟩
  obtain ⟨O2, hO2⟩ : ∃ O2, O2 = (O1 && okN k n) := ⟨_, rfl⟩
  rw [← hO2] at HE
  rw [HN.out] at hO2
  have HO2 := Lib.hid hO2
  clear hO2
  obtain ⟨c0, c1, c2, c3, c4, c5, c6⟩ := cells7 R2.out
  go_wp2_with fail
  refine (G3.out _).mono ?_
  rintro e w2 ⟨rfl, rfl⟩
  go_upto_if 34 with fail
  go_cut [4] (fun x wx => x = .bool O2 ∧ wx = wd)
  case first =>
    cases bn with
    | false =>
      cases O1 with
      | false =>
        have F := Lib.hid (show O2 = false by rw [HO2.out]; rfl)
        go_wp2_with fail
        go_meet
        exact ⟨by rw [F.out], rfl⟩
      | true =>
        by_cases hn : n = 0
        · have hd : (n == 0) = true := by simp [hn]
          have F := Lib.hid (show O2 = true by rw [HO2.out]; simp [hn])
          clear hn
          go_wp2_with fail
          go_meet
          exact ⟨by rw [F.out], rfl⟩
        · have hd : (n == 0) = false := by simp [hn]
          have F := Lib.hid (show O2 = false by rw [HO2.out]; simp [hn])
          clear hn
          go_wp2_with fail
          go_meet
          exact ⟨by rw [F.out], rfl⟩
    | true =>
      by_cases hk : k = 5
      · have hkd : (k == 5) = true := by simp [hk]
        cases O1 with
        | false =>
          have F := Lib.hid (show O2 = false by rw [HO2.out]; rfl)
          clear hk
          go_wp2_with fail
          go_meet
          exact ⟨by rw [F.out], rfl⟩
        | true =>
          by_cases hn : n = 0
          · have hd : (n == 0) = true := by simp [hn]
            have F := Lib.hid (show O2 = true by rw [HO2.out]; simp [hn, hk])
            clear hk hn
            go_wp2_with fail
            go_meet
            exact ⟨by rw [F.out], rfl⟩
          · have hd : (n == 0) = false := by simp [hn]
            by_cases hn1 : n = 1
            · have hd1 : (n == 1) = true := by simp [hn1]
              have F := Lib.hid (show O2 = true by rw [HO2.out]; simp [hn1, hk])
              clear hk hn hn1
              go_wp2_with fail
              go_meet
              exact ⟨by rw [F.out], rfl⟩
            · have hd1 : (n == 1) = false := by simp [hn1]
              have F := Lib.hid (show O2 = false by rw [HO2.out]; simp [hn, hn1, hk])
              clear hk hn hn1
              go_wp2_with fail
              go_meet
              exact ⟨by rw [F.out], rfl⟩
      · have hkd : (k == 5) = false := by simp [hk]
        cases O1 with
        | false =>
          have F := Lib.hid (show O2 = false by rw [HO2.out]; rfl)
          clear hk
          go_wp2_with fail
          go_meet
          exact ⟨by rw [F.out], rfl⟩
        | true =>
          by_cases hn : 1 ≤ n
          · have hd : decide (1 ≤ n) = true := by simp [hn]
            have F := Lib.hid (show O2 = true by rw [HO2.out]; simp [hn, hk])
            clear hk
            go_wp2_with fail
            go_meet
            exact ⟨by rw [F.out], rfl⟩
          · have hd : decide (1 ≤ n) = false := by simp; omega
            have F := Lib.hid (show O2 = false by rw [HO2.out]; simp [hk]; omega)
            clear hk
            go_wp2_with fail
            go_meet
            exact ⟨by rw [F.out], rfl⟩
  case rest =>
  obtain ⟨rfl, hwc⟩ := hcut
  rw [hwc]
  clear hwc wc
  clear HO2 HN G3
  obtain ⟨M, hM⟩ : ∃ M, M = mostD k := ⟨_, rfl⟩
  rw [← hM] at HE
  rw [HM.out] at hM
  have HM2 := Lib.hid hM
  clear hM HM
  go_upto_region 9 with fail
  go_cut [68] (fun x wx => x = .bool (decide (k = 8 ∨ k = 9)) ∧ wx = wd)
  case first =>
    by_cases h8 : k = 8
    · have hd : (k == 8) = true := by simp [h8]
      have F := Lib.hid (show decide (k = 8 ∨ k = 9) = true by simp [h8])
      clear h8
      go_wp2_with fail
      go_meet
      exact ⟨by rw [F.out], rfl⟩
    · have hd : (k == 8) = false := by simp [h8]
      by_cases h9 : k = 9
      · have hd9 : (k == 9) = true := by simp [h9]
        have F := Lib.hid (show decide (k = 8 ∨ k = 9) = true by simp [h9])
        clear h8 h9
        go_wp2_with fail
        go_meet
        exact ⟨by rw [F.out], rfl⟩
      · have hd9 : (k == 9) = false := by simp [h9]
        have F := Lib.hid (show decide (k = 8 ∨ k = 9) = false by simp [h8, h9])
        clear h8 h9
        go_wp2_with fail
        go_meet
        exact ⟨by rw [F.out], rfl⟩
  case rest =>
  obtain ⟨rfl, hwc⟩ := hcut
  rw [hwc]
  clear hwc wc
  obtain ⟨D, hD⟩ : ∃ D, D = decide (k = 8 ∨ k = 9) := ⟨_, rfl⟩
  rw [← hD]
  have HM3 := Lib.hid (show M = if bd then (if D then 128 else 64) else 0 by rw [HM2.out, hD]; simp)
  clear hD HM2
  go_upto_if 68 with fail
  obtain ⟨M0, hM0⟩ : ∃ M0 : Int, M0 = if D then 128 else 64 := ⟨_, rfl⟩
  rw [← hM0] at HM3
  have HM0 := Lib.hid hM0
  clear hM0
  go_cut [5] (fun x wx => x = .int .i64 M0 ∧ wx = wd)
  case first =>
    cases D with
    | true =>
      have F := Lib.hid (show M0 = 128 by rw [HM0.out]; rfl)
      go_wp2_with fail
      go_meet
      exact ⟨by rw [F.out], rfl⟩
    | false =>
      have F := Lib.hid (show M0 = 64 by rw [HM0.out]; rfl)
      go_wp2_with fail
      go_meet
      exact ⟨by rw [F.out], rfl⟩
  case rest =>
  obtain ⟨rfl, hwc⟩ := hcut
  rw [hwc]
  clear hwc wc
  go_wp2_with fail
  refine (G4.out _).mono ?_
  rintro e w2 ⟨rfl, rfl⟩
  go_upto_if 71 with fail
  go_cut [5] (fun x wx => x = .int .i64 M ∧ wx = wd)
  case first =>
    cases bd with
    | false =>
      have F := Lib.hid (show M = 0 by rw [HM3.out]; rfl)
      go_wp2_with fail
      go_meet
      exact ⟨by rw [F.out], rfl⟩
    | true =>
      have F := Lib.hid (show M = M0 by rw [HM3.out]; rfl)
      go_wp2_with fail
      go_meet
      exact ⟨by rw [F.out], rfl⟩
  case rest =>
  obtain ⟨rfl, hwc⟩ := hcut
  rw [hwc]
  clear hwc wc HM3 G4
  obtain ⟨O3, hO3⟩ : ∃ O3, O3 = (O2 && (decide ((T : Int) ≤ M) && (decide (k ≠ 10) || decide (0 < (T : Int))))) := ⟨_, rfl⟩
  rw [← hO3] at HE
  have HO3 := Lib.hid hO3
  clear hO3
  go_upto_region 13 with fail
  go_cut [4] (fun x wx => x = .bool O3 ∧ wx = wd)
  case first =>
    cases O2 with
    | false =>
      have F := Lib.hid (show O3 = false by rw [HO3.out]; rfl)
      go_wp2_with fail
      go_meet
      exact ⟨by rw [F.out], rfl⟩
    | true =>
      by_cases hT : (T : Int) ≤ M
      · have hd : decide ((T : Int) ≤ M) = true := by simp [hT]
        by_cases hk : k = 10
        · have hkd : (k != 10) = false := by simp [hk]
          by_cases h0 : 0 < (T : Int)
          · have hd0 : decide (0 < (T : Int)) = true := by simp; omega
            have hd0n : decide (0 < T) = true := by simp; omega
            have F := Lib.hid (show O3 = true by rw [HO3.out, hd, hd0]; simp)
            clear hk h0
            go_wp2_with fail
            go_meet
            exact ⟨by rw [F.out], rfl⟩
          · have hd0 : decide (0 < (T : Int)) = false := by simp; omega
            have hd0n : decide (0 < T) = false := by simp; omega
            have F := Lib.hid (show O3 = false by rw [HO3.out, hd, hd0]; simp [hk])
            clear hk h0
            go_wp2_with fail
            go_meet
            exact ⟨by rw [F.out], rfl⟩
        · have hkd : (k != 10) = true := by simp [hk]
          have F := Lib.hid (show O3 = true by rw [HO3.out, hd]; simp [hk])
          clear hk
          go_wp2_with fail
          go_meet
          exact ⟨by rw [F.out], rfl⟩
      · have hd : decide ((T : Int) ≤ M) = false := by simp; omega
        have F := Lib.hid (show O3 = false by rw [HO3.out, hd]; rfl)
        go_wp2_with fail
        go_meet
        exact ⟨by rw [F.out], rfl⟩
  case rest =>
  obtain ⟨rfl, hwc⟩ := hcut
  rw [hwc]
  clear hwc wc HO3
  go_upto_region 14 with fail
  go_cut [4] (fun x wx => x = .bool E ∧ wx = wd)
  case first =>
    cases O3 with
    | false =>
      have F := Lib.hid (show E = false by rw [HE.out]; rfl)
      go_wp2_with fail
      go_meet
      exact ⟨by rw [F.out], rfl⟩
    | true =>
      by_cases h0 : (U : Int) = 0
      · have hd : ((U : Int) == 0) = true := by simp; omega
        have F := Lib.hid (show E = true by rw [HE.out]; simp; omega)
        go_wp2_with fail
        go_meet
        exact ⟨by rw [F.out], rfl⟩
      · have hd : ((U : Int) == 0) = false := by simp; omega
        cases bb with
        | false =>
          go_wp2_with fail
          refine (G5.out _).mono ?_
          rintro e w2 ⟨rfl, rfl⟩
          have F := Lib.hid (show E = false by rw [HE.out]; simp; omega)
          go_wp2_with fail
          go_meet
          exact ⟨by rw [F.out], rfl⟩
        | true =>
          by_cases h3 : (U : Int) ≤ 32
          · have hd3 : decide ((U : Int) ≤ 32) = true := by simp; omega
            go_wp2_with fail
            refine (G5.out _).mono ?_
            rintro e w2 ⟨rfl, rfl⟩
            have F := Lib.hid (show E = true by rw [HE.out]; simp; omega)
            go_wp2_with fail
            go_meet
            exact ⟨by rw [F.out], rfl⟩
          · have hd3 : decide ((U : Int) ≤ 32) = false := by simp; omega
            go_wp2_with fail
            refine (G5.out _).mono ?_
            rintro e w2 ⟨rfl, rfl⟩
            have F := Lib.hid (show E = false by rw [HE.out]; simp; omega)
            go_wp2_with fail
            go_meet
            exact ⟨by rw [F.out], rfl⟩
  case rest =>
  obtain ⟨rfl, hwc⟩ := hcut
  rw [hwc]
  clear hwc wc HE G5
  cases E with
  | false =>
    go_wp2_with fail
    go_ret
    exact ⟨rfl, B2.out⟩
  | true =>
    go_wp2_with fail
    go_ret
    exact ⟨rfl, B2.out⟩
end Go.Proofs.Ytfpkfbojckgcdaa.Oct
