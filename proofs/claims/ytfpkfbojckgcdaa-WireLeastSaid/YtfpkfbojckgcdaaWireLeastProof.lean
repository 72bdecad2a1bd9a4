/- The statement WireLeast: the law strongroomlaw09.WireLeast answers true for every input, and leaves its arguments as they were. No further condition. -/
import Derived.Test.YtfpkfbojckgcdaaRows
import Derived.Test.YtfpkfbojckgcdaaLib
import Derived.Test.YtfpkfbojckgcdaaWig
namespace Go.Proofs.Ytfpkfbojckgcdaa.wireLeast
open Go.ChangeShapes Go.WideShapes Go.ChangeAt Go.RowKit
open Go.Proofs.Ytfpkfbojckgcdaa.Oct
set_option linter.unusedVariables false

theorem own : ownKnob Try.prog.godebug = none := by kernel_rfl
theorem laidOut : laidOutB Try.prog = true := by kernel_rfl

set_option maxRecDepth 20000 in
set_option maxHeartbeats 8000000 in
theorem walk (a0 : Int) (a1 : Int) (a2 : Int) (w : World) (w0 : (Lit.int .i64 a0).wf = true) (w1 : (Lit.int .i64 a1).wf = true) (w2 : (Lit.int .i64 a2).wf = true) :
    Calls Try.prog 8 #[.int .i64 a0, .int .i64 a1, .int .i64 a2] w fun e w' => e = .returned (.bool true) ∧ Below w.heap.size w w' := by
  obtain ⟨p0, q0⟩ := wf_bd w0
  obtain ⟨p1, q1⟩ := wf_bd w1
  obtain ⟨p2, q2⟩ := wf_bd w2
  clear w0 w1 w2
  go_enter Try.func8, Try.ntmps8
  go_wp2_with fail
  refine (shown_any w).mono ?_
  rintro e x1 ⟨rfl, hb⟩
  have B1 := Lib.hid hb
  clear hb
  go_upto_if 14 with fail
  obtain ⟨m0, hm0⟩ : ∃ m, m = if a0 < 0 then -(a0 + 1) else a0 := ⟨_, rfl⟩
  obtain ⟨m1, hm1⟩ : ∃ m, m = if a1 < 0 then -(a1 + 1) else a1 := ⟨_, rfl⟩
  obtain ⟨m2, hm2⟩ : ∃ m, m = if a2 < 0 then -(a2 + 1) else a2 := ⟨_, rfl⟩
  have r0 : 0 ≤ m0 ∧ m0 < 9223372036854775808 := by rw [hm0]; split <;> omega
  have r1 : 0 ≤ m1 ∧ m1 < 9223372036854775808 := by rw [hm1]; split <;> omega
  have r2 : 0 ≤ m2 ∧ m2 < 9223372036854775808 := by rw [hm2]; split <;> omega
  have M0 := Lib.hid hm0
  have M1 := Lib.hid hm1
  have M2 := Lib.hid hm2
  clear hm0 hm1 hm2
  go_cut [0] (fun x wx => x = .int .i64 m0 ∧ wx = x1)
  case first =>
    by_cases h : a0 < 0
    · have hd : decide (a0 < 0) = true := by simp; omega
      have F := Lib.hid (show m0 = -(a0 + 1) by rw [M0.out, if_pos h])
      go_wp2_with fail
      go_meet
      exact ⟨by rw [F.out], rfl⟩
    · have hd : decide (a0 < 0) = false := by simp; omega
      have F := Lib.hid (show m0 = a0 by rw [M0.out, if_neg h])
      go_wp2_with fail
      go_meet
      exact ⟨by rw [F.out], rfl⟩
  case rest =>
  obtain ⟨rfl, hwc⟩ := hcut
  rw [hwc]
  clear hwc wc M0 p0 q0
  go_upto_if 19 with fail
  go_cut [1] (fun x wx => x = .int .i64 m1 ∧ wx = x1)
  case first =>
    by_cases h : a1 < 0
    · have hd : decide (a1 < 0) = true := by simp; omega
      have F := Lib.hid (show m1 = -(a1 + 1) by rw [M1.out, if_pos h])
      go_wp2_with fail
      go_meet
      exact ⟨by rw [F.out], rfl⟩
    · have hd : decide (a1 < 0) = false := by simp; omega
      have F := Lib.hid (show m1 = a1 by rw [M1.out, if_neg h])
      go_wp2_with fail
      go_meet
      exact ⟨by rw [F.out], rfl⟩
  case rest =>
  obtain ⟨rfl, hwc⟩ := hcut
  rw [hwc]
  clear hwc wc M1 p1 q1
  go_upto_if 24 with fail
  go_cut [2] (fun x wx => x = .int .i64 m2 ∧ wx = x1)
  case first =>
    by_cases h : a2 < 0
    · have hd : decide (a2 < 0) = true := by simp; omega
      have F := Lib.hid (show m2 = -(a2 + 1) by rw [M2.out, if_pos h])
      go_wp2_with fail
      go_meet
      exact ⟨by rw [F.out], rfl⟩
    · have hd : decide (a2 < 0) = false := by simp; omega
      have F := Lib.hid (show m2 = a2 by rw [M2.out, if_neg h])
      go_wp2_with fail
      go_meet
      exact ⟨by rw [F.out], rfl⟩
  case rest =>
  obtain ⟨rfl, hwc⟩ := hcut
  rw [hwc]
  clear hwc wc M2 p2 q2
  go_upto_region 9 with fail
  obtain ⟨k, hk⟩ : ∃ k, k = m0 % 12 := ⟨_, rfl⟩
  have k0 : 0 ≤ k := by rw [hk]; omega
  have k1 : k ≤ 11 := by rw [hk]; omega
  rw [← hk]
  clear hk r0
  obtain ⟨x2, hx2⟩ : ∃ x, x = x1.alloc (.cells #[.int .i64 k, .int .i64 0, .int .i64 0, .int .i64 0, .int .i64 0, .slice none 0 0, .slice none 0 0] 24) := ⟨_, rfl⟩
  have B2 := Lib.hid (show Below x1.heap.size x1 x2 by rw [hx2]; exact (Below.refl _ _).alloc (Nat.le_refl _) _)
  have R2 := Lib.hid (show row x2 x1.heap.size = some #[.int .i64 k, .int .i64 0, .int .i64 0, .int .i64 0, .int .i64 0, .slice none 0 0, .slice none 0 0] by rw [hx2]; exact row_alloc_at _ _ _ _ rfl)
  go_upto_region 10 with fail
  rw [← hx2]
  clear hx2
  obtain ⟨b, hb⟩ : ∃ b, b = decide (3 ≤ k ∧ k ≤ 10) := ⟨_, rfl⟩
  have HB := Lib.hid hb
  clear hb
  go_cut [37] (fun x wx => x = .bool b ∧ wx = x2)
  case first =>
    by_cases h : 3 ≤ k
    · have hd : decide (3 ≤ k) = true := by simp; omega
      by_cases h' : k ≤ 10
      · have hd' : decide (k ≤ 10) = true := by simp; omega
        have F := Lib.hid (show b = true by rw [HB.out]; simp; omega)
        clear h h'
        go_wp2_with fail
        go_meet
        exact ⟨by rw [F.out], rfl⟩
      · have hd' : decide (k ≤ 10) = false := by simp; omega
        have F := Lib.hid (show b = false by rw [HB.out]; simp; omega)
        clear h h'
        go_wp2_with fail
        go_meet
        exact ⟨by rw [F.out], rfl⟩
    · have hd : decide (3 ≤ k) = false := by simp; omega
      have F := Lib.hid (show b = false by rw [HB.out]; simp; omega)
      clear h
      go_wp2_with fail
      go_meet
      exact ⟨by rw [F.out], rfl⟩
  case rest =>
  obtain ⟨rfl, hwc⟩ := hcut
  rw [hwc]
  clear hwc wc
  obtain ⟨s, hs⟩ : ∃ s, s = if b = true then 1 + m1 % 1000 else 0 := ⟨_, rfl⟩
  obtain ⟨q, hq⟩ : ∃ q, q = if b = true then 1 + m1 / 1000 % 1000 else 0 := ⟨_, rfl⟩
  have HS := Lib.hid hs
  have HQ := Lib.hid hq
  clear hs hq
  obtain ⟨d0, d1, d2, d3, d4, d5, d6⟩ := cells7 R2.out
  go_upto_if 37 with fail
  go_cut [] (fun wx => Below x1.heap.size x1 wx ∧ row wx x1.heap.size = some #[.int .i64 k, .int .i64 s, .int .i64 q, .int .i64 0, .int .i64 0, .slice none 0 0, .slice none 0 0])
  case first =>
    cases b with
    | true =>
      have hfz := froz_row R2.out 1
      obtain ⟨y, hy⟩ : ∃ y, y = x2.setCell ⟨x1.heap.size, 1, none⟩ (.int .i64 (1 + m1 % 1000)) := ⟨_, rfl⟩
      obtain ⟨ry, by'⟩ := st7_1 (.int .i64 (1 + m1 % 1000)) R2.out B2.out
      rw [← hy] at ry by'
      go_upto_region 12 with fail
      rw [← hy]
      clear hy d0 d1 d2 d3 d4 d5 d6 hfz
      obtain ⟨d0, d1, d2, d3, d4, d5, d6⟩ := cells7 ry
      have hfz := froz_row ry 2
      have RY := Lib.hid (st7_2 (.int .i64 (1 + m1 / 1000 % 1000)) ry by')
      clear ry by'
      go_wp2_with fail
      go_meet
      exact ⟨RY.out.2, by rw [HS.out, HQ.out]; exact RY.out.1⟩
    | false =>
      go_wp2_with fail
      go_meet
      exact ⟨B2.out, by rw [HS.out, HQ.out]; exact R2.out⟩
  case rest =>
  obtain ⟨hb, hr⟩ := hcut
  obtain ⟨x3, rfl⟩ : ∃ x : World, x = wc := ⟨_, rfl⟩
  have B3 := Lib.hid hb
  have R3 := Lib.hid hr
  have hsx := Lib.hid (show k ≤ 10 → ((3 ≤ k → 1 ≤ s ∧ s ≤ 1000) ∧ (¬ 3 ≤ k → s = 0)) from fun hk => by
    rw [HS.out, HB.out]
    by_cases h : 3 ≤ k
    · rw [if_pos (by simp; omega)]; omega
    · rw [if_neg (by simp; omega)]; omega)
  have hqx := Lib.hid (show k ≤ 10 → ((3 ≤ k → 1 ≤ q ∧ q ≤ 1000) ∧ (¬ 3 ≤ k → q = 0)) from fun hk => by
    rw [HQ.out, HB.out]
    by_cases h : 3 ≤ k
    · rw [if_pos (by simp; omega)]; omega
    · rw [if_neg (by simp; omega)]; omega)
  clear hb hr B2 R2 d0 d1 d2 d3 d4 d5 d6 HS HQ HB r1
  go_upto_region 13 with fail
  obtain ⟨i, hi⟩ : ∃ i : Int, i = if k = 2 ∨ (4 ≤ k ∧ k ≤ 7) then 1 else 0 := ⟨_, rfl⟩
  obtain ⟨b2, hb2⟩ : ∃ b, b = decide (k = 2 ∨ (4 ≤ k ∧ k ≤ 7)) := ⟨_, rfl⟩
  have HI := Lib.hid hi
  have HB2 := Lib.hid hb2
  clear hi hb2
  go_cut [10] (fun x wx => x = .bool b2 ∧ wx = x3)
  case first =>
    by_cases h : k = 2
    · have hd : (k == 2) = true := by simp; omega
      have F := Lib.hid (show b2 = true by rw [HB2.out]; simp; omega)
      clear h
      go_wp2_with fail
      go_meet
      exact ⟨by rw [F.out], rfl⟩
    · have hd : (k == 2) = false := by simp; omega
      by_cases h' : 4 ≤ k
      · have hd' : decide (4 ≤ k) = true := by simp; omega
        by_cases h'' : k ≤ 7
        · have hd'' : decide (k ≤ 7) = true := by simp; omega
          have F := Lib.hid (show b2 = true by rw [HB2.out]; simp; omega)
          clear h h' h''
          go_wp2_with fail
          go_meet
          exact ⟨by rw [F.out], rfl⟩
        · have hd'' : decide (k ≤ 7) = false := by simp; omega
          have F := Lib.hid (show b2 = false by rw [HB2.out]; simp; omega)
          clear h h' h''
          go_wp2_with fail
          go_meet
          exact ⟨by rw [F.out], rfl⟩
      · have hd' : decide (4 ≤ k) = false := by simp; omega
        have F := Lib.hid (show b2 = false by rw [HB2.out]; simp; omega)
        clear h h'
        go_wp2_with fail
        go_meet
        exact ⟨by rw [F.out], rfl⟩
  case rest =>
  obtain ⟨rfl, hwc⟩ := hcut
  rw [hwc]
  clear hwc wc
  obtain ⟨d0, d1, d2, d3, d4, d5, d6⟩ := cells7 R3.out
  go_upto_if 57 with fail
  go_cut [] (fun wx => Below x1.heap.size x1 wx ∧ row wx x1.heap.size = some #[.int .i64 k, .int .i64 s, .int .i64 q, .int .i64 i, .int .i64 0, .slice none 0 0, .slice none 0 0])
  case first =>
    cases b2 with
    | true =>
      have hfz := froz_row R3.out 3
      have F := Lib.hid (show i = 1 by rw [HI.out, if_pos (by have := HB2.out; simpa using this.symm)])
      have RY := Lib.hid (st7_3 (.int .i64 1) R3.out B3.out)
      go_wp2_with fail
      go_meet
      exact ⟨RY.out.2, by rw [F.out]; exact RY.out.1⟩
    | false =>
      have F := Lib.hid (show i = 0 by rw [HI.out, if_neg (by have := HB2.out; simpa using this.symm)])
      go_wp2_with fail
      go_meet
      exact ⟨B3.out, by rw [F.out]; exact R3.out⟩
  case rest =>
  obtain ⟨hb, hr⟩ := hcut
  obtain ⟨x4, rfl⟩ : ∃ x : World, x = wc := ⟨_, rfl⟩
  have B4 := Lib.hid hb
  have R4 := Lib.hid hr
  have hix := Lib.hid (show ((k = 2 ∨ (4 ≤ k ∧ k ≤ 7)) → i = 1) ∧ (¬ (k = 2 ∨ (4 ≤ k ∧ k ≤ 7)) → i = 0) from ⟨fun h => by rw [HI.out, if_pos h], fun h => by rw [HI.out, if_neg h]⟩)
  clear hb hr B3 R3 d0 d1 d2 d3 d4 d5 d6 HI HB2
  obtain ⟨d0, d1, d2, d3, d4, d5, d6⟩ := cells7 R4.out
  go_upto_if 60 with fail
  obtain ⟨n, hn⟩ : ∃ n : Int, n = if k = 6 then 1 else 0 := ⟨_, rfl⟩
  have HN := Lib.hid hn
  clear hn
  go_cut [] (fun wx => Below x1.heap.size x1 wx ∧ row wx x1.heap.size = some #[.int .i64 k, .int .i64 s, .int .i64 q, .int .i64 i, .int .i64 n, .slice none 0 0, .slice none 0 0])
  case first =>
    by_cases h : k = 6
    · have hd : (k == 6) = true := by simp; omega
      have hfz := froz_row R4.out 4
      have F := Lib.hid (show n = 1 by rw [HN.out, if_pos h])
      have RY := Lib.hid (st7_4 (.int .i64 1) R4.out B4.out)
      clear h
      go_wp2_with fail
      go_meet
      exact ⟨RY.out.2, by rw [F.out]; exact RY.out.1⟩
    · have hd : (k == 6) = false := by simp; omega
      have F := Lib.hid (show n = 0 by rw [HN.out, if_neg h])
      clear h
      go_wp2_with fail
      go_meet
      exact ⟨B4.out, by rw [F.out]; exact R4.out⟩
  case rest =>
  obtain ⟨hb, hr⟩ := hcut
  obtain ⟨x5, rfl⟩ : ∃ x : World, x = wc := ⟨_, rfl⟩
  have B5 := Lib.hid hb
  have R5 := Lib.hid hr
  have hnx := Lib.hid (show (k = 6 → n = 1) ∧ (k ≠ 6 → n = 0) from ⟨fun h => by rw [HN.out, if_pos h], fun h => by rw [HN.out, if_neg h]⟩)
  clear hb hr B4 R4 d0 d1 d2 d3 d4 d5 d6 HN
  obtain ⟨d0, d1, d2, d3, d4, d5, d6⟩ := cells7 R5.out
  go_upto_if 63 with fail
  go_cut [] (fun wx => Below x1.heap.size x1 wx ∧ ∃ (A : Option Addr) (T c : Nat), row wx x1.heap.size = some #[.int .i64 k, .int .i64 s, .int .i64 q, .int .i64 i, .int .i64 n, .slice A T c, .slice none 0 0] ∧ (k = 10 → T = 1) ∧ (k ≠ 10 → T = 0))
  case first =>
    by_cases h : k = 10
    · have hd : (k == 10) = true := by simp; omega
      have F := Lib.hid h
      obtain ⟨y, hy⟩ : ∃ y, y = x5.alloc (.cells #[.int .u8 1] 5) := ⟨_, rfl⟩
      have by' : Below x1.heap.size x1 y := by rw [hy]; exact B5.out.alloc B5.out.size _
      have ry : row y x1.heap.size = some #[.int .i64 k, .int .i64 s, .int .i64 q, .int .i64 i, .int .i64 n, .slice none 0 0, .slice none 0 0] := by rw [hy]; exact row_alloc R5.out _
      have RY := Lib.hid (st7_5 (.slice (some ⟨x5.heap.size, 0, none⟩) 1 1) ry by')
      have cc := (cells7 ry).2.2.2.2.2.1
      have hfz := froz_row ry 5
      rw [hy] at cc hfz RY
      clear h hy by' ry
      go_wp2_with fail
      go_meet
      exact ⟨RY.out.2, _, 1, 1, RY.out.1, fun _ => rfl, fun h => absurd F.out h⟩
    · have hd : (k == 10) = false := by simp; omega
      have F := Lib.hid h
      clear h
      go_wp2_with fail
      go_meet
      exact ⟨B5.out, none, 0, 0, R5.out, fun h => absurd h F.out, fun _ => rfl⟩
  case rest =>
  obtain ⟨hb, A, T, c, hr, hT⟩ := hcut
  obtain ⟨x6, rfl⟩ : ∃ x : World, x = wc := ⟨_, rfl⟩
  have B6 := Lib.hid hb
  have R6 := Lib.hid hr
  have hTx := Lib.hid hT
  clear hb hr hT B5 R5 d0 d1 d2 d3 d4 d5 d6
  obtain ⟨d0, d1, d2, d3, d4, d5, d6⟩ := cells7 R6.out
  have C1 := Lib.hid (check_any k s q i n T 0 c 0 A none x6)
  by_cases hk : k < 1 ∨ 10 < k
  · rw [chk_kind hk] at C1
    rcases hk with h | h
    · have hd : decide (k < 1) = true := by simp; omega
      clear h
      go_wp2_with fail
      refine C1.out.mono ?_
      rintro e y ⟨rfl, hb⟩
      have B7 := Lib.hid (onto B1.out B1.out.size (onto B6.out B6.out.size hb))
      clear hb C1 d0 d1 d2 d3 d4 d5 d6
      go_wp2_with fail
      go_ret
      exact ⟨rfl, B7.out⟩
    · have hd : decide (k < 1) = false := by simp; omega
      have hd' : decide (10 < k) = true := by simp; omega
      clear h
      go_wp2_with fail
      refine C1.out.mono ?_
      rintro e y ⟨rfl, hb⟩
      have B7 := Lib.hid (onto B1.out B1.out.size (onto B6.out B6.out.size hb))
      clear hb C1 d0 d1 d2 d3 d4 d5 d6
      go_wp2_with fail
      go_ret
      exact ⟨rfl, B7.out⟩
  · rw [chk_least (by omega) (by omega) (hsx.out (by omega)) (hqx.out (by omega)) hix.out hnx.out hTx.out] at C1
    have hs0 : 0 ≤ s ∧ s ≤ 1000 := by have := hsx.out (by omega); omega
    have hq0 : 0 ≤ q ∧ q ≤ 1000 := by have := hqx.out (by omega); omega
    have hi0 : 0 ≤ i ∧ i ≤ 1 := by have := hix.out; omega
    have hd : decide (k < 1) = false := by simp; omega
    have hd' : decide (10 < k) = false := by simp; omega
    clear hk hsx hqx hix hnx hTx
    go_wp2_with fail
    refine C1.out.mono ?_
    rintro e y ⟨rfl, hb⟩
    obtain ⟨x7, hx7⟩ : ∃ x, x = y.alloc (.cells #[.int .i64 k, .int .i64 s, .int .i64 q, .int .i64 i, .int .i64 n, .slice A T c, .slice none 0 0] 24) := ⟨_, rfl⟩
    have bx : Below y.heap.size y x7 := by rw [hx7]; exact (Below.refl _ _).alloc (Nat.le_refl _) _
    have B7 := Lib.hid (onto B1.out B1.out.size (onto B6.out B6.out.size (onto hb hb.size bx)))
    have Y7 := Lib.hid (onto B1.out B1.out.size (onto B6.out B6.out.size hb))
    have P7 := Lib.hid bx
    have R7 := Lib.hid (show row x7 y.heap.size = some #[.int .i64 k, .int .i64 s, .int .i64 q, .int .i64 i, .int .i64 n, .slice A T c, .slice none 0 0] by rw [hx7]; exact row_alloc_at _ _ _ _ rfl)
    have S7 := Lib.hid (carry hb R6.out)
    clear hb bx C1 B6 R6 d0 d1 d2 d3 d4 d5 d6
    obtain ⟨d0, d1, d2, d3, d4, d5, d6⟩ := cells7 S7.out
    go_upto_region 25 with fail
    rw [← hx7]
    clear hx7 d0 d1 d2 d3 d4 d5 d6 S7
    obtain ⟨e0, e1, e2, e3, e4, e5, e6⟩ := cells7 R7.out
    go_upto_region 26 with fail
    obtain ⟨r, hr⟩ : ∃ r, r = m2 % 4 := ⟨_, rfl⟩
    have hr0 : 0 ≤ r ∧ r < 4 := by rw [hr]; omega
    rw [← hr]
    clear hr r2
    have hc : r = 0 ∨ r = 1 ∨ r = 2 ∨ r = 3 := by omega
    clear hr0
    rcases hc with rfl | rfl | rfl | rfl
    · have hfz := froz_row R7.out 1
      have RY := Lib.hid (st7_1 (.int .i64 (-s - 1)) R7.out P7.out)
      obtain ⟨z, hz⟩ : ∃ z, z = x7.setCell ⟨y.heap.size, 1, none⟩ (.int .i64 (-s - 1)) := ⟨_, rfl⟩
      rw [← hz] at RY
      go_upto_region 34 with fail
      rw [← hz]
      clear hz e0 e1 e2 e3 e4 e5 e6 hfz
      obtain ⟨d0, d1, d2, d3, d4, d5, d6⟩ := cells7 RY.out.1
      have C1 := Lib.hid (check_any k (-s - 1) q i n T 0 c 0 A none z)
      rw [chk_neg (by omega)] at C1
      go_wp2_with fail
      refine C1.out.mono ?_
      rintro e y2 ⟨rfl, hb⟩
      have B8 := Lib.hid (onto Y7.out Y7.out.size (onto RY.out.2 RY.out.2.size hb))
      clear hb C1 d0 d1 d2 d3 d4 d5 d6 RY
      go_wp2_with fail
      go_ret
      exact ⟨rfl, B8.out⟩
    · have hfz := froz_row R7.out 2
      have RY := Lib.hid (st7_2 (.int .i64 (-q - 1)) R7.out P7.out)
      obtain ⟨z, hz⟩ : ∃ z, z = x7.setCell ⟨y.heap.size, 2, none⟩ (.int .i64 (-q - 1)) := ⟨_, rfl⟩
      rw [← hz] at RY
      go_upto_region 34 with fail
      rw [← hz]
      clear hz e0 e1 e2 e3 e4 e5 e6 hfz
      obtain ⟨d0, d1, d2, d3, d4, d5, d6⟩ := cells7 RY.out.1
      have C1 := Lib.hid (check_any k s (-q - 1) i n T 0 c 0 A none z)
      rw [chk_neg (by omega)] at C1
      go_wp2_with fail
      refine C1.out.mono ?_
      rintro e y2 ⟨rfl, hb⟩
      have B8 := Lib.hid (onto Y7.out Y7.out.size (onto RY.out.2 RY.out.2.size hb))
      clear hb C1 d0 d1 d2 d3 d4 d5 d6 RY
      go_wp2_with fail
      go_ret
      exact ⟨rfl, B8.out⟩
    · have hfz := froz_row R7.out 3
      have RY := Lib.hid (st7_3 (.int .i64 (-i - 1)) R7.out P7.out)
      obtain ⟨z, hz⟩ : ∃ z, z = x7.setCell ⟨y.heap.size, 3, none⟩ (.int .i64 (-i - 1)) := ⟨_, rfl⟩
      rw [← hz] at RY
      go_upto_region 34 with fail
      rw [← hz]
      clear hz e0 e1 e2 e3 e4 e5 e6 hfz
      obtain ⟨d0, d1, d2, d3, d4, d5, d6⟩ := cells7 RY.out.1
      have C1 := Lib.hid (check_any k s q (-i - 1) n T 0 c 0 A none z)
      rw [chk_neg (by omega)] at C1
      go_wp2_with fail
      refine C1.out.mono ?_
      rintro e y2 ⟨rfl, hb⟩
      have B8 := Lib.hid (onto Y7.out Y7.out.size (onto RY.out.2 RY.out.2.size hb))
      clear hb C1 d0 d1 d2 d3 d4 d5 d6 RY
      go_wp2_with fail
      go_ret
      exact ⟨rfl, B8.out⟩
    · have hfz := froz_row R7.out 4
      have RY := Lib.hid (st7_4 (.int .i64 (-1)) R7.out P7.out)
      obtain ⟨z, hz⟩ : ∃ z, z = x7.setCell ⟨y.heap.size, 4, none⟩ (.int .i64 (-1)) := ⟨_, rfl⟩
      rw [← hz] at RY
      go_upto_region 34 with fail
      rw [← hz]
      clear hz e0 e1 e2 e3 e4 e5 e6 hfz
      obtain ⟨d0, d1, d2, d3, d4, d5, d6⟩ := cells7 RY.out.1
      have C1 := Lib.hid (check_any k s q i (-1) T 0 c 0 A none z)
      rw [chk_neg (by omega)] at C1
      go_wp2_with fail
      refine C1.out.mono ?_
      rintro e y2 ⟨rfl, hb⟩
      have B8 := Lib.hid (onto Y7.out Y7.out.size (onto RY.out.2 RY.out.2.size hb))
      clear hb C1 d0 d1 d2 d3 d4 d5 d6 RY
      go_wp2_with fail
      go_ret
      exact ⟨rfl, B8.out⟩

set_option maxRecDepth 100000 in
theorem lifted (os : Os) (started : os.Started) (H : Type) (enc : TypeId × Value → H) :
    ReturnsInHanded {} Try.checked os 8 .any (Rows.wireLeastSpec.pre6 enc Try.prog Try.f8 Rows.wireLeastRow.domain false) (Rows.wireLeastSpec.post enc Try.prog Try.f8 false true false false) := by
  refine returnsInHanded_of_change (C := Try.checked) own started (by kernel_rfl) Try.func8
    (ChangeSpec.witness6 (enc := enc) (C := Try.checked) false ⟨#[], #[.int .i64 0, .int .i64 0, .int .i64 0], []⟩ 8 (by kernel_rfl) (by kernel_rfl) (by kernel_rfl) (by kernel_rfl)) ?_
  intro W base args ds gs before hval0 hW hcnd _
  have hval : ∀ (j : Nat) t v, Try.f8.params[j]? = some t → args[j]? = some v → Value.okWide Try.prog W .any base t v := hval0
  have hW' := hW
  obtain ⟨p, q, hA0, hV, rfl, hfz, hnd⟩ := hW
  have hA : DataW.TrodAll enc Try.prog W 0 (fun _ => true) true Try.f8.params.toList args.toList ds p := hA0
  rw [Try.params8] at hA hval
  obtain ⟨v0, vs0, d0, ds0, p0, q0, hargs, rfl, rfl, h0, r0⟩ := trodAll_cons hA
  obtain ⟨v1, vs1, d1, ds1, p1, q1, rfl, rfl, rfl, h1, r1⟩ := trodAll_cons r0
  obtain ⟨v2, vs2, d2, ds2, p2, q2, rfl, rfl, rfl, h2, r2⟩ := trodAll_cons r1
  obtain ⟨rfl, rfl, rfl⟩ := trodAll_nil r2
  obtain rfl : args = #[v0, v1, v2] := by cases args; simp_all
  obtain ⟨rfl, rfl⟩ := trodVars_none hV
  obtain ⟨a0, rfl, rfl, rfl, w0⟩ := open_int Try.underlying3 (hval 0 3 v0 rfl rfl) h0
  obtain ⟨a1, rfl, rfl, rfl, w1⟩ := open_int Try.underlying3 (hval 1 3 v1 rfl rfl) h1
  obtain ⟨a2, rfl, rfl, rfl, w2⟩ := open_int Try.underlying3 (hval 2 3 v2 rfl rfl) h2
  clear hA0 hval0
  refine (walk a0 a1 a2 W w0 w1 w2).mono fun e W' ⟨he, bel⟩ => ?_
  subst he
  exact ⟨_, rfl, _, _, _, [], _, [], hW', trodAll_mk1 (shut_bool Try.underlying4 _), (trodAll_cons_mk (shut_int Try.underlying3 w0) (trodAll_cons_mk (shut_int Try.underlying3 w1) (trodAll_cons_mk (shut_int Try.underlying3 w2) trodAll_mk0))), rfl, bel.frame _, fun h => by cases h⟩

theorem over : Rows.wireLeastRow.holds Try.pinned (OpenSpec.ofChange Rows.wireLeastSpec) :=
  OpenClaim.holds_of_wide 8 Try.f8 rfl rfl rfl rfl rfl rfl rfl ⟨rfl, rfl, rfl, rfl, rfl⟩ rfl rfl rfl rfl rfl (by kernel_rfl) Try.func8 (by kernel_rfl)
    (of_decide_eq_true (by kernel_rfl)) (by unfold Func.isWrapper; first | (rw [if_pos (by decide +kernel)]; kernel_rfl) | (rw [if_neg (by decide +kernel)]; exact ⟨rfl, rfl⟩))
    (fun os started H enc _ => lifted os started H enc)

theorem proved : Rows.WireLeastSaid := over
#print axioms proved
end Go.Proofs.Ytfpkfbojckgcdaa.wireLeast
