/- Contract: wire's checkEntry. -/
import Derived.Test.YtfpkfbojckgcdaaWiG
import Derived.Test.YtfpkfbojckgcdaaWiA
namespace Go.Proofs.Ytfpkfbojckgcdaa.Oct
open Go.ChangeShapes Go.WideShapes Go.ChangeAt Go.RowKit
set_option linter.unusedVariables false

set_option maxHeartbeats 1000000 in
theorem neg_any (y : Int) (w : World) :
    Calls Try.prog 59 #[.int .i64 y] w fun e w' => e = .returned (.bool (decide (y < 0))) ∧ w = w' := by
  obtain ⟨b, hb⟩ : ∃ b, b = decide (y < 0) := ⟨_, rfl⟩
  rw [← hb]
  have hb2 := hb.symm
  clear hb
  go_enter Try.func59, Try.ntmps59
  go_wp2_with fail
  go_ret
  exact ⟨rfl, rfl⟩
set_option maxHeartbeats 2000000 in
theorem index_any (n c : Nat) (A : Option Addr) (x : Nat → Int) (w : World) (hl : SlG w w.heap.size A n c (iV x)) (hn : n ≤ 9223372036854775807) :
    Calls Try.prog 70 #[.slice A n c, .func (.func 59) #[] #[]] w fun e w' => ∃ r : Int, e = .returned (.int .i64 r) ∧ ((nuE x n = 0 ∧ r = -1) ∨ (nuE x n ≠ 0 ∧ 0 ≤ r)) ∧ w = w' := by
  have HL := Lib.hid hl
  clear hl
  go_enter Try.func70, Try.ntmps70
  go_wp2_with fail
  go_loopw [8] (fun iv wr => ∃ j : Nat, j ≤ n ∧ iv = .int .i64 (j : Int) ∧ nuE x j = 0 ∧ wr = w) (fun iv _ => n - (intOf iv).toNat)
  case atStart => exact ⟨0, by omega, rfl, rfl, rfl⟩
  case round =>
    obtain ⟨j, hj, rfl, hf, rfl⟩ := hrel
    have HF := Lib.hid hf
    clear hf
    by_cases hlt : j < n
    · have hd : decide ((j : Int) < (n : Int)) = true := by simp; omega
      obtain ⟨g, o, hA, hg, hcl⟩ := HL.out.at_ (by omega)
      have hc := hcl j hlt
      unfold iV at hc
      subst hA
      clear hcl
      obtain ⟨y, hy⟩ : ∃ y, y = x j := ⟨_, rfl⟩
      rw [← hy] at hc
      have HY := Lib.hid hy
      clear hy
      have HC := Lib.hid (neg_any y wr)
      obtain ⟨b, hb⟩ : ∃ b, b = decide (y < 0) := ⟨_, rfl⟩
      rw [← hb] at HC
      have HB := Lib.hid hb
      clear hb
      go_wp2_with fail
      refine HC.out.mono ?_
      rintro e w2 ⟨rfl, rfl⟩
      clear HC hc
      cases b with
      | true =>
        have HE := Lib.hid (show nuE x n ≠ 0 by
          have h1 : neE x j = 1 := by unfold neE; rw [if_pos (by rw [← HY.out]; simpa using HB.out.symm)]
          have := fi_first HF.out hlt (by rw [h1]; omega)
          have h2 : nuE x n = 1 := this.trans h1
          omega)
        go_wp2_with fail
        go_ret
        exact ⟨_, rfl, .inr ⟨HE.out, by omega⟩, rfl⟩
      | false =>
        have HE := Lib.hid (show nuE x (j + 1) = 0 from (fi_step HF.out).trans (by
          unfold neE
          rw [if_neg (by rw [← HY.out]; simpa using HB.out.symm)]))
        go_wp2_with fail
        go_roundw
        case rel => exact ⟨j + 1, by omega, rfl, HE.out, trivial⟩
        case measure => simp [intOf]; omega
    · have hd : decide ((j : Int) < (n : Int)) = false := by simp; omega
      have hjn : j = n := by omega
      subst hjn
      go_wp2_with fail
      go_ret
      exact ⟨_, rfl, .inl ⟨HF.out, rfl⟩, rfl⟩
set_option maxHeartbeats 2000000 in
theorem contains_any (n c : Nat) (A : Option Addr) (x : Nat → Int) (w : World) (hl : SlG w w.heap.size A n c (iV x)) (hn : n ≤ 9223372036854775807) :
    Calls Try.prog 60 #[.slice A n c, .func (.func 59) #[] #[]] w fun e w' => e = .returned (.bool (decide (nuE x n ≠ 0))) ∧ w = w' := by
  have H1 := Lib.hid (index_any n c A x w hl hn)
  clear hl
  go_enter Try.func60, Try.ntmps60
  go_wp2_with fail
  refine H1.out.mono ?_
  rintro e w1 ⟨r, rfl, h, rfl⟩
  clear H1
  rcases h with ⟨h1, rfl⟩ | ⟨h1, h2⟩
  · have H := Lib.hid h1
    clear h1
    go_wp2_with fail
    go_ret
    exact ⟨by simp [H.out], rfl⟩
  · have hd : decide (0 ≤ r) = true := by simp; omega
    have H := Lib.hid h1
    clear h1 h2
    go_wp2_with fail
    go_ret
    exact ⟨by simp [H.out], rfl⟩

theorem cells4 {w : World} {B : Nat} {a b c d : Value} (h : row w B = some #[a, b, c, d]) : w.cell? ⟨B, 0, none⟩ = some a ∧ w.cell? ⟨B, 1, none⟩ = some b ∧ w.cell? ⟨B, 2, none⟩ = some c ∧ w.cell? ⟨B, 3, none⟩ = some d :=
  ⟨cell_row h 0, cell_row h 1, cell_row h 2, cell_row h 3⟩
/-- the error of an entry's check -/
def enE (t k : Int) (x : Nat → Int) (T n : Nat) : Nat :=
  if inB 0 1099511627776 t = false then 1 else if inB 0 2 k = false then 1 else if nuE x n ≠ 0 then 1 else if 4096 < T then 2 else if 7 < n then 2 else 0
abbrev entV (t k : Int) (d m : Value) : Value := .agg #[.int .i64 t, .int .i64 k, d, m]
set_option maxRecDepth 20000 in
set_option maxHeartbeats 8000000 in
theorem chent_any (t k : Int) (x : Nat → Int) (T n c c' : Nat) (A A' : Option Addr) (w : World) (hl : SlG w w.heap.size A' n c' (iV x)) (hn : n ≤ 9223372036854775807) :
    Calls Try.prog 44 #[entV t k (.slice A T c) (.slice A' n c')] w fun e w' => e = .returned (.int .i64 (enE t k x T n : Nat)) ∧ Below w.heap.size w w' := by
  obtain ⟨E, hE⟩ : ∃ E, E = enE t k x T n := ⟨_, rfl⟩
  rw [← hE]
  unfold enE at hE
  have HL := Lib.hid hl
  obtain ⟨w1, hw1⟩ : ∃ w1, w1 = ((w.alloc (.cells #[.int .i64 t, .int .i64 k, .slice A T c, .slice A' n c'] 43)).alloc (.cells #[.int .i64 0, .int .i64 1099511627776] 70)).alloc (.cells #[.int .i64 0, .int .i64 2] 70) := ⟨_, rfl⟩
  have B1 := Lib.hid (show Below w.heap.size w w1 by rw [hw1]; exact (((Below.refl _ _).alloc (by simp) _).alloc (by simp) _).alloc (by simp; omega) _)
  have R1 := Lib.hid (show row w1 w.heap.size = some #[.int .i64 t, .int .i64 k, .slice A T c, .slice A' n c'] by rw [hw1]; exact row_alloc (row_alloc (row_alloc_at _ _ _ _ rfl) _) _)
  have R2 := Lib.hid (show row w1 (w.heap.size + 1) = some #[.int .i64 0, .int .i64 1099511627776] by rw [hw1]; exact row_alloc (row_alloc_at _ _ _ _ (by simp)) _)
  have R3 := Lib.hid (show row w1 (w.heap.size + 1 + 1) = some #[.int .i64 0, .int .i64 2] by rw [hw1]; exact row_alloc_at _ _ _ _ (by simp))
  have H1 := Lib.hid (has_any 0 1099511627776 t w1)
  obtain ⟨b1, hb1⟩ : ∃ b, b = inB 0 1099511627776 t := ⟨_, rfl⟩
  obtain ⟨b2, hb2⟩ : ∃ b, b = inB 0 2 k := ⟨_, rfl⟩
  obtain ⟨b3, hb3⟩ : ∃ b, b = decide (nuE x n ≠ 0) := ⟨_, rfl⟩
  rw [← hb1, ← hb2] at hE
  rw [← hb1] at H1
  have HE := Lib.hid hE
  have HB2 := Lib.hid hb2
  have HB3 := Lib.hid hb3
  clear hl hb1 hb2 hb3 hE
  go_enter Try.func44, Try.ntmps44
  go_wp2_with fail
  rw [← hw1]
  clear hw1
  refine H1.out.mono ?_
  rintro e w2 ⟨rfl, hb⟩
  have B2 := Lib.hid (onto B1.out B1.out.size hb)
  have q1 := carry hb R1.out
  have q2 := carry hb R2.out
  have q3 := carry hb R3.out
  clear hb H1 R1 R2 R3 B1
  cases b1 with
  | false =>
    have F := Lib.hid (show E = 1 from HE.out)
    go_wp2_with fail
    go_ret
    exact ⟨by rw [F.out]; rfl, B2.out⟩
  | true =>
    obtain ⟨c0, c1, c2, c3⟩ := cells4 q1
    have d0 : w2.cell? ⟨w.heap.size + 1 + 1, 0, none⟩ = some (.int .i64 0) := cell_row q3 0
    have d1 : w2.cell? ⟨w.heap.size + 1 + 1, 1, none⟩ = some (.int .i64 2) := cell_row q3 1
    have H2 := Lib.hid (has_any 0 2 k w2)
    rw [← HB2.out] at H2
    have Q1 := Lib.hid q1
    clear q1 q2 q3
    go_wp2_with fail
    refine H2.out.mono ?_
    rintro e w3 ⟨rfl, hb⟩
    have B3 := Lib.hid (onto B2.out B2.out.size hb)
    have q1 := carry hb Q1.out
    clear hb H2 Q1 B2 c0 c1 c2 c3 d0 d1
    cases b2 with
    | false =>
      have F := Lib.hid (show E = 1 from HE.out)
      go_wp2_with fail
      go_ret
      exact ⟨by rw [F.out]; rfl, B3.out⟩
    | true =>
      obtain ⟨c0, c1, c2, c3⟩ := cells4 q1
      have H3 := Lib.hid (contains_any n c' A' x w3 ((HL.out.below B3.out).more B3.out.size) hn)
      rw [← HB3.out] at H3
      clear q1
      go_wp2_with fail
      refine H3.out.mono ?_
      rintro e w4 ⟨rfl, rfl⟩
      clear H3
      cases b3 with
      | true =>
        have F := Lib.hid (show E = 1 by
          have h3 : nuE x n ≠ 0 := by simpa using HB3.out.symm
          rw [HE.out, if_pos h3]; rfl)
        go_wp2_with fail
        go_ret
        exact ⟨by rw [F.out]; rfl, B3.out⟩
      | false =>
        have HE2 := Lib.hid (show E = if 4096 < T then 2 else if 7 < n then 2 else 0 by
          have h3 : ¬ nuE x n ≠ 0 := by simpa using HB3.out.symm
          rw [HE.out, if_neg h3]; rfl)
        by_cases hT : 4096 < T
        · have hd : decide (4096 < (T : Int)) = true := by simp; omega
          have F := Lib.hid (show E = 2 by rw [HE2.out, if_pos hT])
          clear hT
          go_wp2_with fail
          go_ret
          exact ⟨by rw [F.out]; rfl, B3.out⟩
        · have hd : decide (4096 < (T : Int)) = false := by simp; omega
          by_cases h7 : 7 < n
          · have hd7 : decide (7 < (n : Int)) = true := by simp; omega
            have F := Lib.hid (show E = 2 by rw [HE2.out, if_neg hT, if_pos h7])
            clear hT h7
            go_wp2_with fail
            go_ret
            exact ⟨by rw [F.out]; rfl, B3.out⟩
          · have hd7 : decide (7 < (n : Int)) = false := by simp; omega
            have F := Lib.hid (show E = 0 by rw [HE2.out, if_neg hT, if_neg h7])
            clear hT h7
            go_wp2_with fail
            go_ret
            exact ⟨by rw [F.out]; rfl, B3.out⟩
theorem ent_ok {t k : Int} {x : Nat → Int} {T n : Nat} (h : enE t k x T n = 0) : 0 ≤ t ∧ 0 ≤ k ∧ nuE x n = 0 ∧ T ≤ 4096 ∧ n ≤ 7 := by
  unfold enE at h
  split at h
  · omega
  rename_i h1
  split at h
  · omega
  rename_i h2
  split at h
  · omega
  rename_i h3
  split at h
  · omega
  rename_i h4
  split at h
  · omega
  rename_i h5
  simp [inB] at h1 h2
  exact ⟨h1.1, h2.1, by omega, by omega, by omega⟩
end Go.Proofs.Ytfpkfbojckgcdaa.Oct
