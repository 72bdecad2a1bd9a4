/- wire's Check: what a command's numbers and lengths must be; contracts of span.has, shapeOf, fits, Check. -/
import Derived.Test.YtfpkfbojckgcdaaPkV
import Derived.Deep.DeepCutAuto
namespace Go.Proofs.Ytfpkfbojckgcdaa.Oct
open Go.ChangeShapes Go.WideShapes Go.ChangeAt Go.RowKit
set_option linter.unusedVariables false

/-- from a to b -/
def inB (a b x : Int) : Bool := decide (a ≤ x) && decide (x ≤ b)
set_option maxHeartbeats 1000000 in
theorem has_any (a b x : Int) (w : World) :
    Calls Try.prog 58 #[.agg #[.int .i64 a, .int .i64 b], .int .i64 x] w fun e w' => e = .returned (.bool (inB a b x)) ∧ Below w.heap.size w w' := by
  by_cases h1 : a ≤ x
  · have hd1 : decide (a ≤ x) = true := by simp; omega
    by_cases h2 : x ≤ b
    · have hd2 : decide (x ≤ b) = true := by simp; omega
      have hI := Lib.hid (show inB a b x = true by unfold inB; rw [hd1, hd2]; rfl)
      go_enter Try.func58, Try.ntmps58
      go_wp2_with fail
      go_ret
      exact ⟨by rw [hI.out]; rfl, (Below.refl _ _).alloc (Nat.le_refl _) _⟩
    · have hd2 : decide (x ≤ b) = false := by simp; omega
      have hI := Lib.hid (show inB a b x = false by unfold inB; rw [hd1, hd2]; rfl)
      go_enter Try.func58, Try.ntmps58
      go_wp2_with fail
      go_ret
      exact ⟨by rw [hI.out]; rfl, (Below.refl _ _).alloc (Nat.le_refl _) _⟩
  · have hd1 : decide (a ≤ x) = false := by simp; omega
    have hI := Lib.hid (show inB a b x = false by unfold inB; rw [hd1]; rfl)
    go_enter Try.func58, Try.ntmps58
    go_wp2_with fail
    go_ret
    exact ⟨by rw [hI.out]; rfl, (Below.refl _ _).alloc (Nat.le_refl _) _⟩

/-- the twelve numbers of a kind's shape -/
def shN (k : Int) : List Int :=
  if k = 1 then [0, 0, 0, 0, 0, 0, 0, 0, 0, 0, 0, 0]
  else if k = 2 then [0, 0, 0, 0, 1, 1099511627776, 0, 0, 0, 0, 0, 0]
  else if k = 3 then [1, 1099511627776, 1, 1099511627776, 0, 0, 0, 0, 0, 0, 0, 0]
  else if k = 4 then [1, 1099511627776, 1, 1099511627776, 1, 1099511627776, 0, 0, 0, 0, 0, 0]
  else if k = 5 then [1, 1099511627776, 1, 1099511627776, 1, 1099511627776, 0, 1, 0, 0, 0, 0]
  else if k = 6 then [1, 1099511627776, 1, 1099511627776, 1, 1099511627776, 1, 9223372036854775807, 0, 0, 0, 0]
  else if k = 7 then [1, 1099511627776, 1, 1099511627776, 1, 1099511627776, 0, 0, 0, 64, 0, 32]
  else if k = 8 then [1, 1099511627776, 1, 1099511627776, 0, 0, 0, 0, 0, 128, 0, 32]
  else if k = 9 then [1, 1099511627776, 1, 1099511627776, 0, 0, 0, 0, 0, 128, 0, 32]
  else if k = 10 then [1, 1099511627776, 1, 1099511627776, 0, 0, 0, 0, 1, 64, 0, 0]
  else [0, 0, 0, 0, 0, 0, 0, 0, 0, 0, 0, 0]
def sh (k : Int) (j : Nat) : Int := (shN k).getD j 0
theorem shape_below (w : World) (a b c : Array Value) (t u v : TypeId) : Below w.heap.size w (((w.alloc (.cells a t)).alloc (.cells b u)).alloc (.cells c v)) :=
  (((Below.refl _ _).alloc (by simp) _).alloc (by simp) _).alloc (by simp; omega) _
def kiB (k : Int) : Bool := decide (1 ≤ k) && decide (k ≤ 10)
set_option maxHeartbeats 4000000 in
theorem shape_any (k : Int) (w : World) :
    Calls Try.prog 38 #[.int .i64 k] w fun e w' => e = .returned (.tuple #[.agg #[.int .i64 (sh k 0), .int .i64 (sh k 1), .int .i64 (sh k 2), .int .i64 (sh k 3), .int .i64 (sh k 4), .int .i64 (sh k 5), .int .i64 (sh k 6), .int .i64 (sh k 7), .int .i64 (sh k 8), .int .i64 (sh k 9), .int .i64 (sh k 10), .int .i64 (sh k 11)], .bool (kiB k)]) ∧ Below w.heap.size w w' := by
  have hcase : k = 1 ∨ k = 2 ∨ k = 3 ∨ k = 4 ∨ k = 5 ∨ k = 6 ∨ k = 7 ∨ k = 8 ∨ k = 9 ∨ k = 10 ∨ (k ≠ 1 ∧ k ≠ 2 ∧ k ≠ 3 ∧ k ≠ 4 ∧ k ≠ 5 ∧ k ≠ 6 ∧ k ≠ 7 ∧ k ≠ 8 ∧ k ≠ 9 ∧ k ≠ 10) := by omega
  rcases hcase with rfl | rfl | rfl | rfl | rfl | rfl | rfl | rfl | rfl | rfl | ⟨h1, h2, h3, h4, h5, h6, h7, h8, h9, h10⟩
  · go_enter Try.func38, Try.ntmps38
    go_wp2_with fail
    exact bodyPost_ret (v := .tuple #[.agg #[.int .i64 (sh 1 0), .int .i64 (sh 1 1), .int .i64 (sh 1 2), .int .i64 (sh 1 3), .int .i64 (sh 1 4), .int .i64 (sh 1 5), .int .i64 (sh 1 6), .int .i64 (sh 1 7), .int .i64 (sh 1 8), .int .i64 (sh 1 9), .int .i64 (sh 1 10), .int .i64 (sh 1 11)], .bool (kiB 1)]) (by simp [results, Try.results38, go_sem]; decide) rfl ⟨rfl, shape_below w _ _ _ _ _ _⟩
  · go_enter Try.func38, Try.ntmps38
    go_wp2_with fail
    exact bodyPost_ret (v := .tuple #[.agg #[.int .i64 (sh 2 0), .int .i64 (sh 2 1), .int .i64 (sh 2 2), .int .i64 (sh 2 3), .int .i64 (sh 2 4), .int .i64 (sh 2 5), .int .i64 (sh 2 6), .int .i64 (sh 2 7), .int .i64 (sh 2 8), .int .i64 (sh 2 9), .int .i64 (sh 2 10), .int .i64 (sh 2 11)], .bool (kiB 2)]) (by simp [results, Try.results38, go_sem]; decide) rfl ⟨rfl, shape_below w _ _ _ _ _ _⟩
  · go_enter Try.func38, Try.ntmps38
    go_wp2_with fail
    exact bodyPost_ret (v := .tuple #[.agg #[.int .i64 (sh 3 0), .int .i64 (sh 3 1), .int .i64 (sh 3 2), .int .i64 (sh 3 3), .int .i64 (sh 3 4), .int .i64 (sh 3 5), .int .i64 (sh 3 6), .int .i64 (sh 3 7), .int .i64 (sh 3 8), .int .i64 (sh 3 9), .int .i64 (sh 3 10), .int .i64 (sh 3 11)], .bool (kiB 3)]) (by simp [results, Try.results38, go_sem]; decide) rfl ⟨rfl, shape_below w _ _ _ _ _ _⟩
  · go_enter Try.func38, Try.ntmps38
    go_wp2_with fail
    exact bodyPost_ret (v := .tuple #[.agg #[.int .i64 (sh 4 0), .int .i64 (sh 4 1), .int .i64 (sh 4 2), .int .i64 (sh 4 3), .int .i64 (sh 4 4), .int .i64 (sh 4 5), .int .i64 (sh 4 6), .int .i64 (sh 4 7), .int .i64 (sh 4 8), .int .i64 (sh 4 9), .int .i64 (sh 4 10), .int .i64 (sh 4 11)], .bool (kiB 4)]) (by simp [results, Try.results38, go_sem]; decide) rfl ⟨rfl, shape_below w _ _ _ _ _ _⟩
  · go_enter Try.func38, Try.ntmps38
    go_wp2_with fail
    exact bodyPost_ret (v := .tuple #[.agg #[.int .i64 (sh 5 0), .int .i64 (sh 5 1), .int .i64 (sh 5 2), .int .i64 (sh 5 3), .int .i64 (sh 5 4), .int .i64 (sh 5 5), .int .i64 (sh 5 6), .int .i64 (sh 5 7), .int .i64 (sh 5 8), .int .i64 (sh 5 9), .int .i64 (sh 5 10), .int .i64 (sh 5 11)], .bool (kiB 5)]) (by simp [results, Try.results38, go_sem]; decide) rfl ⟨rfl, shape_below w _ _ _ _ _ _⟩
  · go_enter Try.func38, Try.ntmps38
    go_wp2_with fail
    exact bodyPost_ret (v := .tuple #[.agg #[.int .i64 (sh 6 0), .int .i64 (sh 6 1), .int .i64 (sh 6 2), .int .i64 (sh 6 3), .int .i64 (sh 6 4), .int .i64 (sh 6 5), .int .i64 (sh 6 6), .int .i64 (sh 6 7), .int .i64 (sh 6 8), .int .i64 (sh 6 9), .int .i64 (sh 6 10), .int .i64 (sh 6 11)], .bool (kiB 6)]) (by simp [results, Try.results38, go_sem]; decide) rfl ⟨rfl, shape_below w _ _ _ _ _ _⟩
  · go_enter Try.func38, Try.ntmps38
    go_wp2_with fail
    exact bodyPost_ret (v := .tuple #[.agg #[.int .i64 (sh 7 0), .int .i64 (sh 7 1), .int .i64 (sh 7 2), .int .i64 (sh 7 3), .int .i64 (sh 7 4), .int .i64 (sh 7 5), .int .i64 (sh 7 6), .int .i64 (sh 7 7), .int .i64 (sh 7 8), .int .i64 (sh 7 9), .int .i64 (sh 7 10), .int .i64 (sh 7 11)], .bool (kiB 7)]) (by simp [results, Try.results38, go_sem]; decide) rfl ⟨rfl, shape_below w _ _ _ _ _ _⟩
  · go_enter Try.func38, Try.ntmps38
    go_wp2_with fail
    exact bodyPost_ret (v := .tuple #[.agg #[.int .i64 (sh 8 0), .int .i64 (sh 8 1), .int .i64 (sh 8 2), .int .i64 (sh 8 3), .int .i64 (sh 8 4), .int .i64 (sh 8 5), .int .i64 (sh 8 6), .int .i64 (sh 8 7), .int .i64 (sh 8 8), .int .i64 (sh 8 9), .int .i64 (sh 8 10), .int .i64 (sh 8 11)], .bool (kiB 8)]) (by simp [results, Try.results38, go_sem]; decide) rfl ⟨rfl, shape_below w _ _ _ _ _ _⟩
  · go_enter Try.func38, Try.ntmps38
    go_wp2_with fail
    exact bodyPost_ret (v := .tuple #[.agg #[.int .i64 (sh 9 0), .int .i64 (sh 9 1), .int .i64 (sh 9 2), .int .i64 (sh 9 3), .int .i64 (sh 9 4), .int .i64 (sh 9 5), .int .i64 (sh 9 6), .int .i64 (sh 9 7), .int .i64 (sh 9 8), .int .i64 (sh 9 9), .int .i64 (sh 9 10), .int .i64 (sh 9 11)], .bool (kiB 9)]) (by simp [results, Try.results38, go_sem]; decide) rfl ⟨rfl, shape_below w _ _ _ _ _ _⟩
  · go_enter Try.func38, Try.ntmps38
    go_wp2_with fail
    exact bodyPost_ret (v := .tuple #[.agg #[.int .i64 (sh 10 0), .int .i64 (sh 10 1), .int .i64 (sh 10 2), .int .i64 (sh 10 3), .int .i64 (sh 10 4), .int .i64 (sh 10 5), .int .i64 (sh 10 6), .int .i64 (sh 10 7), .int .i64 (sh 10 8), .int .i64 (sh 10 9), .int .i64 (sh 10 10), .int .i64 (sh 10 11)], .bool (kiB 10)]) (by simp [results, Try.results38, go_sem]; decide) rfl ⟨rfl, shape_below w _ _ _ _ _ _⟩
  · have e1 : (k == 1) = false := by simp; omega
    have e2 : (k == 2) = false := by simp; omega
    have e3 : (k == 3) = false := by simp; omega
    have e4 : (k == 4) = false := by simp; omega
    have e5 : (k == 5) = false := by simp; omega
    have e6 : (k == 6) = false := by simp; omega
    have e7 : (k == 7) = false := by simp; omega
    have e8 : (k == 8) = false := by simp; omega
    have e9 : (k == 9) = false := by simp; omega
    have e10 : (k == 10) = false := by simp; omega
    have HZ := Lib.hid (show (∀ j, j < 12 → sh k j = 0) ∧ kiB k = false from ⟨fun j hj => by
      unfold sh shN
      simp only [h1, h2, h3, h4, h5, h6, h7, h8, h9, h10, if_false]
      have : j = 0 ∨ j = 1 ∨ j = 2 ∨ j = 3 ∨ j = 4 ∨ j = 5 ∨ j = 6 ∨ j = 7 ∨ j = 8 ∨ j = 9 ∨ j = 10 ∨ j = 11 := by omega
      rcases this with rfl | rfl | rfl | rfl | rfl | rfl | rfl | rfl | rfl | rfl | rfl | rfl <;> rfl, by unfold kiB; simp; omega⟩)
    clear h1 h2 h3 h4 h5 h6 h7 h8 h9 h10
    go_enter Try.func38, Try.ntmps38
    go_wp2_with fail
    exact bodyPost_ret (v := .tuple #[.agg #[.int .i64 (sh k 0), .int .i64 (sh k 1), .int .i64 (sh k 2), .int .i64 (sh k 3), .int .i64 (sh k 4), .int .i64 (sh k 5), .int .i64 (sh k 6), .int .i64 (sh k 7), .int .i64 (sh k 8), .int .i64 (sh k 9), .int .i64 (sh k 10), .int .i64 (sh k 11)], .bool (kiB k)]) (by simp [results, Try.results38, go_sem]; exact ⟨⟨(HZ.out.1 0 (by omega)).symm, (HZ.out.1 1 (by omega)).symm, (HZ.out.1 2 (by omega)).symm, (HZ.out.1 3 (by omega)).symm, (HZ.out.1 4 (by omega)).symm, (HZ.out.1 5 (by omega)).symm, (HZ.out.1 6 (by omega)).symm, (HZ.out.1 7 (by omega)).symm, (HZ.out.1 8 (by omega)).symm, (HZ.out.1 9 (by omega)).symm, (HZ.out.1 10 (by omega)).symm, (HZ.out.1 11 (by omega)).symm⟩, HZ.out.2⟩) rfl ⟨rfl, shape_below w _ _ _ _ _ _⟩
end Go.Proofs.Ytfpkfbojckgcdaa.Oct
