/- Both checks of a command are the same. -/
import Derived.Test.YtfpkfbojckgcdaaWiD
namespace Go.Proofs.Ytfpkfbojckgcdaa.Oct
open Go.ChangeShapes Go.WideShapes Go.ChangeAt Go.RowKit
set_option linter.unusedVariables false

theorem rok_chk (k s q i n : Int) (T U : Nat) (hn : n < 9223372036854775808) : rokB k s q i n T U = chkB k s q i n T U := by
  have hcase : k = 1 ∨ k = 2 ∨ k = 3 ∨ k = 4 ∨ k = 5 ∨ k = 6 ∨ k = 7 ∨ k = 8 ∨ k = 9 ∨ k = 10 ∨ k < 1 ∨ 10 < k := by omega
  have key : (k < 1 ∨ 10 < k) → kiB k = false := fun h => by unfold kiB; simp; omega
  rcases hcase with rfl | rfl | rfl | rfl | rfl | rfl | rfl | rfl | rfl | rfl | h | h
  case inr.inr.inr.inr.inr.inr.inr.inr.inr.inr.inl => unfold rokB chkB; rw [key (.inl h)]; rfl
  case inr.inr.inr.inr.inr.inr.inr.inr.inr.inr.inr => unfold rokB chkB; rw [key (.inr h)]; rfl
  all_goals
    rw [Bool.eq_iff_iff]
    simp [rokB, chkB, kiB, fitB, inB, numB, okN, mostD, hS, hI, hN, hD, hB, sh, shN]
    omega
theorem rchk_any (k s q i n : Int) (T U c c' : Nat) (A A' : Option Addr) (w : World) (hn : n < 9223372036854775808) :
    Calls Try.prog 17 #[comV k s q i n (.slice A T c) (.slice A' U c')] w fun e w' => e = .returned (.int .i64 (chkE k s q i n T U : Nat)) ∧ Below w.heap.size w w' := by
  refine (rcheck_any k s q i n T U c c' A A' w).mono ?_
  rintro e w' ⟨rfl, hb⟩
  refine ⟨?_, hb⟩
  unfold chkE
  rw [rok_chk k s q i n T U hn]
  cases chkB k s q i n T U <;> rfl
/-- what a command that may be has: numbers that are not negative, texts that are short -/
theorem chk_ok {k s q i n : Int} {T U : Nat} (h : chkE k s q i n T U = 0) : 0 ≤ k ∧ 0 ≤ s ∧ 0 ≤ q ∧ 0 ≤ i ∧ 0 ≤ n ∧ T ≤ 128 ∧ U ≤ 32 := by
  have h' : chkB k s q i n T U = true := by unfold chkE at h; cases hb : chkB k s q i n T U with
    | true => rfl
    | false => rw [hb] at h; simp at h
  have hk : kiB k = true := by unfold chkB at h'; cases hb : kiB k with
    | true => rfl
    | false => rw [hb] at h'; simp at h'
  have hcase : k = 1 ∨ k = 2 ∨ k = 3 ∨ k = 4 ∨ k = 5 ∨ k = 6 ∨ k = 7 ∨ k = 8 ∨ k = 9 ∨ k = 10 := by unfold kiB at hk; simp at hk; omega
  clear h hk
  rcases hcase with rfl | rfl | rfl | rfl | rfl | rfl | rfl | rfl | rfl | rfl
  all_goals
    simp [chkB, kiB, fitB, inB, sh, shN] at h'
    omega
theorem chk_codes (k s q i n : Int) (T U : Nat) : chkE k s q i n T U = 0 ∨ chkE k s q i n T U = 1 := by unfold chkE; split <;> simp
end Go.Proofs.Ytfpkfbojckgcdaa.Oct
