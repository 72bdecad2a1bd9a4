/- Layer 14's kind. -/
import Derived.Test.YtamemjldafoolaaGreatEvS
namespace Go.Proofs.YtamemjldafoolaaGreat.Oct
open Go.ChangeShapes Go.WideShapes Go.ChangeAt Go.RowKit
set_option linter.unusedVariables false

/-- which of n kinds -/
def kdE (c : Int) (n : Int) : Int := (if c < 0 then -(c + 1) else c) % n
theorem kdE_nn (c n : Int) (hn : 0 < n) : 0 ≤ kdE c n ∧ kdE c n < n := ⟨Int.emod_nonneg _ (by omega), Int.emod_lt_of_pos _ hn⟩
theorem kindE_any (c n : Int) (hc : -9223372036854775808 ≤ c ∧ c < 9223372036854775808) (hn : 0 < n ∧ n < 1000) (w : World) :
    Calls Tryz.prog 7 #[.int .i64 c, .int .i64 n] w fun e w' => e = .returned (.int .i64 (kdE c n)) ∧ w = w' := by
  by_cases h : c < 0
  · have hd : decide (c < 0) = true := by simpa using h
    have e : kdE c n = (-(c + 1)).tmod n := by unfold kdE; rw [if_pos h, Int.tmod_eq_emod_of_nonneg (by omega)]
    rw [e]
    have h1 : -9223372036854775808 ≤ (-(c + 1)).tmod n ∧ (-(c + 1)).tmod n < 9223372036854775808 := by
      rw [Int.tmod_eq_emod_of_nonneg (by omega)]
      have := Int.emod_nonneg (-(c + 1)) (show n ≠ 0 by omega)
      have := Int.emod_lt_of_pos (-(c + 1)) hn.1
      omega
    go_enter Tryz.func7, Tryz.ntmps7
    go_wp2
    go_ret
    refine ⟨?_, rfl⟩
    show Ending.returned (Value.int .i64 (-((c + 1).tmod n))) = _
    rw [Int.neg_tmod]
  · have hd : decide (c < 0) = false := by simpa using h
    have e : kdE c n = c % n := by unfold kdE; rw [if_neg h]
    rw [e]
    have h1 : -9223372036854775808 ≤ c % n ∧ c % n < 9223372036854775808 := by
      have := Int.emod_nonneg c (show n ≠ 0 by omega)
      have := Int.emod_lt_of_pos c hn.1
      omega
    go_enter Tryz.func7, Tryz.ntmps7
    go_wp2
    go_ret
    exact ⟨rfl, rfl⟩
end Go.Proofs.YtamemjldafoolaaGreat.Oct
