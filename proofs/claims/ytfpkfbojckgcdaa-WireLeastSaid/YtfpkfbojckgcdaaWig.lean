/- Least: what Check says of a kind's least command, and of it with a field that is negative. -/
import Derived.Test.YtfpkfbojckgcdaaWie
namespace Go.Proofs.Ytfpkfbojckgcdaa.Oct
open Go.ChangeShapes Go.WideShapes Go.ChangeAt Go.RowKit
set_option linter.unusedVariables false

theorem chk_one {k s q i n : Int} {T U : Nat} (h : chkE k s q i n T U ≠ 0) : chkE k s q i n T U = 1 := (chk_codes k s q i n T U).resolve_left h
theorem chk_neg {k s q i n : Int} {T U : Nat} (h : s < 0 ∨ q < 0 ∨ i < 0 ∨ n < 0) : chkE k s q i n T U = 1 := chk_one fun e => by
  obtain ⟨_, h1, h2, h3, h4, _, _⟩ := chk_ok e
  omega
theorem chk_kind {k s q i n : Int} {T U : Nat} (h : k < 1 ∨ 10 < k) : chkE k s q i n T U = 1 := by
  unfold chkE chkB
  have : kiB k = false := by
    unfold kiB
    rcases h with h | h
    · rw [decide_eq_false (by omega)]; rfl
    · rw [decide_eq_false (p := k ≤ 10) (by omega), Bool.and_false]
  rw [this]
  rfl
theorem chk_least {k s q i n : Int} {T : Nat} (h1 : 1 ≤ k) (h2 : k ≤ 10) (hs : (3 ≤ k → 1 ≤ s ∧ s ≤ 1000) ∧ (¬ 3 ≤ k → s = 0)) (hq : (3 ≤ k → 1 ≤ q ∧ q ≤ 1000) ∧ (¬ 3 ≤ k → q = 0))
    (hi : ((k = 2 ∨ (4 ≤ k ∧ k ≤ 7)) → i = 1) ∧ (¬ (k = 2 ∨ (4 ≤ k ∧ k ≤ 7)) → i = 0)) (hn : (k = 6 → n = 1) ∧ (k ≠ 6 → n = 0)) (hT : (k = 10 → T = 1) ∧ (k ≠ 10 → T = 0)) : chkE k s q i n T 0 = 0 := by
  have hc : k = 1 ∨ k = 2 ∨ k = 3 ∨ k = 4 ∨ k = 5 ∨ k = 6 ∨ k = 7 ∨ k = 8 ∨ k = 9 ∨ k = 10 := by omega
  have e : ∀ {a b x : Int}, a ≤ x → x ≤ b → inB a b x = true := fun ha hb => by unfold inB; rw [decide_eq_true ha, decide_eq_true hb]; rfl
  have g : ∀ {k' : Int}, kiB k' = true → fitB (sh k') s q i n T 0 = true → chkE k' s q i n T 0 = 0 := fun ha hb => by unfold chkE chkB; rw [ha, hb]; rfl
  rcases hc with rfl | rfl | rfl | rfl | rfl | rfl | rfl | rfl | rfl | rfl
  all_goals
    refine g (by decide) ?_
    unfold fitB
    rw [e (a := _) (x := s) (by simp [sh, shN] <;> omega) (by simp [sh, shN] <;> omega), e (x := q) (by simp [sh, shN] <;> omega) (by simp [sh, shN] <;> omega), e (x := i) (by simp [sh, shN] <;> omega) (by simp [sh, shN] <;> omega),
      e (x := n) (by simp [sh, shN] <;> omega) (by simp [sh, shN] <;> omega), e (x := (T : Int)) (by simp [sh, shN] <;> omega) (by simp [sh, shN] <;> omega), e (x := ((0 : Nat) : Int)) (by simp [sh, shN]) (by simp [sh, shN])]
    rfl

/- stores into a command's block -/
theorem st7 {w w0 : World} {B j : Nat} {cs ds : Array Value} {v : Value} (h : row w B = some cs) (hb : Below B w0 w) (hd : cs.setIfInBounds j v = ds) : row (w.setCell ⟨B, j, none⟩ v) B = some ds ∧ Below B w0 (w.setCell ⟨B, j, none⟩ v) := by
  rw [setCell_row h, hd]
  exact ⟨row_setRow h _, below_setRow hb (Nat.le_refl _) _⟩
section
variable {w w0 : World} {B : Nat} {a b c d e f g : Value}
theorem st7_1 (v : Value) (h : row w B = some #[a, b, c, d, e, f, g]) (hb : Below B w0 w) : row (w.setCell ⟨B, 1, none⟩ v) B = some #[a, v, c, d, e, f, g] ∧ Below B w0 (w.setCell ⟨B, 1, none⟩ v) := st7 h hb rfl
theorem st7_2 (v : Value) (h : row w B = some #[a, b, c, d, e, f, g]) (hb : Below B w0 w) : row (w.setCell ⟨B, 2, none⟩ v) B = some #[a, b, v, d, e, f, g] ∧ Below B w0 (w.setCell ⟨B, 2, none⟩ v) := st7 h hb rfl
theorem st7_3 (v : Value) (h : row w B = some #[a, b, c, d, e, f, g]) (hb : Below B w0 w) : row (w.setCell ⟨B, 3, none⟩ v) B = some #[a, b, c, v, e, f, g] ∧ Below B w0 (w.setCell ⟨B, 3, none⟩ v) := st7 h hb rfl
theorem st7_4 (v : Value) (h : row w B = some #[a, b, c, d, e, f, g]) (hb : Below B w0 w) : row (w.setCell ⟨B, 4, none⟩ v) B = some #[a, b, c, d, v, f, g] ∧ Below B w0 (w.setCell ⟨B, 4, none⟩ v) := st7 h hb rfl
theorem st7_5 (v : Value) (h : row w B = some #[a, b, c, d, e, f, g]) (hb : Below B w0 w) : row (w.setCell ⟨B, 5, none⟩ v) B = some #[a, b, c, d, e, v, g] ∧ Below B w0 (w.setCell ⟨B, 5, none⟩ v) := st7 h hb rfl
end
end Go.Proofs.Ytfpkfbojckgcdaa.Oct
