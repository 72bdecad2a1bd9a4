/- The reference's Check. -/
import Derived.Test.YtfpkfbojckgcdaaWiB
namespace Go.Proofs.Ytfpkfbojckgcdaa.Oct
open Go.ChangeShapes Go.WideShapes Go.ChangeAt Go.RowKit
set_option linter.unusedVariables false

/-- which letters a kind has -/
def hS (k : Int) : Bool := decide (3 ≤ k) && decide (k ≤ 10)
def hI (k : Int) : Bool := decide (k = 2) || (decide (4 ≤ k) && decide (k ≤ 7))
def hN (k : Int) : Bool := decide (k = 5) || decide (k = 6)
def hD (k : Int) : Bool := decide (7 ≤ k) && decide (k ≤ 10)
def hB (k : Int) : Bool := decide (7 ≤ k) && decide (k ≤ 9)
def hasS (k : Int) : ByteArray :=
  if k = 1 then ⟨#[]⟩ else if k = 2 then ⟨#[105]⟩ else if k = 3 then ⟨#[115]⟩ else if k = 4 then ⟨#[115, 105]⟩ else if k = 5 then ⟨#[115, 105, 110]⟩ else if k = 6 then ⟨#[115, 105, 110]⟩
  else if k = 7 then ⟨#[115, 105, 100, 98]⟩ else if k = 8 then ⟨#[115, 100, 98]⟩ else if k = 9 then ⟨#[115, 100, 98]⟩ else if k = 10 then ⟨#[115, 100]⟩ else ⟨#[120]⟩
set_option maxHeartbeats 4000000 in
theorem rhas_any (k : Int) (w : World) :
    Calls Try.prog 40 #[.int .i64 k] w fun e w' => e = .returned (.string (hasS k)) ∧ Below w.heap.size w w' := by
  have hcase : k = 1 ∨ k = 2 ∨ k = 3 ∨ k = 4 ∨ k = 5 ∨ k = 6 ∨ k = 7 ∨ k = 8 ∨ k = 9 ∨ k = 10 ∨ k < 1 ∨ 10 < k := by omega
  rcases hcase with rfl | rfl | rfl | rfl | rfl | rfl | rfl | rfl | rfl | rfl | h | h
  case inr.inr.inr.inr.inr.inr.inr.inr.inr.inr.inl =>
    have e : hasS k = ⟨#[120]⟩ := by unfold hasS; rw [if_neg (by omega), if_neg (by omega), if_neg (by omega), if_neg (by omega), if_neg (by omega), if_neg (by omega), if_neg (by omega), if_neg (by omega), if_neg (by omega), if_neg (by omega)]
    have hd : decide (k < 1) = true := by simp; omega
    rw [e]
    clear e
    go_enter Try.func40, Try.ntmps40
    go_wp2_with fail
    go_ret
    exact ⟨rfl, Below.refl _ _⟩
  case inr.inr.inr.inr.inr.inr.inr.inr.inr.inr.inr =>
    have e : hasS k = ⟨#[120]⟩ := by unfold hasS; rw [if_neg (by omega), if_neg (by omega), if_neg (by omega), if_neg (by omega), if_neg (by omega), if_neg (by omega), if_neg (by omega), if_neg (by omega), if_neg (by omega), if_neg (by omega)]
    have hd : decide (k < 1) = false := by simp; omega
    have hd2 : decide (10 < k) = true := by simp; omega
    rw [e]
    clear e
    go_enter Try.func40, Try.ntmps40
    go_wp2_with fail
    go_ret
    exact ⟨rfl, Below.refl _ _⟩
  all_goals
    go_enter Try.func40, Try.ntmps40
    go_wp2_with fail
    go_ret
    exact ⟨rfl, (Below.refl _ _).alloc (by simp) _⟩
/-- a letter is among the first j -/
def inJ (s : ByteArray) (c : Int) : Nat → Bool
  | 0 => false
  | j + 1 => inJ s c j || decide (((s.data.getD j 0).toNat : Int) = c)
theorem inJ_more (s : ByteArray) (c : Int) (j : Nat) (h : inJ s c j = true) : ∀ d, inJ s c (j + d) = true
  | 0 => h
  | d + 1 => by rw [← Nat.add_assoc, inJ, inJ_more s c j h d]; rfl
theorem inJ_at (s : ByteArray) (c : Int) (j : Nat) (h : j < s.size) : inJ s c (j + 1) = (inJ s c j || decide (((s[j]'h).toNat : Int) = c)) := by
  rw [inJ]
  congr 2
  have : s.data.getD j 0 = s[j]'h := by
    show s.data.getD j 0 = s.data[j]
    have h' : j < s.data.size := h
    simp [Array.getD]
    exact dif_pos h
  rw [this]
set_option maxHeartbeats 4000000 in
theorem rin_any (s : ByteArray) (c : Int) (hs : s.size ≤ 10) (w : World) :
    Calls Try.prog 42 #[.string s, .int .u8 c] w fun e w' => e = .returned (.bool (inJ s c s.size)) ∧ w = w' := by
  go_enter Try.func42, Try.ntmps42
  go_wp2_with fail
  go_loopw [5] (fun iv wr => ∃ j : Nat, j ≤ s.size ∧ inJ s c j = false ∧ iv = .int .i64 (j : Int) ∧ wr = w) (fun iv _ => s.size - (intOf iv).toNat)
  case atStart => exact ⟨0, by omega, rfl, rfl, rfl⟩
  case round =>
    obtain ⟨j, hj, hf, rfl, rfl⟩ := hrel
    have HF := Lib.hid hf
    clear hf
    by_cases hlt : j < s.size
    · have hd : decide (j < s.size) = true := by simp; omega
      have HA := Lib.hid (inJ_at s c j hlt)
      by_cases hq : ((s[j]'hlt).toNat : Int) = c
      · have hqb : (((s[j]'hlt).toNat : Int) == c) = true := by simp [hq]
        have HM := Lib.hid (show inJ s c s.size = true by
          have := inJ_more s c (j + 1) (by rw [HA.out, hq]; simp) (s.size - (j + 1))
          rw [show j + 1 + (s.size - (j + 1)) = s.size by omega] at this
          exact this)
        clear hq HA
        go_wp2_with fail
        go_ret
        exact ⟨by simp only [HM.out]; rfl, rfl⟩
      · have hqb : (((s[j]'hlt).toNat : Int) == c) = false := by simp [hq]
        have HM := Lib.hid (show inJ s c (j + 1) = false by rw [HA.out, HF.out]; simp [hq])
        clear hq HA
        go_wp2_with fail
        go_roundw
        case rel => exact ⟨j + 1, by omega, HM.out, rfl, trivial⟩
        case measure => simp [intOf]; omega
    · have hd : decide (j < s.size) = false := by simp; omega
      have HM := Lib.hid (show inJ s c s.size = false by have : s.size = j := by omega
                                                         rw [this]; exact HF.out)
      go_wp2_with fail
      go_ret
      exact ⟨by simp only [HM.out]; rfl, rfl⟩
theorem has_in (k : Int) : (hasS k).size ≤ 10 ∧ inJ (hasS k) 115 (hasS k).size = hS k ∧ inJ (hasS k) 105 (hasS k).size = hI k ∧ inJ (hasS k) 110 (hasS k).size = hN k ∧ inJ (hasS k) 100 (hasS k).size = hD k ∧ inJ (hasS k) 98 (hasS k).size = hB k := by
  have hcase : k = 1 ∨ k = 2 ∨ k = 3 ∨ k = 4 ∨ k = 5 ∨ k = 6 ∨ k = 7 ∨ k = 8 ∨ k = 9 ∨ k = 10 ∨ k < 1 ∨ 10 < k := by omega
  have key : (k < 1 ∨ 10 < k) → hasS k = ⟨#[120]⟩ ∧ hS k = false ∧ hI k = false ∧ hN k = false ∧ hD k = false ∧ hB k = false := fun h => by
    refine ⟨?_, ?_, ?_, ?_, ?_, ?_⟩
    · unfold hasS; rw [if_neg (by omega), if_neg (by omega), if_neg (by omega), if_neg (by omega), if_neg (by omega), if_neg (by omega), if_neg (by omega), if_neg (by omega), if_neg (by omega), if_neg (by omega)]
    · unfold hS; simp; omega
    · unfold hI; simp; omega
    · unfold hN; simp; omega
    · unfold hD; simp; omega
    · unfold hB; simp; omega
  rcases hcase with rfl | rfl | rfl | rfl | rfl | rfl | rfl | rfl | rfl | rfl | h | h
  all_goals first
    | decide
    | (obtain ⟨h1, h2, h3, h4, h5, h6⟩ := key (by omega)
       rw [h1, h2, h3, h4, h5, h6]
       decide)
end Go.Proofs.Ytfpkfbojckgcdaa.Oct
