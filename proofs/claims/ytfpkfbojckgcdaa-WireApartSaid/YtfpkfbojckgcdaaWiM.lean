/- wire's math: parts one behind the other. Of whatever program. -/
import Derived.Test.YtfpkfbojckgcdaaPkN
namespace Go.Proofs.Ytfpkfbojckgcdaa.Oct
open Go.ChangeShapes Go.WideShapes Go.ChangeAt Go.RowKit
set_option linter.unusedVariables false

/-- lengths and bytes of the first j parts -/
def cuL (L : Nat → Nat) : Nat → Nat
  | 0 => 0
  | j + 1 => cuL L j + L j
def cuF (L : Nat → Nat) (F : Nat → Bf) : Nat → Bf
  | 0 => nF
  | j + 1 => catF (cuL L j) (cuF L F j) (F j)
theorem cu_mono (L : Nat → Nat) (j : Nat) : ∀ d, cuL L j ≤ cuL L (j + d)
  | 0 => Nat.le_refl _
  | d + 1 => by have := cu_mono L j d; rw [← Nat.add_assoc, cuL]; omega
theorem cu_ahead (L : Nat → Nat) (F : Nat → Bf) (j i : Nat) (hi : i < cuL L j) : ∀ d, cuF L F (j + d) i = cuF L F j i
  | 0 => rfl
  | d + 1 => by
    have h1 := cu_mono L j d
    rw [← Nat.add_assoc, cuF]
    unfold catF
    rw [if_pos (by omega)]
    exact cu_ahead L F j i hi d
theorem cu_block (L : Nat → Nat) (F : Nat → Bf) (j k i : Nat) (hj : j < k) (hi : i < L j) : cuF L F k (cuL L j + i) = F j i := by
  have h := cu_ahead L F (j + 1) (cuL L j + i) (by rw [cuL]; omega) (k - (j + 1))
  rw [show j + 1 + (k - (j + 1)) = k by omega] at h
  rw [h, cuF]
  unfold catF
  rw [if_neg (by omega), show cuL L j + i - cuL L j = i by omega]
theorem cu_cat (L : Nat → Nat) (F : Nat → Bf) (N j : Nat) (b : Bf) : catF (N + cuL L j) (catF N b (cuF L F j)) (F j) = catF N b (cuF L F (j + 1)) := by rw [catF_assoc]; rfl
/-- the first error of some -/
def fiE (E : Nat → Nat) : Nat → Nat
  | 0 => 0
  | j + 1 => if fiE E j ≠ 0 then fiE E j else E j
theorem fi_stay {E : Nat → Nat} {j : Nat} (h : fiE E j ≠ 0) : ∀ d, fiE E (j + d) = fiE E j
  | 0 => rfl
  | d + 1 => by
    have := fi_stay h d
    rw [← Nat.add_assoc, fiE, if_pos (by rw [this]; exact h), this]
theorem fi_step {E : Nat → Nat} {j : Nat} (h : fiE E j = 0) : fiE E (j + 1) = E j := by rw [fiE, if_neg (fun e => e h)]
theorem fi_all {E : Nat → Nat} : ∀ {n : Nat}, fiE E n = 0 → ∀ j, j ≤ n → fiE E j = 0
  | n, h, j, hj => by
    rcases Nat.eq_zero_or_pos (fiE E j) with e | e
    · exact e
    · have := fi_stay (E := E) (j := j) (by omega) (n - j)
      rw [show j + (n - j) = n by omega] at this
      omega
theorem fi_each {E : Nat → Nat} {n : Nat} (h : fiE E n = 0) (j : Nat) (hj : j < n) : E j = 0 := by rw [← fi_step (fi_all h j (by omega))]; exact fi_all h (j + 1) (by omega)
theorem fi_zero {E : Nat → Nat} : ∀ {n : Nat}, (∀ j, j < n → E j = 0) → fiE E n = 0
  | 0, _ => rfl
  | n + 1, h => by rw [fi_step (fi_zero (n := n) fun j hj => h j (by omega))]; exact h n (by omega)
theorem fi_first {E : Nat → Nat} {n j : Nat} (h : fiE E j = 0) (hj : j < n) (he : E j ≠ 0) : fiE E n = E j := by
  have := fi_stay (E := E) (j := j + 1) (by rw [fi_step h]; exact he) (n - (j + 1))
  rw [show j + 1 + (n - (j + 1)) = n by omega, fi_step h] at this
  exact this
/- numbers -/
def neE (x : Nat → Int) : Nat → Nat := fun i => if x i < 0 then 1 else 0
abbrev nuE (x : Nat → Int) : Nat → Nat := fiE (neE x)
abbrev nuL (x : Nat → Int) : Nat → Nat := cuL (fun i => encL (x i).toNat)
abbrev nuF (x : Nat → Int) : Nat → Bf := cuF (fun i => encL (x i).toNat) (fun i => encF (x i).toNat)
theorem nuL_le (x : Nat → Int) : ∀ j, nuL x j ≤ 9 * j
  | 0 => by simp [nuL, cuL]
  | j + 1 => by have h1 := encL_le (x j).toNat; have h2 : cuL (fun i => encL (x i).toNat) j ≤ 9 * j := nuL_le x j; show cuL (fun i => encL (x i).toNat) j + encL (x j).toNat ≤ 9 * (j + 1); omega
/- two or three by their places -/
def th2 {α : Type} (a b : α) : Nat → α := fun j => if j = 0 then a else b
def th3 {α : Type} (a b c : α) : Nat → α := fun j => if j = 0 then a else if j = 1 then b else c
theorem cu_th3 (L1 L2 L3 : Nat) (F1 F2 F3 : Bf) : cuL (th3 L1 L2 L3) 3 = L1 + L2 + L3 ∧ cuF (th3 L1 L2 L3) (th3 F1 F2 F3) 3 = catF (L1 + L2) (catF L1 F1 F2) F3 := by
  have e1 : cuL (th3 L1 L2 L3) 1 = L1 := by simp [cuL, th3]
  have e2 : cuL (th3 L1 L2 L3) 2 = L1 + L2 := by show cuL (th3 L1 L2 L3) 1 + _ = _; rw [e1]; rfl
  refine ⟨by show cuL (th3 L1 L2 L3) 2 + _ = _; rw [e2]; rfl, ?_⟩
  show catF (cuL (th3 L1 L2 L3) 2) (catF (cuL (th3 L1 L2 L3) 1) (catF 0 nF F1) F2) F3 = _
  rw [e1, e2, catF_zero]
theorem cu_th2 (L1 L2 : Nat) (F1 F2 : Bf) : cuL (th2 L1 L2) 2 = L1 + L2 ∧ cuF (th2 L1 L2) (th2 F1 F2) 2 = catF L1 F1 F2 := by
  have e1 : cuL (th2 L1 L2) 1 = L1 := by simp [cuL, th2]
  refine ⟨by show cuL (th2 L1 L2) 1 + _ = _; rw [e1]; rfl, ?_⟩
  show catF (cuL (th2 L1 L2) 1) (catF 0 nF F1) F2 = _
  rw [e1, catF_zero]
theorem cu_th2_1 (a b : Nat) : cuL (th2 a b) 1 = a := by simp [cuL, th2]
theorem txL_le (T : Nat) : txL T ≤ 9 + T := by have := encL_le T; unfold txL; omega
end Go.Proofs.Ytfpkfbojckgcdaa.Oct
