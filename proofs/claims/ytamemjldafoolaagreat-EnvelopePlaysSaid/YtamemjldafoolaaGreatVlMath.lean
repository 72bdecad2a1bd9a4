/- Program-free: a place's nonce, and that different places have different ones. -/
import Derived.Test.YtamemjldafoolaaGreatGcmAll
import Derived.Test.YtamemjldafoolaaGreatConcat
namespace Go.Proofs.YtamemjldafoolaaGreat.Oct
set_option linter.unusedVariables false

/-- the nonce of a place -/
def nonF (d t x : Nat) : Bf := catF 6 (catF 1 (beN 1 d) (beN 5 t)) (beN 6 x)
/-- are the numbers a place? -/
def mayB (d t x : Int) : Bool := decide (0 ≤ d) && decide (d < 256) && decide (0 ≤ t) && decide (t < 1099511627776) && decide (0 ≤ x) && decide (x < 1099511627776)
theorem mayB_iff {d t x : Int} : mayB d t x = true ↔ (0 ≤ d ∧ d < 256) ∧ (0 ≤ t ∧ t < 1099511627776) ∧ (0 ≤ x ∧ x < 1099511627776) := by
  unfold mayB
  simp only [Bool.and_eq_true, decide_eq_true_eq, and_assoc]
theorem mayB_not {d t x : Int} (h : mayB d t x = false) : ¬ ((0 ≤ d ∧ d < 256) ∧ (0 ≤ t ∧ t < 1099511627776) ∧ (0 ≤ x ∧ x < 1099511627776)) := by
  intro h'
  rw [mayB_iff.2 h'] at h
  cases h
/-- what Nonce answers -/
def nonU (d t x : Int) : Bf := if mayB d t x = true then nonF d.toNat t.toNat x.toNat else fun _ => 0#8
def errU (d t x : Int) : Int := if mayB d t x = true then 0 else 1

theorem beN_succ (m x i : Nat) (h : i < m) : beN (m + 1) x i = beN m (x / 256) i := by
  unfold beN
  rw [Nat.div_div_eq_div_mul, show m + 1 - 1 - i = (m - 1 - i) + 1 by omega, Nat.pow_succ, Nat.mul_comm]
theorem beN_inj (m : Nat) : ∀ x y : Nat, x < 256 ^ m → y < 256 ^ m → (∀ i, i < m → beN m x i = beN m y i) → x = y := by
  induction m with
  | zero => intro x y hx hy _; rw [Nat.pow_zero] at hx hy; omega
  | succ m ih =>
    intro x y hx hy h
    have h1 : x / 256 = y / 256 := ih _ _ (by rw [Nat.pow_succ] at hx; omega) (by rw [Nat.pow_succ] at hy; omega) fun i hi => by
      rw [← beN_succ m x i hi, ← beN_succ m y i hi]; exact h i (by omega)
    have h2 := h m (by omega)
    unfold beN at h2
    rw [show m + 1 - 1 - m = 0 by omega, Nat.pow_zero, Nat.div_one, Nat.div_one] at h2
    have h3 := congrArg BitVec.toNat h2
    rw [BitVec.toNat_ofNat, BitVec.toNat_ofNat] at h3
    omega
theorem nonF_inj {d t x d' t' x' : Nat} (hd : d < 256) (ht : t < 1099511627776) (hx : x < 1099511627776) (hd' : d' < 256) (ht' : t' < 1099511627776) (hx' : x' < 1099511627776)
    (h : ∀ i, i < 12 → nonF d t x i = nonF d' t' x' i) : d = d' ∧ t = t' ∧ x = x' := by
  refine ⟨beN_inj 1 _ _ hd hd' fun i hi => ?_, beN_inj 5 _ _ ht ht' fun i hi => ?_, beN_inj 6 _ _ (by omega) (by omega) fun i hi => ?_⟩
  · have := h i (by omega)
    unfold nonF catF at this
    rw [if_pos (by omega), if_pos (by omega), if_pos (by omega), if_pos (by omega)] at this
    exact this
  · have := h (i + 1) (by omega)
    unfold nonF catF at this
    rw [if_pos (by omega), if_neg (by omega), if_pos (by omega), if_neg (by omega), Nat.add_sub_cancel] at this
    exact this
  · have := h (i + 6) (by omega)
    unfold nonF catF at this
    rw [if_neg (by omega), if_neg (by omega), Nat.add_sub_cancel] at this
    exact this
end Go.Proofs.YtamemjldafoolaaGreat.Oct
