/- Plain mathematics of AES as the program reckons it: blocks and words as functions of the index. No program is named here. -/
import Derived.Test.YtokhldihfbaeoaaBf
import Derived.Test.YtokhldihfbaeoaaOctMath
namespace Go.Proofs.Ytokhldihfbaeoaa.Oct

def subF (f : Bf) : Bf := fun i => box (f i)
def shiftF (f : Bf) : Bf := fun i => f ((i / 4 + i % 4) % 4 * 4 + i % 4)
def mixF (f : Bf) : Bf := fun i =>
  (mul (f i) 2#8 ^^^ mul (f (4 * (i / 4) + (i % 4 + 1) % 4)) 3#8) ^^^ (f (4 * (i / 4) + (i % 4 + 2) % 4) ^^^ f (4 * (i / 4) + (i % 4 + 3) % 4))
def rndF (s k : Bf) (last : Bool) : Bf := xorF (if last then shiftF (subF s) else mixF (shiftF (subF s))) k
def rotF (f : Bf) : Bf := fun i => f ((i + 1) % 4)

/- the key schedule: all its bytes one behind the other -/
def pwr : Nat → BitVec 8
  | 0 => 1#8
  | n + 1 => t2 (pwr n)
/-- byte j of word i, of the words ahead -/
def newW (f : Bf) (i : Nat) : Bf := fun j =>
  f (4 * (i - 8) + j) ^^^ (if i % 8 = 0 then box (f (4 * (i - 1) + (j + 1) % 4)) ^^^ (if j = 0 then pwr (i / 8 - 1) else 0#8) else if i % 8 = 4 then box (f (4 * (i - 1) + j)) else f (4 * (i - 1) + j))
def expT (k : Bf) : Nat → Bf
  | 0 => k
  | n + 1 => fun p => if p / 4 = n + 8 then newW (expT k n) (n + 8) (p % 4) else expT k n p
def expF (k : Bf) : Bf := expT k 52

theorem expT_stay (k : Bf) (n : Nat) : ∀ d p, p / 4 < n + 8 → expT k (n + d) p = expT k n p := by
  intro d
  induction d with
  | zero => intro p _; rfl
  | succ d ih =>
    intro p h
    show (if p / 4 = n + d + 8 then _ else expT k (n + d) p) = _
    rw [if_neg (by omega), ih p h]
theorem exp_key (k : Bf) (p : Nat) (h : p < 32) : expF k p = k p := expT_stay k 0 52 p (by omega)
theorem newW_same {f g : Bf} {i j : Nat} (hi : 8 ≤ i) (hj : j < 4) (h : ∀ p, p / 4 < i → f p = g p) : newW f i j = newW g i j := by
  unfold newW
  rw [h _ (by omega), h (4 * (i - 1) + (j + 1) % 4) (by omega), h (4 * (i - 1) + j) (by omega)]
theorem exp_rec (k : Bf) (i j : Nat) (h8 : 8 ≤ i) (h60 : i < 60) (hj : j < 4) : expF k (4 * i + j) = newW (expF k) i j := by
  obtain ⟨n, rfl⟩ : ∃ n, i = n + 8 := ⟨i - 8, by omega⟩
  have e1 : expF k (4 * (n + 8) + j) = expT k (n + 1) (4 * (n + 8) + j) := by
    have := expT_stay k (n + 1) (52 - (n + 1)) (4 * (n + 8) + j) (by omega)
    rw [show n + 1 + (52 - (n + 1)) = 52 by omega] at this
    exact this
  rw [e1]
  show (if (4 * (n + 8) + j) / 4 = n + 8 then newW (expT k n) (n + 8) ((4 * (n + 8) + j) % 4) else _) = _
  rw [if_pos (by omega), show (4 * (n + 8) + j) % 4 = j by omega]
  refine newW_same (by omega) hj fun p hp => ?_
  have := expT_stay k n (52 - n) p (by omega)
  rw [show n + (52 - n) = 52 by omega] at this
  exact this.symm

/- a block, encrypted: the state behind n rounds -/
def stF (k b : Bf) : Nat → Bf
  | 0 => xorF b (expF k)
  | n + 1 => rndF (stF k b n) (offF (expF k) ((n + 1) * 16)) (n == 13)
def encF (k b : Bf) : Bf := stF k b 14
end Go.Proofs.Ytokhldihfbaeoaa.Oct
