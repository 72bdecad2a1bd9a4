/- HMAC and HKDF over functions: the plain mathematics. -/
import Derived.Test.YtjggnbncpjoooaaDoorShaR
namespace Go.Proofs.YtjggnbncpjoooaaDoor.Oct
open Go.RowKit

/-- the key as a block of 64 bytes -/
def keyF (k : Bf) (n : Nat) : Bf := fun i => if 64 < n then (if i < 32 then shaF kF iF k n i else 0#8) else if i < n then k i else 0#8
def mskF (f : Bf) (v : BitVec 8) : Bf := fun i => f i ^^^ v
def innF (k : Bf) (n : Nat) (b : Bf) (m : Nat) : Bf := shaF kF iF (catF 64 (mskF (keyF k n) 54#8) b) (64 + m)
def macF (k : Bf) (n : Nat) (b : Bf) (m : Nat) : Bf := shaF kF iF (catF 64 (mskF (keyF k n) 92#8) (innF k n b m)) 96
theorem catF_congr {n m : Nat} {f f' g g' : Bf} (hf : ∀ i, i < n → f i = f' i) (hg : ∀ i, i < m → g i = g' i) : ∀ i, i < n + m → catF n f g i = catF n f' g' i := by
  intro i hi
  unfold catF
  by_cases h : i < n
  · rw [if_pos h, if_pos h, hf i h]
  · rw [if_neg h, if_neg h, hg _ (by omega)]
theorem sha_congr {b b' : Bf} {n : Nat} (hb : ∀ i, i < n → b i = b' i) : ∀ i, i < 32 → shaF kF iF b n i = shaF kF iF b' n i :=
  shaF_congr (fun _ _ => rfl) (fun _ _ => rfl) hb
theorem keyF_congr {k k' : Bf} {n : Nat} (h : ∀ i, i < n → k i = k' i) (i : Nat) : keyF k n i = keyF k' n i := by
  unfold keyF
  by_cases hn : 64 < n
  · rw [if_pos hn, if_pos hn]
    by_cases hi : i < 32
    · rw [if_pos hi, if_pos hi, sha_congr h i hi]
    · rw [if_neg hi, if_neg hi]
  · rw [if_neg hn, if_neg hn]
    by_cases hi : i < n
    · rw [if_pos hi, if_pos hi, h i hi]
    · rw [if_neg hi, if_neg hi]
/-- what macF hangs on: the key's block and the bytes -/
theorem macF_congr {k k' b b' : Bf} {n n' m : Nat} (hk : ∀ i, i < 64 → keyF k n i = keyF k' n' i) (hb : ∀ i, i < m → b i = b' i) : ∀ i, i < 32 → macF k n b m i = macF k' n' b' m i := by
  refine sha_congr (n := 64 + 32) (catF_congr (fun i hi => by unfold mskF; rw [hk i hi]) fun i hi => ?_)
  exact sha_congr (catF_congr (fun i hi => by unfold mskF; rw [hk i hi]) hb) i hi

/-- what is expanded: the sum of number i (from 1 on), by the one ahead -/
def lstL (i : Nat) : Nat := if i = 0 then 0 else 32
def expT (k : Bf) (n : Nat) (b : Bf) (m : Nat) : Nat → Bf
  | 0 => nF
  | i + 1 => macF k n (catF (lstL i + m) (catF (lstL i) (expT k n b m i) b) fun _ => BitVec.ofNat 8 (i + 1)) (lstL i + m + 1)
def expF (k : Bf) (n : Nat) (b : Bf) (m : Nat) : Bf := fun j => expT k n b m (j / 32 + 1) (j % 32)
end Go.Proofs.YtjggnbncpjoooaaDoor.Oct
