/- pack's numbers: how many bytes one needs, how it is written, what bytes come to. Of whatever program. -/
import Derived.Test.YtfpkfbojckgcdaaLib
namespace Go.Proofs.Ytfpkfbojckgcdaa.Oct

/-- how many bytes a number needs -/
def nd (n : Nat) : Nat := if n = 0 then 0 else if n < 256 then 1 else if n < 65536 then 2 else if n < 16777216 then 3 else if n < 4294967296 then 4 else if n < 1099511627776 then 5 else if n < 281474976710656 then 6 else if n < 72057594037927936 then 7 else 8
theorem nd_zero : nd 0 = 0 := rfl
theorem nd_le (n : Nat) : nd n ≤ 8 := by unfold nd; repeat' split
                                         all_goals omega
theorem nd_pos (n : Nat) (h0 : 0 < n) : 0 < nd n := by
  unfold nd
  repeat' split
  all_goals omega
theorem nd_eq (n k : Nat) (hk : k ≤ 8) (h : n < 256 ^ k) (h1 : 0 < k → 256 ^ (k - 1) ≤ n) : nd n = k := by
  have : k = 0 ∨ k = 1 ∨ k = 2 ∨ k = 3 ∨ k = 4 ∨ k = 5 ∨ k = 6 ∨ k = 7 ∨ k = 8 := by omega
  rcases this with rfl | rfl | rfl | rfl | rfl | rfl | rfl | rfl | rfl
  all_goals
    simp at h h1
    unfold nd
    repeat' split
    all_goals omega
theorem nd_lt (n : Nat) (h : n < 18446744073709551616) : n < 256 ^ nd n := by
  unfold nd
  repeat' split
  all_goals (simp; try omega)
theorem nd_ge (n : Nat) (h : 0 < nd n) : 256 ^ (nd n - 1) ≤ n := by
  by_cases h0 : n = 0
  · subst h0; exact absurd h (by decide)
  unfold nd
  repeat' split
  all_goals (simp; try omega)
theorem nd_step (n : Nat) (h0 : 0 < n) (h : n < 18446744073709551616) : nd n = nd (n / 256) + 1 := by
  have hp := nd_pos n h0
  have h1 := nd_lt n h
  have h2 := nd_ge n hp
  have h3 := nd_le n
  obtain ⟨k, hk⟩ : ∃ k, nd n = k + 1 := ⟨nd n - 1, by omega⟩
  rw [hk] at h1 h2 h3 ⊢
  rw [Nat.add_sub_cancel] at h2
  congr 1
  symm
  refine nd_eq _ k (by omega) ?_ fun hk0 => ?_
  · rw [Nat.pow_succ] at h1
    exact (Nat.div_lt_iff_lt_mul (by omega)).2 h1
  · rw [Nat.le_div_iff_mul_le (by omega), ← Nat.pow_succ, Nat.succ_eq_add_one, show k - 1 + 1 = k by omega]
    exact h2

/-- the number that the first k bytes come to -/
def val (f : Bf) : Nat → Nat
  | 0 => 0
  | k + 1 => val f k * 256 + (f k).toNat
theorem val_congr {f g : Bf} : ∀ {k : Nat}, (∀ i, i < k → f i = g i) → val f k = val g k
  | 0, _ => rfl
  | k + 1, h => by simp only [val]; rw [val_congr (k := k) fun i hi => h i (by omega), h k (by omega)]
theorem val_lt (f : Bf) : ∀ k : Nat, val f k < 256 ^ k
  | 0 => by simp [val]
  | k + 1 => by
    have h1 := val_lt f k
    have h2 := (f k).isLt
    simp only [val]
    rw [Nat.pow_succ]
    omega
theorem val_cut (f : Bf) (j : Nat) : ∀ d : Nat, val f (j + d) / 256 ^ d = val f j
  | 0 => by simp
  | d + 1 => by
    have h2 := (f (j + d)).isLt
    rw [← Nat.add_assoc]
    simp only [val]
    rw [Nat.pow_succ, Nat.mul_comm (256 ^ d) 256, ← Nat.div_div_eq_div_mul, show (val f (j + d) * 256 + (f (j + d)).toNat) / 256 = val f (j + d) by omega]
    exact val_cut f j d
theorem val_ge (f : Bf) (h : f 0 ≠ 0#8) : ∀ k : Nat, 256 ^ k ≤ val f (k + 1)
  | 0 => by
    have : (f 0).toNat ≠ 0 := fun e => h (BitVec.eq_of_toNat_eq e)
    simp [val]; omega
  | k + 1 => by
    have := val_ge f h k
    rw [val, Nat.pow_succ]
    omega
theorem val_u64 (f : Bf) (k : Nat) (hk : k ≤ 8) : val f k < 18446744073709551616 := by
  have h := val_lt f k
  have : 256 ^ k ≤ 256 ^ 8 := Nat.pow_le_pow_right (by omega) hk
  have e : (256 : Nat) ^ 8 = 18446744073709551616 := by decide
  omega
theorem val_u56 (f : Bf) (k : Nat) (hk : k ≤ 7) : val f k < 72057594037927936 := by
  have h := val_lt f k
  have : 256 ^ k ≤ 256 ^ 7 := Nat.pow_le_pow_right (by omega) hk
  have e : (256 : Nat) ^ 7 = 72057594037927936 := by decide
  omega

/-- a number's writing: how many bytes it needs, and these -/
def encL (n : Nat) : Nat := nd n + 1
def encF (n : Nat) : Bf := fun i => if i = 0 then BitVec.ofNat 8 (nd n) else BitVec.ofNat 8 (n / 256 ^ (nd n - i))
theorem encL_le (n : Nat) : encL n ≤ 9 := by have := nd_le n; unfold encL; omega
theorem encL_pos (n : Nat) : 0 < encL n := by unfold encL; omega
theorem encF_zero (n : Nat) : (encF n 0).toNat = nd n := by
  have := nd_le n
  unfold encF
  rw [if_pos rfl, BitVec.toNat_ofNat]
  omega
theorem enc_val (n : Nat) (h : n < 18446744073709551616) : ∀ j : Nat, j ≤ nd n → val (offF (encF n) 1) j = n / 256 ^ (nd n - j)
  | 0, _ => by
    have h1 := nd_lt n h
    simp only [val, Nat.sub_zero]
    rw [Nat.div_eq_of_lt h1]
  | j + 1, hj => by
    rw [val, enc_val n h j (by omega)]
    unfold offF encF
    rw [if_neg (by omega), BitVec.toNat_ofNat, show nd n - j = nd n - (j + 1) + 1 by omega, Nat.pow_succ, ← Nat.div_div_eq_div_mul, show nd n - (1 + j) = nd n - (j + 1) by omega]
    omega
theorem enc_all (n : Nat) (h : n < 18446744073709551616) : val (offF (encF n) 1) (nd n) = n := by
  rw [enc_val n h (nd n) (Nat.le_refl _), Nat.sub_self, Nat.pow_zero, Nat.div_one]
theorem enc_one (n : Nat) (h : n < 18446744073709551616) (h0 : 0 < nd n) : encF n 1 ≠ 0#8 := by
  intro e
  have h1 := congrArg BitVec.toNat e
  have h2 := nd_ge n h0
  have h3 := nd_lt n h
  unfold encF at h1
  rw [if_neg (by omega), BitVec.toNat_ofNat] at h1
  have hp : 0 < 256 ^ (nd n - 1) := Nat.pow_pos (by omega)
  have h4 : 1 ≤ n / 256 ^ (nd n - 1) := (Nat.one_le_div_iff hp).2 h2
  have h5 : n / 256 ^ (nd n - 1) < 256 := by
    rw [Nat.div_lt_iff_lt_mul hp, ← Nat.pow_succ', Nat.succ_eq_add_one, show nd n - 1 + 1 = nd n by omega]; exact h3
  have : (0#8).toNat = 0 := rfl
  omega

/- what bytes come to: the error, the number, how many bytes it has taken -/
def tkV (f : Bf) : Nat := val (offF f 1) (f 0).toNat
def tkL (f : Bf) : Nat := (f 0).toNat + 1
def tkE (n : Nat) (f : Bf) : Nat :=
  if n = 0 then 3 else if 8 < (f 0).toNat then 80 else if n ≤ (f 0).toNat then 3
  else if 0 < (f 0).toNat ∧ f 1 = 0#8 then 80 else if 9223372036854775808 ≤ tkV f then 80 else 0
theorem tk_ok {n : Nat} {f : Bf} (h : tkE n f = 0) : 0 < n ∧ (f 0).toNat ≤ 8 ∧ (f 0).toNat < n ∧ (0 < (f 0).toNat → f 1 ≠ 0#8) ∧ tkV f < 9223372036854775808 := by
  unfold tkE at h
  split at h
  · omega
  split at h
  · omega
  split at h
  · omega
  split at h
  · omega
  split at h
  · omega
  rename_i h1 h2 h3 h4 h5
  exact ⟨by omega, by omega, by omega, fun a b => h4 ⟨a, b⟩, by omega⟩
theorem tk_of {n : Nat} {f : Bf} (h0 : (f 0).toNat ≤ 8) (h1 : (f 0).toNat < n) (h2 : 0 < (f 0).toNat → f 1 ≠ 0#8) (h3 : tkV f < 9223372036854775808) : tkE n f = 0 := by
  unfold tkE
  rw [if_neg (by omega), if_neg (by omega), if_neg (by omega), if_neg (fun h => h2 h.1 h.2), if_neg (by omega)]
theorem tk_codes (n : Nat) (f : Bf) : tkE n f = 0 ∨ tkE n f = 3 ∨ tkE n f = 80 := by
  unfold tkE
  repeat' split
  all_goals omega
theorem tkL_le {n : Nat} {f : Bf} (h : tkE n f = 0) : tkL f ≤ n := by have := tk_ok h; unfold tkL; omega
theorem tkE_congr {n : Nat} {f g : Bf} (h : ∀ i, i < n → f i = g i) : tkE n f = tkE n g := by
  unfold tkE
  by_cases h0 : n = 0
  · rw [if_pos h0, if_pos h0]
  rw [h 0 (by omega)]
  by_cases h1 : 8 < (g 0).toNat
  · rw [if_neg h0, if_pos h1, if_neg h0, if_pos h1]
  by_cases h2 : n ≤ (g 0).toNat
  · rw [if_neg h0, if_neg h1, if_pos h2, if_neg h0, if_neg h1, if_pos h2]
  by_cases h3 : (g 0).toNat = 0
  · simp only [h3, tkV, h 0 (by omega), val]; simp
  · rw [h 1 (by omega), show tkV f = tkV g by unfold tkV; rw [h 0 (by omega)]; exact val_congr fun i hi => h (1 + i) (by omega)]
theorem tk_same {n : Nat} {f g : Bf} (h : ∀ i, i < n → f i = g i) (he : tkE n f = 0) : tkV f = tkV g ∧ tkL f = tkL g := by
  obtain ⟨h0, _, h2, _⟩ := tk_ok he
  unfold tkV tkL
  rw [← h 0 h0]
  exact ⟨val_congr fun i hi => h (1 + i) (by omega), rfl⟩
/-- what was put is taken -/
theorem tk_enc (m : Nat) (hm : m < 9223372036854775808) (n : Nat) (f : Bf) (hn : encL m ≤ n) (hf : ∀ i, i < encL m → f i = encF m i) : tkE n f = 0 ∧ tkV f = m ∧ tkL f = encL m := by
  have h0 : (f 0).toNat = nd m := by rw [hf 0 (encL_pos m)]; exact encF_zero m
  have hv : tkV f = m := by
    unfold tkV
    rw [h0]
    exact (val_congr (f := offF f 1) (g := offF (encF m) 1) fun i hi => hf (1 + i) (by unfold encL; omega)).trans (enc_all m (by omega))
  have := nd_le m
  refine ⟨tk_of (by omega) (by unfold encL at hn; omega) (fun h => ?_) (by omega), hv, by unfold tkL encL; omega⟩
  rw [hf 1 (by unfold encL; omega)]
  exact enc_one m (by omega) (by omega)
/-- what is taken, and put, is what was taken -/
theorem enc_tk {n : Nat} {f : Bf} (h : tkE n f = 0) : encL (tkV f) = tkL f ∧ ∀ i, i < tkL f → encF (tkV f) i = f i := by
  obtain ⟨h0, h1, h2, h3, h4⟩ := tk_ok h
  have hk : nd (tkV f) = (f 0).toNat := nd_eq _ _ h1 (val_lt _ _) fun hp => by
    have := val_ge (offF f 1) (h3 hp) ((f 0).toNat - 1)
    rw [show (f 0).toNat - 1 + 1 = (f 0).toNat by omega] at this
    exact this
  refine ⟨by unfold encL tkL; rw [hk], fun i hi => ?_⟩
  apply BitVec.eq_of_toNat_eq
  unfold tkL at hi
  unfold encF
  by_cases hz : i = 0
  · rw [if_pos hz, hz, BitVec.toNat_ofNat, hk]; omega
  · rw [if_neg hz, BitVec.toNat_ofNat, hk]
    have hc := val_cut (offF f 1) i ((f 0).toNat - i)
    rw [show i + ((f 0).toNat - i) = (f 0).toNat by omega] at hc
    unfold tkV
    rw [hc, show i = (i - 1) + 1 by omega, val]
    have := (offF f 1 (i - 1)).isLt
    have e : offF f 1 (i - 1) = f (i - 1 + 1) := by unfold offF; rw [show 1 + (i - 1) = i - 1 + 1 by omega]
    rw [e] at this ⊢
    omega
end Go.Proofs.Ytfpkfbojckgcdaa.Oct
