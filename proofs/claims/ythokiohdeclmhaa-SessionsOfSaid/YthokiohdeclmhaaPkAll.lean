import Derived.Test.YthokiohdeclmhaaLib
import Derived.Test.YthokiohdeclmhaaTySl
import Derived.Lib.Hide
import Derived.Lib.SlBytesConst
import Derived.WalkSpells

/-! ## PkMath -/
/- pack's numbers: how many bytes one needs, how it is written, what bytes come to. Of whatever program. -/
namespace Go.Proofs.Ythokiohdeclmhaa.Oct

/-- how many bytes a number needs -/
def nd (n : Nat) : Nat := if n = 0 then 0 else if n < 256 then 1 else if n < 65536 then 2 else if n < 16777216 then 3 else if n < 4294967296 then 4 else if n < 1099511627776 then 5 else if n < 281474976710656 then 6 else if n < 72057594037927936 then 7 else 8
theorem nd_zero : nd 0 = 0 := rfl
theorem nd_le (n : Nat) : nd n ≤ 8 := by unfold nd; repeat' split
                                         all_goals omega
theorem nd_pos (n : Nat) (h0 : 0 < n) : 0 < nd n := by
  unfold nd
  repeat' split
  all_goals omega
theorem nd_eq (n k : Nat) (hk : k ≤ 8) (h : n < 256 ^ k) (h1 : 0 < k → 256 ^ (k - 1) ≤ n) : nd n = k := by
  have : k = 0 ∨ k = 1 ∨ k = 2 ∨ k = 3 ∨ k = 4 ∨ k = 5 ∨ k = 6 ∨ k = 7 ∨ k = 8 := by omega
  rcases this with rfl | rfl | rfl | rfl | rfl | rfl | rfl | rfl | rfl
  all_goals
    simp at h h1
    unfold nd
    repeat' split
    all_goals omega
theorem nd_lt (n : Nat) (h : n < 18446744073709551616) : n < 256 ^ nd n := by
  unfold nd
  repeat' split
  all_goals (simp; try omega)
theorem nd_ge (n : Nat) (h : 0 < nd n) : 256 ^ (nd n - 1) ≤ n := by
  by_cases h0 : n = 0
  · subst h0; exact absurd h (by decide)
  unfold nd
  repeat' split
  all_goals (simp; try omega)
theorem nd_step (n : Nat) (h0 : 0 < n) (h : n < 18446744073709551616) : nd n = nd (n / 256) + 1 := by
  have hp := nd_pos n h0
  have h1 := nd_lt n h
  have h2 := nd_ge n hp
  have h3 := nd_le n
  obtain ⟨k, hk⟩ : ∃ k, nd n = k + 1 := ⟨nd n - 1, by omega⟩
  rw [hk] at h1 h2 h3 ⊢
  rw [Nat.add_sub_cancel] at h2
  congr 1
  symm
  refine nd_eq _ k (by omega) ?_ fun hk0 => ?_
  · rw [Nat.pow_succ] at h1
    exact (Nat.div_lt_iff_lt_mul (by omega)).2 h1
  · rw [Nat.le_div_iff_mul_le (by omega), ← Nat.pow_succ, Nat.succ_eq_add_one, show k - 1 + 1 = k by omega]
    exact h2

/-- the number that the first k bytes come to -/
def val (f : Bf) : Nat → Nat
  | 0 => 0
  | k + 1 => val f k * 256 + (f k).toNat
theorem val_congr {f g : Bf} : ∀ {k : Nat}, (∀ i, i < k → f i = g i) → val f k = val g k
  | 0, _ => rfl
  | k + 1, h => by simp only [val]; rw [val_congr (k := k) fun i hi => h i (by omega), h k (by omega)]
theorem val_lt (f : Bf) : ∀ k : Nat, val f k < 256 ^ k
  | 0 => by simp [val]
  | k + 1 => by
    have h1 := val_lt f k
    have h2 := (f k).isLt
    simp only [val]
    rw [Nat.pow_succ]
    omega
theorem val_cut (f : Bf) (j : Nat) : ∀ d : Nat, val f (j + d) / 256 ^ d = val f j
  | 0 => by simp
  | d + 1 => by
    have h2 := (f (j + d)).isLt
    rw [← Nat.add_assoc]
    simp only [val]
    rw [Nat.pow_succ, Nat.mul_comm (256 ^ d) 256, ← Nat.div_div_eq_div_mul, show (val f (j + d) * 256 + (f (j + d)).toNat) / 256 = val f (j + d) by omega]
    exact val_cut f j d
theorem val_ge (f : Bf) (h : f 0 ≠ 0#8) : ∀ k : Nat, 256 ^ k ≤ val f (k + 1)
  | 0 => by
    have : (f 0).toNat ≠ 0 := fun e => h (BitVec.eq_of_toNat_eq e)
    simp [val]; omega
  | k + 1 => by
    have := val_ge f h k
    rw [val, Nat.pow_succ]
    omega
theorem val_u64 (f : Bf) (k : Nat) (hk : k ≤ 8) : val f k < 18446744073709551616 := by
  have h := val_lt f k
  have : 256 ^ k ≤ 256 ^ 8 := Nat.pow_le_pow_right (by omega) hk
  have e : (256 : Nat) ^ 8 = 18446744073709551616 := by decide
  omega
theorem val_u56 (f : Bf) (k : Nat) (hk : k ≤ 7) : val f k < 72057594037927936 := by
  have h := val_lt f k
  have : 256 ^ k ≤ 256 ^ 7 := Nat.pow_le_pow_right (by omega) hk
  have e : (256 : Nat) ^ 7 = 72057594037927936 := by decide
  omega

/-- a number's writing: how many bytes it needs, and these -/
def encL (n : Nat) : Nat := nd n + 1
def encF (n : Nat) : Bf := fun i => if i = 0 then BitVec.ofNat 8 (nd n) else BitVec.ofNat 8 (n / 256 ^ (nd n - i))
theorem encL_le (n : Nat) : encL n ≤ 9 := by have := nd_le n; unfold encL; omega
theorem encL_pos (n : Nat) : 0 < encL n := by unfold encL; omega
theorem encF_zero (n : Nat) : (encF n 0).toNat = nd n := by
  have := nd_le n
  unfold encF
  rw [if_pos rfl, BitVec.toNat_ofNat]
  omega
theorem enc_val (n : Nat) (h : n < 18446744073709551616) : ∀ j : Nat, j ≤ nd n → val (offF (encF n) 1) j = n / 256 ^ (nd n - j)
  | 0, _ => by
    have h1 := nd_lt n h
    simp only [val, Nat.sub_zero]
    rw [Nat.div_eq_of_lt h1]
  | j + 1, hj => by
    rw [val, enc_val n h j (by omega)]
    unfold offF encF
    rw [if_neg (by omega), BitVec.toNat_ofNat, show nd n - j = nd n - (j + 1) + 1 by omega, Nat.pow_succ, ← Nat.div_div_eq_div_mul, show nd n - (1 + j) = nd n - (j + 1) by omega]
    omega
theorem enc_all (n : Nat) (h : n < 18446744073709551616) : val (offF (encF n) 1) (nd n) = n := by
  rw [enc_val n h (nd n) (Nat.le_refl _), Nat.sub_self, Nat.pow_zero, Nat.div_one]
theorem enc_one (n : Nat) (h : n < 18446744073709551616) (h0 : 0 < nd n) : encF n 1 ≠ 0#8 := by
  intro e
  have h1 := congrArg BitVec.toNat e
  have h2 := nd_ge n h0
  have h3 := nd_lt n h
  unfold encF at h1
  rw [if_neg (by omega), BitVec.toNat_ofNat] at h1
  have hp : 0 < 256 ^ (nd n - 1) := Nat.pow_pos (by omega)
  have h4 : 1 ≤ n / 256 ^ (nd n - 1) := (Nat.one_le_div_iff hp).2 h2
  have h5 : n / 256 ^ (nd n - 1) < 256 := by
    rw [Nat.div_lt_iff_lt_mul hp, ← Nat.pow_succ', Nat.succ_eq_add_one, show nd n - 1 + 1 = nd n by omega]; exact h3
  have : (0#8).toNat = 0 := rfl
  omega

/- what bytes come to: the error, the number, how many bytes it has taken -/
def tkV (f : Bf) : Nat := val (offF f 1) (f 0).toNat
def tkL (f : Bf) : Nat := (f 0).toNat + 1
def tkE (n : Nat) (f : Bf) : Nat :=
  if n = 0 then 3 else if 8 < (f 0).toNat then 80 else if n ≤ (f 0).toNat then 3
  else if 0 < (f 0).toNat ∧ f 1 = 0#8 then 80 else if 9223372036854775808 ≤ tkV f then 80 else 0
theorem tk_ok {n : Nat} {f : Bf} (h : tkE n f = 0) : 0 < n ∧ (f 0).toNat ≤ 8 ∧ (f 0).toNat < n ∧ (0 < (f 0).toNat → f 1 ≠ 0#8) ∧ tkV f < 9223372036854775808 := by
  unfold tkE at h
  split at h
  · omega
  split at h
  · omega
  split at h
  · omega
  split at h
  · omega
  split at h
  · omega
  rename_i h1 h2 h3 h4 h5
  exact ⟨by omega, by omega, by omega, fun a b => h4 ⟨a, b⟩, by omega⟩
theorem tk_of {n : Nat} {f : Bf} (h0 : (f 0).toNat ≤ 8) (h1 : (f 0).toNat < n) (h2 : 0 < (f 0).toNat → f 1 ≠ 0#8) (h3 : tkV f < 9223372036854775808) : tkE n f = 0 := by
  unfold tkE
  rw [if_neg (by omega), if_neg (by omega), if_neg (by omega), if_neg (fun h => h2 h.1 h.2), if_neg (by omega)]
theorem tk_codes (n : Nat) (f : Bf) : tkE n f = 0 ∨ tkE n f = 3 ∨ tkE n f = 80 := by
  unfold tkE
  repeat' split
  all_goals omega
theorem tkL_le {n : Nat} {f : Bf} (h : tkE n f = 0) : tkL f ≤ n := by have := tk_ok h; unfold tkL; omega
theorem tkE_congr {n : Nat} {f g : Bf} (h : ∀ i, i < n → f i = g i) : tkE n f = tkE n g := by
  unfold tkE
  by_cases h0 : n = 0
  · rw [if_pos h0, if_pos h0]
  rw [h 0 (by omega)]
  by_cases h1 : 8 < (g 0).toNat
  · rw [if_neg h0, if_pos h1, if_neg h0, if_pos h1]
  by_cases h2 : n ≤ (g 0).toNat
  · rw [if_neg h0, if_neg h1, if_pos h2, if_neg h0, if_neg h1, if_pos h2]
  by_cases h3 : (g 0).toNat = 0
  · simp only [h3, tkV, h 0 (by omega), val]; simp
  · rw [h 1 (by omega), show tkV f = tkV g by unfold tkV; rw [h 0 (by omega)]; exact val_congr fun i hi => h (1 + i) (by omega)]
theorem tk_same {n : Nat} {f g : Bf} (h : ∀ i, i < n → f i = g i) (he : tkE n f = 0) : tkV f = tkV g ∧ tkL f = tkL g := by
  obtain ⟨h0, _, h2, _⟩ := tk_ok he
  unfold tkV tkL
  rw [← h 0 h0]
  exact ⟨val_congr fun i hi => h (1 + i) (by omega), rfl⟩
/-- what was put is taken -/
theorem tk_enc (m : Nat) (hm : m < 9223372036854775808) (n : Nat) (f : Bf) (hn : encL m ≤ n) (hf : ∀ i, i < encL m → f i = encF m i) : tkE n f = 0 ∧ tkV f = m ∧ tkL f = encL m := by
  have h0 : (f 0).toNat = nd m := by rw [hf 0 (encL_pos m)]; exact encF_zero m
  have hv : tkV f = m := by
    unfold tkV
    rw [h0]
    exact (val_congr (f := offF f 1) (g := offF (encF m) 1) fun i hi => hf (1 + i) (by unfold encL; omega)).trans (enc_all m (by omega))
  have := nd_le m
  refine ⟨tk_of (by omega) (by unfold encL at hn; omega) (fun h => ?_) (by omega), hv, by unfold tkL encL; omega⟩
  rw [hf 1 (by unfold encL; omega)]
  exact enc_one m (by omega) (by omega)
/-- what is taken, and put, is what was taken -/
theorem enc_tk {n : Nat} {f : Bf} (h : tkE n f = 0) : encL (tkV f) = tkL f ∧ ∀ i, i < tkL f → encF (tkV f) i = f i := by
  obtain ⟨h0, h1, h2, h3, h4⟩ := tk_ok h
  have hk : nd (tkV f) = (f 0).toNat := nd_eq _ _ h1 (val_lt _ _) fun hp => by
    have := val_ge (offF f 1) (h3 hp) ((f 0).toNat - 1)
    rw [show (f 0).toNat - 1 + 1 = (f 0).toNat by omega] at this
    exact this
  refine ⟨by unfold encL tkL; rw [hk], fun i hi => ?_⟩
  apply BitVec.eq_of_toNat_eq
  unfold tkL at hi
  unfold encF
  by_cases hz : i = 0
  · rw [if_pos hz, hz, BitVec.toNat_ofNat, hk]; omega
  · rw [if_neg hz, BitVec.toNat_ofNat, hk]
    have hc := val_cut (offF f 1) i ((f 0).toNat - i)
    rw [show i + ((f 0).toNat - i) = (f 0).toNat by omega] at hc
    unfold tkV
    rw [hc, show i = (i - 1) + 1 by omega, val]
    have := (offF f 1 (i - 1)).isLt
    have e : offF f 1 (i - 1) = f (i - 1 + 1) := by unfold offF; rw [show 1 + (i - 1) = i - 1 + 1 by omega]
    rw [e] at this ⊢
    omega
end Go.Proofs.Ythokiohdeclmhaa.Oct

/-! ## PkA -/
/- Contracts: math/bits.Len, the reference's needs. -/
namespace Go.Proofs.Ythokiohdeclmhaa.Oct
open Go.ChangeShapes Go.WideShapes Go.ChangeAt Go.RowKit
set_option linter.unusedVariables false

set_option maxRecDepth 20000 in
/-- how many bits a byte needs, by the library's table -/
abbrev l8T : ByteArray := ⟨#[0, 1, 2, 2, 3, 3, 3, 3, 4, 4, 4, 4, 4, 4, 4, 4, 5, 5, 5, 5, 5, 5, 5, 5, 5, 5, 5, 5, 5, 5, 5, 5, 6, 6, 6, 6, 6, 6, 6, 6, 6, 6, 6, 6, 6, 6, 6, 6, 6, 6, 6, 6, 6, 6, 6, 6, 6, 6, 6, 6, 6, 6, 6, 6, 7, 7, 7, 7, 7, 7, 7, 7, 7, 7, 7, 7, 7, 7, 7, 7, 7, 7, 7, 7, 7, 7, 7, 7, 7, 7, 7, 7, 7, 7, 7, 7, 7, 7, 7, 7, 7, 7, 7, 7, 7, 7, 7, 7, 7, 7, 7, 7, 7, 7, 7, 7, 7, 7, 7, 7, 7, 7, 7, 7, 7, 7, 7, 7, 8, 8, 8, 8, 8, 8, 8, 8, 8, 8, 8, 8, 8, 8, 8, 8, 8, 8, 8, 8, 8, 8, 8, 8, 8, 8, 8, 8, 8, 8, 8, 8, 8, 8, 8, 8, 8, 8, 8, 8, 8, 8, 8, 8, 8, 8, 8, 8, 8, 8, 8, 8, 8, 8, 8, 8, 8, 8, 8, 8, 8, 8, 8, 8, 8, 8, 8, 8, 8, 8, 8, 8, 8, 8, 8, 8, 8, 8, 8, 8, 8, 8, 8, 8, 8, 8, 8, 8, 8, 8, 8, 8, 8, 8, 8, 8, 8, 8, 8, 8, 8, 8, 8, 8, 8, 8, 8, 8, 8, 8, 8, 8, 8, 8, 8, 8, 8, 8, 8, 8, 8, 8, 8, 8, 8, 8, 8, 8]⟩
set_option maxRecDepth 20000 in
theorem l8_size : l8T.size = 256 := by decide +kernel
set_option maxRecDepth 20000 in
theorem l8_all : ∀ x : Fin 256, ∀ h : x.val < l8T.size, (l8T[x.val]'h).toNat ≤ 8 ∧ ((l8T[x.val]'h).toNat = 0 ↔ x.val = 0) := by decide +kernel
set_option maxRecDepth 20000 in
theorem l8_in (B : Nat) (n x : Nat) (h : x < 256) (h' : x < l8T.size) (hB : B ≤ 56) (h8 : B % 8 = 0) (hk : nd n = B / 8 + if x = 0 then 0 else 1) (v : Int) (hv : v = wrap64 ((B : Int) + wrap64 ((l8T[x]'h').toNat : Int))) (w : World) :
    ∃ L : Nat, (Ending.returned (Value.int IntKind.i64 v)) = .returned (.int .i64 L) ∧ L ≤ 64 ∧ (L + 7) / 8 = nd n ∧ w = w := by
  obtain ⟨h1, h2⟩ := l8_all ⟨x, h⟩ h'
  simp only at h1 h2
  obtain ⟨t, ht⟩ : ∃ t, t = (l8T[x]'h').toNat := ⟨_, rfl⟩
  rw [← ht] at h1 h2 hv
  subst hv
  refine ⟨B + t, ?_, by omega, ?_, rfl⟩
  · rw [IntWalk.wrap64_in (t : Int) (by omega), IntWalk.wrap64_in _ (by omega)]; rfl
  · rw [hk]
    split
    · omega
    · omega
set_option maxHeartbeats 2000000 in
set_option maxRecDepth 20000 in
theorem len64_any (n : Nat) (hn : n < 18446744073709551616) (w : World) :
    Calls Try.prog 65 #[.int .u64 n] w fun e w' => ∃ L : Nat, e = .returned (.int .i64 L) ∧ L ≤ 64 ∧ (L + 7) / 8 = nd n ∧ w = w' := by
  go_enter Try.func65, Try.ntmps65
  by_cases h1 : n < 4294967296
  · have d1 : decide (4294967296 ≤ (n : Int)) = false := by simp; omega
    by_cases h2 : n < 65536
    · have d2 : decide (65536 ≤ (n : Int)) = false := by simp; omega
      by_cases h3 : n < 256
      · have d3 : decide (256 ≤ (n : Int)) = false := by simp; omega
        go_wp2_with fail
        go_ret
        exact l8_in 0 n (n) (by omega) (by rw [l8_size]; omega) (by omega) rfl (by unfold nd; (repeat' split) <;> omega) _ (congrArg wrap64 (Int.zero_add _).symm) _
      · have d3 : decide (256 ≤ (n : Int)) = true := by simp; omega
        go_wp2_with fail
        go_ret
        exact l8_in 8 n (n / 256) (by omega) (by rw [l8_size]; omega) (by omega) rfl (by unfold nd; (repeat' split) <;> omega) _ (by rfl) _
    · have d2 : decide (65536 ≤ (n : Int)) = true := by simp; omega
      by_cases h3 : n / 65536 < 256
      · have d3 : decide (256 ≤ (n : Int) / 65536) = false := by simp; omega
        go_wp2_with fail
        go_ret
        exact l8_in 16 n (n / 65536) (by omega) (by rw [l8_size]; omega) (by omega) rfl (by unfold nd; (repeat' split) <;> omega) _ (by rfl) _
      · have d3 : decide (256 ≤ (n : Int) / 65536) = true := by simp; omega
        go_wp2_with fail
        go_ret
        exact l8_in 24 n (n / 65536 / 256) (by omega) (by rw [l8_size]; omega) (by omega) rfl (by unfold nd; (repeat' split) <;> omega) _ (by rfl) _
  · have d1 : decide (4294967296 ≤ (n : Int)) = true := by simp; omega
    by_cases h2 : n / 4294967296 < 65536
    · have d2 : decide (65536 ≤ (n : Int) / 4294967296) = false := by simp; omega
      by_cases h3 : n / 4294967296 < 256
      · have d3 : decide (256 ≤ (n : Int) / 4294967296) = false := by simp; omega
        go_wp2_with fail
        go_ret
        exact l8_in 32 n (n / 4294967296) (by omega) (by rw [l8_size]; omega) (by omega) rfl (by unfold nd; (repeat' split) <;> omega) _ (by rfl) _
      · have d3 : decide (256 ≤ (n : Int) / 4294967296) = true := by simp; omega
        go_wp2_with fail
        go_ret
        exact l8_in 40 n (n / 4294967296 / 256) (by omega) (by rw [l8_size]; omega) (by omega) rfl (by unfold nd; (repeat' split) <;> omega) _ (by rfl) _
    · have d2 : decide (65536 ≤ (n : Int) / 4294967296) = true := by simp; omega
      by_cases h3 : n / 4294967296 / 65536 < 256
      · have d3 : decide (256 ≤ (n : Int) / 4294967296 / 65536) = false := by simp; omega
        go_wp2_with fail
        go_ret
        exact l8_in 48 n (n / 4294967296 / 65536) (by omega) (by rw [l8_size]; omega) (by omega) rfl (by unfold nd; (repeat' split) <;> omega) _ (by rfl) _
      · have d3 : decide (256 ≤ (n : Int) / 4294967296 / 65536) = true := by simp; omega
        go_wp2_with fail
        go_ret
        exact l8_in 56 n (n / 4294967296 / 65536 / 256) (by omega) (by rw [l8_size]; omega) (by omega) rfl (by unfold nd; (repeat' split) <;> omega) _ (by rfl) _

set_option maxHeartbeats 1000000 in
theorem blen_any (n : Nat) (hn : n < 9223372036854775808) (w : World) :
    Calls Try.prog 50 #[.int .u64 n] w fun e w' => ∃ L : Nat, e = .returned (.int .i64 L) ∧ L ≤ 64 ∧ (L + 7) / 8 = nd n ∧ w = w' := by
  have H := Lib.hid (len64_any n (by omega) w)
  go_enter Try.func50, Try.ntmps50
  go_wp2_with fail
  refine H.out.mono ?_
  rintro e w' ⟨L, rfl, h1, h2, rfl⟩
  go_wp2_with fail
  go_ret
  exact ⟨L, rfl, h1, h2, rfl⟩

set_option maxHeartbeats 1000000 in
theorem needs_any (n : Nat) (hn : n < 9223372036854775808) (w : World) :
    Calls Try.prog 54 #[.int .i64 n] w fun e w' => e = .returned (.int .i64 (nd n : Nat)) ∧ w = w' := by
  go_enter Try.func54, Try.ntmps54
  go_wp2_with fail
  go_loopw [0, 3] (fun nv kv wr => ∃ m k : Nat, m ≤ n ∧ k + nd m = nd n ∧ nv = .int .i64 m ∧ kv = .int .i64 k ∧ wr = w) (fun nv _ _ => (intOf nv).toNat)
  case atStart => exact ⟨n, 0, Nat.le_refl _, by omega, rfl, rfl, rfl⟩
  case round =>
    obtain ⟨m, k, hm, hk, rfl, rfl, rfl⟩ := hrel
    have hk8 := nd_le n
    by_cases h0 : m = 0
    · subst h0
      have hk0 : k = nd n := by rw [nd_zero] at hk; omega
      subst hk0
      go_wp2_with fail
      go_ret
      exact ⟨rfl, rfl⟩
    · have hd : decide ((0 : Int) < (m : Int)) = true := by simp; omega
      have hs := nd_step m (by omega) (by omega)
      have HS := Lib.hid hs
      have HK := Lib.hid hk
      have hk9 : k ≤ 8 := by omega
      clear hs hk
      go_wp2_with fail
      go_roundw
      case rel => exact ⟨m / 256, k + 1, by omega, by have := HS.out; have := HK.out; omega, rfl, rfl, trivial⟩
      case measure => simp [intOf]; omega
end Go.Proofs.Ythokiohdeclmhaa.Oct

/-! ## TyBs -/
/- Slices of bytes in this program: literals, literals that are marked, make. -/
namespace Go.Proofs.Ythokiohdeclmhaa.Oct
open Go.ChangeShapes Go.WideShapes Go.ChangeAt Go.RowKit
set_option linter.unusedVariables false

theorem bs0 (w : World) : (Instr.buildSlice 29 0 #[]).run Try.prog w = .ok (.slice (some ⟨w.heap.size, 0, none⟩) 0 0) (w.alloc (.cells #[] 5)) := by kernel_rfl
theorem bs1 (x : Int) (w : World) : (Instr.buildSlice 29 1 #[(0, .int .u8 x)]).run Try.prog w = .ok (.slice (some ⟨w.heap.size, 0, none⟩) 1 1) (w.alloc (.cells #[.int .u8 x] 5)) := by kernel_rfl
theorem ex_bs0 (ρ : Operand → Value) {o : Oper} (ho : o.op = .buildSlice 29 0 #[]) (w : World) : (execOp ρ o).run Try.prog w = .ok (.value (.slice (some ⟨w.heap.size, 0, none⟩) 0 0)) (w.alloc (.cells #[] 5)) := by
  unfold execOp
  simp only [ho, Sem.run_bind, List.map_toArray, List.map_nil]
  rw [bs0]
  rfl
theorem ex_bs1 (ρ : Operand → Value) {o : Oper} (t : Operand) (ho : o.op = .buildSlice 29 1 #[(0, t)]) (x : Int) (hx : ρ t = .int .u8 x) (w : World) : (execOp ρ o).run Try.prog w = .ok (.value (.slice (some ⟨w.heap.size, 0, none⟩) 1 1)) (w.alloc (.cells #[.int .u8 x] 5)) := by
  unfold execOp
  simp only [ho, Sem.run_bind, List.map_toArray, List.map_cons, List.map_nil, hx]
  rw [bs1]
  rfl
theorem mk_sl (n : Nat) (hn : n ≤ 140737488355328) (w : World) : (Instr.makeSlice 29 (.int .i64 (n : Int)) (.int .i64 (n : Int))).run Try.prog w = .ok (.slice (some ⟨w.heap.size, 0, none⟩) n n) (w.alloc (.cells (ba n fun _ => 0#8) 5)) := by
  obtain ⟨iu, hiu, z0, z1, z2⟩ := info_parts (P := Try.prog) u8_info
  rw [run_make w 29 5 iu (.int .u8 0) sli_u hiu z0 .i64 .i64 n n (by omega) (Int.le_refl _) (by rw [z2]; omega) (by omega), Int.toNat_natCast, z1, made_ba]
@[go_sem] theorem conv_lit (w : World) (C : Array Value) (n c p : Nat) (hp : p = w.heap.size) : (convert 29 29 (.slice (some ⟨p, 0, none⟩) n c)).run Try.prog (w.alloc (.cells C 5)) = .ok (.slice (some ⟨p, 0, none⟩) n c) (w.alloc (.cells C 5 (C.size, C.size + 1))) := by
  subst hp
  exact Lib.run_convert_bytes_const (P := Try.prog) w 29 5 C n c sli_u u8_u
/-- a literal of bytes, marked: it reads as it stands -/
theorem Sl.lit (w : World) {C : Array Value} {n : Nat} {f : Bf} (hC : C = ba n f) (u : TypeId) (m : Nat × Nat) (B : Nat) (hB : w.heap.size < B) : Sl (w.alloc (.cells C u m)) B (some ⟨w.heap.size, 0, none⟩) n n f := by
  subst hC
  exact ⟨Nat.le_refl _, fun _ => ⟨w.heap.size, 0, rfl, hB, fun i hi => by rw [Nat.zero_add, cell_of_row _ _ i _ _ _ (heap_alloc_new w _), ba_get n f i hi]⟩⟩
end Go.Proofs.Ythokiohdeclmhaa.Oct

/-! ## PkB -/
/- Contracts: bytes.Clone, pack's appendNumber, Put, PutText. -/
namespace Go.Proofs.Ythokiohdeclmhaa.Oct
open Go.ChangeShapes Go.WideShapes Go.ChangeAt Go.RowKit
set_option linter.unusedVariables false

set_option maxHeartbeats 1000000 in
theorem clone_any (n c : Nat) (A : Option Addr) (b : Bf) (w : World) (hs : Sl w w.heap.size A n c b) (hn : n ≤ 140737488355328) :
    Calls Try.prog 77 #[.slice A n c] w fun e w' => ∃ v, e = .returned v ∧ Own w' w.heap.size 5 v n b ∧ Below w.heap.size w w' := by
  have HS := Lib.hid hs
  go_enter Try.func77, Try.ntmps77
  cases A with
  | none =>
    have h0 := hs.nil_zero rfl
    subst h0
    clear hs
    have qT := fun (w : World) (n c : Nat) => Lib.run_eql_slice_nil (P := Try.prog) w 29 5 none n c 0 0 sli_u
    go_wp2_with fail
    go_ret
    exact ⟨_, rfl, Own.nil _ _ _ _, Below.refl _ _⟩
  | some a =>
    clear hs
    have qT := fun (w : World) (n c : Nat) => Lib.run_eql_slice_nil (P := Try.prog) w 29 5 (some a) n c 0 0 sli_u
    have O1 := Lib.hid (show Own (w.alloc (.cells #[] 5)) w.heap.size 5 (.slice (some ⟨w.heap.size, 0, none⟩) 0 0) 0 b from Own.empty w w.heap.size 5 _ (Nat.le_refl _))
    have B1 := (Below.refl w.heap.size w).alloc (Nat.le_refl _) (.cells #[] 5)
    have S1 := HS.out.below B1
    have hb : w.heap.size ≤ (w.alloc (.cells #[] 5)).heap.size := by simp
    go_wp2_with (at_builtin; refine wpl_appB rfl (.tmp 5) (.tmp 6) rfl sli_u u8_info O1.out S1 (by omega) hb rfl rfl ?_; intro v4 w4 ho4 hg4 ht4)
    go_ret
    exact ⟨_, rfl, by rw [Nat.zero_add, catF_zero] at ho4; exact ho4, O1.out.after hg4 B1 hb (Nat.le_refl _)⟩

/-- the writing of a number, as it is laid byte by byte: the first j bytes behind n -/
theorem enc_step (n N j : Nat) (f : Bf) (hj : j < nd n) (i : Nat) (hi : i < N + (j + 1) + 1) :
    catF (N + (j + 1)) (catF N f (encF n)) (fun _ => BitVec.ofNat 8 (n / 256 ^ (nd n - (j + 1)))) i = catF N f (encF n) i := by
  unfold catF
  by_cases h : i < N + (j + 1)
  · rw [if_pos h]
  · rw [if_neg h, if_neg (by omega), show i - N = j + 1 by omega]
    unfold encF
    rw [if_neg (by omega)]

theorem byt_8 (n s : Nat) : ((n : Int) / 2 ^ (s * 8) % 256) = I (BitVec.ofNat 8 (n / 256 ^ s)) := by
  unfold I
  rw [BitVec.toNat_ofNat, show (256 : Nat) ^ s = 2 ^ (s * 8) by rw [Nat.mul_comm, Nat.pow_mul]]
  rfl
theorem byt_9 (n s : Nat) : ((n : Int) / 2 ^ (8 * s) % 256) = I (BitVec.ofNat 8 (n / 256 ^ s)) := by rw [Nat.mul_comm]; exact byt_8 n s

set_option maxHeartbeats 2000000 in
theorem appn_any (n N base : Nat) (v : Value) (f : Bf) (w : World) (ho : Own w base 5 v N f) (hN : N ≤ 140737488355000) (hb : base ≤ w.heap.size) (hn : n < 9223372036854775808) :
    Calls Try.prog 76 #[v, .int .i64 n] w fun e w' => ∃ v', e = .returned v' ∧ Own w' base 5 v' (N + encL n) (catF N f (encF n)) ∧ Below base w w' := by
  have HO := Lib.hid ho
  have H1 := Lib.hid (blen_any n hn w)
  have hcv : IntKind.u64.wrap (n : Int) = n := by rw [IntKind.wrap_u64]; omega
  clear ho
  go_enter Try.func76, Try.ntmps76
  go_wp2_with fail
  refine H1.out.mono ?_
  rintro e w' ⟨L, rfl, hL, hk, rfl⟩
  have hK8 := nd_le n
  obtain ⟨K, hK⟩ : ∃ K, K = nd n := ⟨_, rfl⟩
  rw [← hK] at hk hK8
  have hq : ((L : Int) + 8 - 1) / 8 = (K : Int) := by omega
  have hI : (K : Int) = I (BitVec.ofNat 8 K) := by unfold I; rw [BitVec.toNat_ofNat]; omega
  have HI := Lib.hid hI
  have HK := Lib.hid hK
  have B1 := Lib.hid ((Below.refl base w).alloc hb (.cells #[.int .u8 (K : Int)] 5))
  have S1 := Lib.hid (show Sl (w.alloc (.cells #[.int .u8 (K : Int)] 5)) (w.heap.size + 1) (some ⟨w.heap.size, 0, none⟩) 1 1 (fun _ => BitVec.ofNat 8 K) by rw [hI]; exact Sl.one w _ _ _ (by omega))
  have O1 := Lib.hid (HO.out.alloc (.cells #[.int .u8 (K : Int)] 5))
  have hb1 : base ≤ (w.alloc (.cells #[.int .u8 (K : Int)] 5)).heap.size := by simp; omega
  clear H1 hI hK hk
  go_wp2_with (at_builtin; refine wpl_appB rfl (.tmp 13) (.tmp 16) rfl sli_u u8_info O1.out S1.out (by omega) hb1 rfl rfl ?_; intro v2 w2 ho2 hg2 ht2)
  have B2 := Lib.hid (O1.out.after hg2 B1.out hb1 (Nat.le_refl _))
  have hz2 := hg2.size
  have O2 := Lib.hid (show Own w2 base 5 v2 (N + 0 + 1) (catF N f (encF n)) from ho2.congr fun i hi => by
    unfold catF
    by_cases h : i < N
    · rw [if_pos h, if_pos h]
    · rw [if_neg h, if_neg h, show i - N = 0 by omega, HK.out]; rfl)
  have hz3 : base ≤ w2.heap.size := by simp at hz2; omega
  clear ho2 hg2 ht2 hz2 B1 S1 O1 hb1
  go_loopw [0, 6] (fun bv iv wr => ∃ r j : Nat, r + j = K ∧ iv = .int .i64 ((r : Int) - 1) ∧ Own wr base 5 bv (N + j + 1) (catF N f (encF n)) ∧ Below base w wr ∧ base ≤ wr.heap.size) (fun _ iv _ => (intOf iv + 1).toNat)
  case atStart => exact ⟨K, 0, by omega, rfl, O2.out, B2.out, hz3⟩
  case round =>
    clear O2 B2 hz3
    obtain ⟨r, j, hrj, rfl, ho, hbl, hz⟩ := hrel
    obtain ⟨wo, rfl⟩ : ∃ wo : World, wo = wr := ⟨_, rfl⟩
    have HOo := Lib.hid ho
    have HB := Lib.hid hbl
    clear ho hbl
    rcases r with _ | s
    · have hd : decide ((0 : Int) ≤ ((0 : Nat) : Int) - 1) = false := by decide
      have hj : j = K := by omega
      subst hj
      go_wp2_with fail
      go_ret
      exact ⟨_, rfl, by unfold encL; rw [← HK.out]; exact HOo.out, HB.out⟩
    · have e1 : ((s + 1 : Nat) : Int) - 1 = (s : Int) := by omega
      rw [e1]
      have hd : decide ((0 : Int) ≤ (s : Int)) = true := by simp
      have B3 := Lib.hid (HB.out.alloc hz (.cells #[.int .u8 ((n : Int) / 2 ^ (s * 8) % 256)] 5))
      have S3 := Lib.hid (show Sl (wo.alloc (.cells #[.int .u8 ((n : Int) / 2 ^ (s * 8) % 256)] 5)) (wo.heap.size + 1) (some ⟨wo.heap.size, 0, none⟩) 1 1 (fun _ => BitVec.ofNat 8 (n / 256 ^ s)) by rw [byt_8]; exact Sl.one wo _ _ _ (by omega))
      have O3 := Lib.hid (HOo.out.alloc (.cells #[.int .u8 ((n : Int) / 2 ^ (s * 8) % 256)] 5))
      have hb3 : base ≤ (wo.alloc (.cells #[.int .u8 ((n : Int) / 2 ^ (s * 8) % 256)] 5)).heap.size := by simp; omega
      clear HB HOo
      go_wp2_with (at_builtin; refine wpl_appB rfl (.tmp 24) (.tmp 30) rfl sli_u u8_info O3.out S3.out (by omega) hb3 rfl rfl ?_; intro v4 w4 ho4 hg4 ht4)
      have hz4 := hg4.size
      have B4 := Lib.hid (O3.out.after hg4 B3.out hb3 (Nat.le_refl _))
      have O4 := Lib.hid (show Own w4 base 5 v4 (N + (j + 1) + 1) (catF N f (encF n)) from ho4.congr fun i hi => by
        have := enc_step n N j f (by rw [← HK.out]; omega) i hi
        rw [← HK.out, show K - (j + 1) = s by omega] at this
        exact this)
      have hz5 : base ≤ w4.heap.size := by omega
      clear ho4 hg4 ht4 hz4 B3 S3 O3 hb3
      go_roundw
      case rel => exact ⟨s, j + 1, by omega, rfl, O4.out, B4.out, hz5⟩
      case measure => simp [intOf]

set_option maxHeartbeats 1000000 in
theorem put_neg (n : Int) (N c : Nat) (A : Option Addr) (w : World) (hn : n < 0) :
    Calls Try.prog 67 #[.slice A N c, .int .i64 n] w fun e w' => e = .returned (.tuple #[.slice none 0 0, .int .i64 1]) ∧ w = w' := by
  have hd : decide (n < 0) = true := by simp; omega
  go_enter Try.func67, Try.ntmps67
  go_wp2_with fail
  exact bodyPost_ret (v := .tuple #[.slice none 0 0, .int .i64 1]) (by simp [results, Try.results67, go_sem]) rfl ⟨rfl, rfl⟩
set_option maxHeartbeats 1000000 in
theorem put_any (n N c : Nat) (A : Option Addr) (b : Bf) (w : World) (hs : Sl w w.heap.size A N c b) (hN : N ≤ 140737488355000) (hn : n < 9223372036854775808) :
    Calls Try.prog 67 #[.slice A N c, .int .i64 n] w fun e w' => ∃ v, e = .returned (.tuple #[v, .int .i64 0]) ∧ Own w' w.heap.size 5 v (N + encL n) (catF N b (encF n)) ∧ Below w.heap.size w w' := by
  have hd : decide ((n : Int) < 0) = false := by simp
  have H1 := Lib.hid (clone_any N c A b w hs (by omega))
  clear hs
  go_enter Try.func67, Try.ntmps67
  go_wp2_with fail
  refine H1.out.mono ?_
  rintro e w1 ⟨v1, rfl, ho1, hb1⟩
  have H2 := Lib.hid (appn_any n N w.heap.size v1 b w1 ho1 hN hb1.size hn)
  have B1 := Lib.hid hb1
  clear H1 ho1 hb1
  go_wp2_with fail
  refine H2.out.mono ?_
  rintro e w2 ⟨v2, rfl, ho2, hb2⟩
  have O2 := Lib.hid ho2
  have B2 := Lib.hid (B1.out.trans hb2)
  clear H2 ho2 hb2 B1
  go_wp2_with fail
  exact bodyPost_ret (v := .tuple #[v2, .int .i64 0]) (by simp [results, Try.results67, go_sem]) rfl ⟨_, rfl, O2.out, B2.out⟩
end Go.Proofs.Ythokiohdeclmhaa.Oct

/-! ## PkC -/
/- Contracts: pack's PutText; the reference's Put and PutText. -/
namespace Go.Proofs.Ythokiohdeclmhaa.Oct
open Go.ChangeShapes Go.WideShapes Go.ChangeAt Go.RowKit
set_option linter.unusedVariables false

/-- a text's writing: its length's, and its bytes -/
def txL (T : Nat) : Nat := encL T + T
def txF (T : Nat) (t : Bf) : Bf := catF (encL T) (encF T) t
theorem catF_assoc (n m : Nat) (f g h : Bf) : catF (n + m) (catF n f g) h = catF n f (catF m g h) := by
  funext i
  unfold catF
  by_cases h1 : i < n
  · rw [if_pos (by omega), if_pos h1, if_pos h1]
  · by_cases h2 : i < n + m
    · rw [if_pos h2, if_neg h1, if_neg h1, if_pos (by omega)]
    · rw [if_neg h2, if_neg h1, if_neg (by omega), show i - (n + m) = i - n - m by omega]
theorem catF_len (n m : Nat) (f g g' : Bf) (h : ∀ i, i < m → g i = g' i) : ∀ i, i < n + m → catF n f g i = catF n f g' i := fun i hi => by
  unfold catF
  by_cases h1 : i < n
  · rw [if_pos h1, if_pos h1]
  · rw [if_neg h1, if_neg h1, h _ (by omega)]

set_option maxHeartbeats 1000000 in
theorem putt_long (N c T c1 : Nat) (A A1 : Option Addr) (w : World) (hT : 4096 < T) :
    Calls Try.prog 69 #[.slice A N c, .slice A1 T c1] w fun e w' => e = .returned (.tuple #[.slice none 0 0, .int .i64 2]) ∧ w = w' := by
  have hd : decide (4096 < (T : Int)) = true := by simp; omega
  go_enter Try.func69, Try.ntmps69
  go_wp2_with fail
  exact bodyPost_ret (v := .tuple #[.slice none 0 0, .int .i64 2]) (by simp [results, Try.results69, go_sem]) rfl ⟨rfl, rfl⟩
set_option maxHeartbeats 1000000 in
theorem putt_any (N c T c1 : Nat) (A A1 : Option Addr) (b t : Bf) (w : World) (hs : Sl w w.heap.size A N c b) (ht : Sl w w.heap.size A1 T c1 t) (hN : N ≤ 140737488351232) (hT : T ≤ 4096) :
    Calls Try.prog 69 #[.slice A N c, .slice A1 T c1] w fun e w' => ∃ v, e = .returned (.tuple #[v, .int .i64 0]) ∧ Own w' w.heap.size 5 v (N + txL T) (catF N b (txF T t)) ∧ Below w.heap.size w w' := by
  have hd : decide (4096 < (T : Int)) = false := by simp; omega
  have H1 := Lib.hid (clone_any N c A b w hs (by omega))
  have HT := Lib.hid ht
  have hE := encL_le T
  clear hs ht
  go_enter Try.func69, Try.ntmps69
  go_wp2_with fail
  refine H1.out.mono ?_
  rintro e w1 ⟨v1, rfl, ho1, hb1⟩
  have H2 := Lib.hid (appn_any T N w.heap.size v1 b w1 ho1 (by omega) hb1.size (by omega))
  have B1 := Lib.hid hb1
  clear H1 ho1 hb1
  go_wp2_with fail
  refine H2.out.mono ?_
  rintro e w2 ⟨v2, rfl, ho2, hb2⟩
  have O2 := Lib.hid ho2
  have B2 := Lib.hid (B1.out.trans hb2)
  have T2 := Lib.hid (HT.out.below B2.out)
  have hz2 := B2.out.size
  clear H2 ho2 hb2 B1
  go_wp2_with (at_builtin; refine wpl_appW rfl (.tmp 13) (.tmp 14) rfl sli_u u8_info O2.out T2.out (by omega) hz2 rfl rfl ?_; intro v4 w4 ho4 hg4)
  rw [catF_assoc, Nat.add_assoc] at ho4
  have B4 := O2.out.after hg4 B2.out hz2 (Nat.le_refl _)
  exact bodyPost_ret (v := .tuple #[v4, .int .i64 0]) (by simp [results, Try.results69, go_sem]) rfl ⟨_, rfl, ho4, B4⟩

/- the reference -/
set_option maxHeartbeats 1000000 in
theorem rput_neg (n : Int) (N c : Nat) (A : Option Addr) (w : World) (hn : n < 0) :
    Calls Try.prog 46 #[.slice A N c, .int .i64 n] w fun e w' => e = .returned (.tuple #[.slice none 0 0, .int .i64 1]) ∧ w = w' := by
  have hd : decide (n < 0) = true := by simp; omega
  go_enter Try.func46, Try.ntmps46
  go_wp2_with fail
  exact bodyPost_ret (v := .tuple #[.slice none 0 0, .int .i64 1]) (by simp [results, Try.results46, go_sem]) rfl ⟨rfl, rfl⟩
set_option maxHeartbeats 2000000 in
theorem rput_any (n N c : Nat) (A : Option Addr) (b : Bf) (w : World) (hs : Sl w w.heap.size A N c b) (hN : N ≤ 140737488355000) (hn : n < 9223372036854775808) :
    Calls Try.prog 46 #[.slice A N c, .int .i64 n] w fun e w' => ∃ v, e = .returned (.tuple #[v, .int .i64 0]) ∧ Own w' w.heap.size 5 v (N + encL n) (catF N b (encF n)) ∧ Below w.heap.size w w' := by
  have hd : decide ((n : Int) < 0) = false := by simp
  have H1 := Lib.hid (needs_any n hn w)
  have HS := Lib.hid hs
  have hK8 := nd_le n
  obtain ⟨K, hK⟩ : ∃ K, K = nd n := ⟨_, rfl⟩
  rw [← hK] at hK8 H1
  have hI : (K : Int) = I (BitVec.ofNat 8 K) := by unfold I; rw [BitVec.toNat_ofNat]; omega
  have HK := Lib.hid hK
  have B0 := Lib.hid ((Below.refl w.heap.size w).alloc (Nat.le_refl _) (.cells #[] 5))
  have O0 := Lib.hid (show Own (w.alloc (.cells #[] 5)) w.heap.size 5 (.slice (some ⟨w.heap.size, 0, none⟩) 0 0) 0 b from Own.empty w w.heap.size 5 _ (Nat.le_refl _))
  have S0 := Lib.hid (HS.out.below B0.out)
  have hz0 : w.heap.size ≤ (w.alloc (.cells #[] 5)).heap.size := by simp
  have HI := Lib.hid hI
  clear hs hK hI
  go_enter Try.func46, Try.ntmps46
  go_wp2_with fail
  refine H1.out.mono ?_
  rintro e w' ⟨rfl, rfl⟩
  clear H1
  go_wp2_with (at_builtin; first
    | (refine wpl_appB rfl (.tmp 13) (.tmp 14) rfl sli_u u8_info O0.out S0.out (by omega) hz0 rfl rfl ?_
       intro v1 w1 ho1 hg1 ht1
       rw [Nat.zero_add, catF_zero] at ho1
       have hz1 : w.heap.size ≤ w1.heap.size := by have := hg1.size; omega
       have B1 := Lib.hid ((O0.out.after hg1 B0.out hz0 (Nat.le_refl _)).alloc hz1 (.cells #[.int .u8 (K : Int)] 5))
       have S1 := Lib.hid (show Sl (w1.alloc (.cells #[.int .u8 (K : Int)] 5)) (w1.heap.size + 1) (some ⟨w1.heap.size, 0, none⟩) 1 1 (fun _ => BitVec.ofNat 8 K) by rw [HI.out]; exact Sl.one w1 _ _ _ (by omega))
       have O1 := Lib.hid (ho1.alloc (.cells #[.int .u8 (K : Int)] 5))
       have hb1 : w.heap.size ≤ (w1.alloc (.cells #[.int .u8 (K : Int)] 5)).heap.size := by simp; omega
       clear ho1 hg1 ht1 B0 S0 O0)
    | (refine wpl_appB rfl (.tmp 15) (.tmp 18) rfl sli_u u8_info O1.out S1.out (by omega) hb1 rfl rfl ?_; intro v2 w2 ho2 hg2 ht2))
  have B2 := Lib.hid (O1.out.after hg2 B1.out hb1 (Nat.le_refl _))
  have hz2 := hg2.size
  have O2 := Lib.hid (show Own w2 w.heap.size 5 v2 (N + 0 + 1) (catF N b (encF n)) from ho2.congr fun i hi => by
    unfold catF
    by_cases h : i < N
    · rw [if_pos h, if_pos h]
    · rw [if_neg h, if_neg h, show i - N = 0 by omega, HK.out]; rfl)
  have hz3 : w.heap.size ≤ w2.heap.size := by omega
  clear ho2 hg2 ht2 hz2 B1 S1 O1 hb1
  go_loopw [7, 8] (fun bv iv wr => ∃ r j : Nat, r + j = K ∧ iv = .int .i64 ((r : Int) - 1) ∧ Own wr w.heap.size 5 bv (N + j + 1) (catF N b (encF n)) ∧ Below w.heap.size w wr ∧ w.heap.size ≤ wr.heap.size) (fun _ iv _ => (intOf iv + 1).toNat)
  case atStart => exact ⟨K, 0, by omega, rfl, O2.out, B2.out, hz3⟩
  case round =>
    clear O2 B2 hz3
    obtain ⟨r, j, hrj, rfl, ho, hbl, hz⟩ := hrel
    obtain ⟨wo, rfl⟩ : ∃ wo : World, wo = wr := ⟨_, rfl⟩
    have HOo := Lib.hid ho
    have HB := Lib.hid hbl
    clear ho hbl
    rcases r with _ | s
    · have hd : decide ((0 : Int) ≤ ((0 : Nat) : Int) - 1) = false := by decide
      have hj : j = K := by omega
      subst hj
      go_wp2_with fail
      exact bodyPost_ret (v := .tuple #[u7, .int .i64 0]) (by simp [results, Try.results46, go_sem]) rfl ⟨_, rfl, by unfold encL; rw [← HK.out]; exact HOo.out, HB.out⟩
    · have e1 : ((s + 1 : Nat) : Int) - 1 = (s : Int) := by omega
      rw [e1]
      have hd : decide ((0 : Int) ≤ (s : Int)) = true := by simp
      have B3 := Lib.hid (HB.out.alloc hz (.cells #[.int .u8 ((n : Int) / 2 ^ (8 * s) % 256)] 5))
      have S3 := Lib.hid (show Sl (wo.alloc (.cells #[.int .u8 ((n : Int) / 2 ^ (8 * s) % 256)] 5)) (wo.heap.size + 1) (some ⟨wo.heap.size, 0, none⟩) 1 1 (fun _ => BitVec.ofNat 8 (n / 256 ^ s)) by rw [byt_9]; exact Sl.one wo _ _ _ (by omega))
      have O3 := Lib.hid (HOo.out.alloc (.cells #[.int .u8 ((n : Int) / 2 ^ (8 * s) % 256)] 5))
      have hb3 : w.heap.size ≤ (wo.alloc (.cells #[.int .u8 ((n : Int) / 2 ^ (8 * s) % 256)] 5)).heap.size := by simp; omega
      clear HB HOo
      go_wp2_with (at_builtin; refine wpl_appB rfl (.tmp 26) (.tmp 32) rfl sli_u u8_info O3.out S3.out (by omega) hb3 rfl rfl ?_; intro v4 w4 ho4 hg4 ht4)
      have hz4 := hg4.size
      have B4 := Lib.hid (O3.out.after hg4 B3.out hb3 (Nat.le_refl _))
      have O4 := Lib.hid (show Own w4 w.heap.size 5 v4 (N + (j + 1) + 1) (catF N b (encF n)) from ho4.congr fun i hi => by
        have := enc_step n N j b (by rw [← HK.out]; omega) i hi
        rw [← HK.out, show K - (j + 1) = s by omega] at this
        exact this)
      have hz5 : w.heap.size ≤ w4.heap.size := by omega
      clear ho4 hg4 ht4 hz4 B3 S3 O3 hb3
      go_roundw
      case rel => exact ⟨s, j + 1, by omega, rfl, O4.out, B4.out, hz5⟩
      case measure => simp [intOf]

set_option maxHeartbeats 1000000 in
theorem rputt_long (N c T c1 : Nat) (A A1 : Option Addr) (w : World) (hT : 4096 < T) :
    Calls Try.prog 47 #[.slice A N c, .slice A1 T c1] w fun e w' => e = .returned (.tuple #[.slice none 0 0, .int .i64 2]) ∧ w = w' := by
  have hd : decide (4096 < (T : Int)) = true := by simp; omega
  go_enter Try.func47, Try.ntmps47
  go_wp2_with fail
  exact bodyPost_ret (v := .tuple #[.slice none 0 0, .int .i64 2]) (by simp [results, Try.results47, go_sem]) rfl ⟨rfl, rfl⟩
set_option maxHeartbeats 1000000 in
theorem rputt_any (N c T c1 : Nat) (A A1 : Option Addr) (b t : Bf) (w : World) (hs : Sl w w.heap.size A N c b) (ht : Sl w w.heap.size A1 T c1 t) (hN : N ≤ 140737488351232) (hT : T ≤ 4096) :
    Calls Try.prog 47 #[.slice A N c, .slice A1 T c1] w fun e w' => ∃ v, e = .returned (.tuple #[v, .int .i64 0]) ∧ Own w' w.heap.size 5 v (N + txL T) (catF N b (txF T t)) ∧ Below w.heap.size w w' := by
  have hd : decide (4096 < (T : Int)) = false := by simp; omega
  have H1 := Lib.hid (rput_any T N c A b w hs (by omega) (by omega))
  have HT := Lib.hid ht
  have hE := encL_le T
  clear hs ht
  go_enter Try.func47, Try.ntmps47
  go_wp2_with fail
  refine H1.out.mono ?_
  rintro e w2 ⟨v2, rfl, ho2, hb2⟩
  have O2 := Lib.hid ho2
  have B2 := Lib.hid hb2
  have T2 := Lib.hid (HT.out.below B2.out)
  have hz2 := B2.out.size
  clear H1 ho2 hb2
  go_wp2_with (at_builtin; refine wpl_appW rfl (.tmp 18) (.tmp 19) rfl sli_u u8_info O2.out T2.out (by omega) hz2 rfl rfl ?_; intro v4 w4 ho4 hg4)
  rw [catF_assoc, Nat.add_assoc] at ho4
  have B4 := O2.out.after hg4 B2.out hz2 (Nat.le_refl _)
  exact bodyPost_ret (v := .tuple #[v4, .int .i64 0]) (by simp [results, Try.results47, go_sem]) rfl ⟨_, rfl, ho4, B4⟩
end Go.Proofs.Ythokiohdeclmhaa.Oct

/-! ## PkE -/
/- Contracts: value; the closures that go through bytes; number, lengthUpTo. -/
namespace Go.Proofs.Ythokiohdeclmhaa.Oct
open Go.ChangeShapes Go.WideShapes Go.ChangeAt Go.RowKit
set_option linter.unusedVariables false

/-- a number of 64 bits, as an int -/
def sg (x : Nat) : Int := if x < 9223372036854775808 then (x : Int) else (x : Int) - 18446744073709551616
theorem sg_small {x : Nat} (h : x < 9223372036854775808) : sg x = x := by unfold sg; rw [if_pos h]
theorem sg_bits (x : Nat) (h : x < 18446744073709551616) : (BitVec.ofInt 64 (sg x)).toNat = x := by
  rw [BitVec.toNat_ofInt]; unfold sg; split <;> omega
theorem sg_wrap (x : Nat) (h : x < 18446744073709551616) : IntKind.i64.wrap (x : Int) = sg x := by
  rw [IntKind.wrap_i64]; unfold sg; split <;> omega
theorem or_step (v d : Nat) (hv : v < 72057594037927936) (hd : d < 256) : bits .or .i64 (sg (v * 256)) (d : Int) = sg (v * 256 + d) := by
  show IntKind.i64.wrap ((BitVec.ofInt 64 (sg (v * 256)) ||| BitVec.ofInt 64 (d : Int)).toNat : Int) = _
  rw [BitVec.toNat_or, sg_bits _ (by omega), Bits.ofInt_i64 d (by omega), Nat.mul_comm v 256, show (256 : Nat) = 2 ^ 8 from rfl, ← Nat.two_pow_add_eq_or_of_lt (by omega)]
  exact sg_wrap _ (by omega)

/-- what digits come to, or not -/
def vaE (k : Nat) (d : Bf) : Nat := if 0 < k ∧ d 0 = 0#8 then 80 else if 9223372036854775808 ≤ val d k then 80 else 0

/-- the number, if they come to one -/
def vaV (k : Nat) (d : Bf) : Int := if vaE k d = 0 then (val d k : Int) else 0

theorem box_cell1 {w : World} {X : Nat} {v : Value} (hr : row w X = some #[v]) : w.cell? ⟨X, 0, none⟩ = some v := by rw [cell_row hr]; rfl

/-- what is left behind a take, as bytes -/
theorem sl_put {w w' : World} {X B n c : Nat} {A : Option Addr} {f : Bf} {z : Array Value} (hp : Put X z w w') (hs : Sl w B A n c f) (hB : B ≤ X) (hX : X < w.heap.size) : Sl w' B A n c f := hp.sl hs (by omega) (hs.off hB)
theorem tk_va {n : Nat} {f : Bf} (h0 : 0 < n) (h8 : (f 0).toNat ≤ 8) (hk : (f 0).toNat < n) : tkE n f = vaE (f 0).toNat (offF f 1) := by
  unfold tkE vaE
  rw [if_neg (by omega), if_neg (by omega), if_neg (by omega)]
  rfl

/-- the length of what is no longer than m -/
def upP (X B n : Nat) (m : Int) (f : Bf) (w : World) (e : Ending) (w' : World) : Prop :=
  (tkE n f ≠ 0 ∧ e = .returned (.tuple #[.int .i64 0, .int .i64 (tkE n f : Nat)]) ∧ Below X w w') ∨
  (tkE n f = 0 ∧ m < tkV f ∧ e = .returned (.tuple #[.int .i64 0, .int .i64 2]) ∧ Below X w w') ∨
  (tkE n f = 0 ∧ ¬ m < tkV f ∧ e = .returned (.tuple #[.int .i64 (tkV f : Nat), .int .i64 0]) ∧ ∃ A' c', Put X #[.slice A' (n - tkL f) c'] w w' ∧ Sl w' B A' (n - tkL f) c' (offF f (tkL f)))
end Go.Proofs.Ythokiohdeclmhaa.Oct

/-! ## PkF -/
/- Contracts: Take, TakeText; the reference's. -/
namespace Go.Proofs.Ythokiohdeclmhaa.Oct
open Go.ChangeShapes Go.WideShapes Go.ChangeAt Go.RowKit
set_option linter.unusedVariables false

/-- what Take answers, and leaves -/
def taP (n : Nat) (f : Bf) (w : World) (e : Ending) (w' : World) : Prop :=
  (tkE n f ≠ 0 ∧ e = .returned (.tuple #[.int .i64 0, .slice none 0 0, .int .i64 (tkE n f : Nat)]) ∧ Below w.heap.size w w') ∨
  (tkE n f = 0 ∧ ∃ v, e = .returned (.tuple #[.int .i64 (tkV f : Nat), v, .int .i64 0]) ∧ Own w' w.heap.size 5 v (n - tkL f) (offF f (tkL f)) ∧ Below w.heap.size w w')

/-- the error of a text, and what TakeText answers, and leaves -/
def ttE (n : Nat) (m : Int) (f : Bf) : Nat := if tkE n f ≠ 0 then tkE n f else if m < tkV f then 2 else if n - tkL f < tkV f then 3 else 0
def ttP (n : Nat) (m : Int) (f : Bf) (w : World) (e : Ending) (w' : World) : Prop :=
  (ttE n m f ≠ 0 ∧ e = .returned (.tuple #[.slice none 0 0, .slice none 0 0, .int .i64 (ttE n m f : Nat)]) ∧ Below w.heap.size w w') ∨
  (ttE n m f = 0 ∧ ∃ u v, e = .returned (.tuple #[u, v, .int .i64 0]) ∧ Own w' w.heap.size 5 u (tkV f) (offF f (tkL f)) ∧ Own w' w.heap.size 5 v (n - tkL f - tkV f) (offF f (tkL f + tkV f)) ∧ Below w.heap.size w w')
theorem offF_offF (f : Bf) (a b : Nat) : offF (offF f a) b = offF f (a + b) := by funext i; unfold offF; rw [Nat.add_assoc]

/- the reference -/
end Go.Proofs.Ythokiohdeclmhaa.Oct

/-! ## PkG -/
/- Contracts: the reference's TakeText. -/
namespace Go.Proofs.Ythokiohdeclmhaa.Oct
open Go.ChangeShapes Go.WideShapes Go.ChangeAt Go.RowKit
set_option linter.unusedVariables false

end Go.Proofs.Ythokiohdeclmhaa.Oct

/-! ## PkH -/
/- Contracts: TakeList. -/
namespace Go.Proofs.Ythokiohdeclmhaa.Oct
open Go.ChangeShapes Go.WideShapes Go.ChangeAt Go.RowKit
set_option linter.unusedVariables false

/-- ints as values -/
def iV (x : Nat → Int) : Nat → Value := fun i => .int .i64 (x i)
theorem SlG.upto {w : World} {B n c : Nat} {A : Option Addr} {V : Nat → Value} (h : SlG w B A n c V) (k : Nat) (hk : k ≤ n) : SlG w B A k c V := by
  refine ⟨by have := h.le; omega, fun hn => ?_⟩
  obtain ⟨g, o, rfl, hg, hc⟩ := h.at_ (by omega)
  exact ⟨g, o, rfl, hg, fun i hi => hc i (by omega)⟩

/- what bytes come to as a list -/
def tlO (f : Bf) : Nat → Nat
  | 0 => tkL f
  | j + 1 => tlO f j + tkL (offF f (tlO f j))
def tlX (f : Bf) (j : Nat) : Nat := tkV (offF f (tlO f j))
def tlE (n : Nat) (f : Bf) : Nat → Nat
  | 0 => 0
  | j + 1 => if tlE n f j ≠ 0 then tlE n f j else tkE (n - tlO f j) (offF f (tlO f j))
theorem tlE_stay {n : Nat} {f : Bf} {j : Nat} (h : tlE n f j ≠ 0) : ∀ d, tlE n f (j + d) = tlE n f j
  | 0 => rfl
  | d + 1 => by
    have := tlE_stay h d
    rw [← Nat.add_assoc, tlE, if_pos (by rw [this]; exact h), this]
theorem tlE_step {n : Nat} {f : Bf} {j : Nat} (h : tlE n f j = 0) : tlE n f (j + 1) = tkE (n - tlO f j) (offF f (tlO f j)) := by rw [tlE, if_neg (fun e => e h)]
theorem tlO_le {n : Nat} {f : Bf} (h0 : tkE n f = 0) : ∀ j, tlE n f j = 0 → tlO f j ≤ n
  | 0, _ => tkL_le h0
  | j + 1, h => by
    have hj : tlE n f j = 0 := by
      rcases Nat.eq_zero_or_pos (tlE n f j) with e | e
      · exact e
      · rw [tlE, if_pos (by omega)] at h; exact h
    have := tlO_le h0 j hj
    rw [tlE_step hj] at h
    have := tkL_le h
    simp only [tlO]
    omega
def tllE (n : Nat) (m : Int) (f : Bf) : Nat := if tkE n f ≠ 0 then tkE n f else if m < tkV f then 2 else tlE n f (tkV f)
def tllP (n : Nat) (m : Int) (f : Bf) (w : World) (e : Ending) (w' : World) : Prop :=
  (tllE n m f ≠ 0 ∧ e = .returned (.tuple #[.slice none 0 0, .slice none 0 0, .int .i64 (tllE n m f : Nat)]) ∧ Below w.heap.size w w') ∨
  (tllE n m f = 0 ∧ ∃ A c v, e = .returned (.tuple #[.slice A (tkV f) c, v, .int .i64 0]) ∧ SlG w' w'.heap.size A (tkV f) c (iV fun i => tlX f i) ∧ c ≤ maxLen ∧ Own w' w.heap.size 5 v (n - tlO f (tkV f)) (offF f (tlO f (tkV f))) ∧ Below w.heap.size w w')
/-- the same, with where the numbers lie -/
def tllQ (n : Nat) (m : Int) (f : Bf) (w : World) (e : Ending) (w' : World) : Prop :=
  (tllE n m f ≠ 0 ∧ e = .returned (.tuple #[.slice none 0 0, .slice none 0 0, .int .i64 (tllE n m f : Nat)]) ∧ Below w.heap.size w w') ∨
  (tllE n m f = 0 ∧ ∃ A c v, e = .returned (.tuple #[.slice A (tkV f) c, v, .int .i64 0]) ∧ SlG w' w'.heap.size A (tkV f) c (iV fun i => tlX f i) ∧ c ≤ maxLen ∧ Own w' w.heap.size 5 v (n - tlO f (tkV f)) (offF f (tlO f (tkV f))) ∧ Below w.heap.size w w' ∧ (A = none ∨ ∃ g, A = some ⟨g, 0, none⟩ ∧ w.heap.size ≤ g))
theorem tllQ.less {n : Nat} {m : Int} {f : Bf} {w : World} {e : Ending} {w' : World} (h : tllQ n m f w e w') : tllP n m f w e w' := by
  rcases h with h | ⟨h0, A, c, v, h1, h2, h3, h4, h5, -⟩
  · exact .inl h
  · exact .inr ⟨h0, A, c, v, h1, h2, h3, h4, h5⟩
/-- the first j numbers, as a list of values -/
def tlL (f : Bf) (j : Nat) : List Value := (List.range j).map fun i => .int .i64 (tlX f i : Nat)
theorem tlL_step (f : Bf) (j : Nat) : tlL f j ++ [.int .i64 (tlX f j : Nat)] = tlL f (j + 1) := by unfold tlL; rw [List.range_succ, List.map_append]; rfl
theorem tlL_nth (f : Bf) (j i : Nat) (h : i < j) : nth (tlL f j) i = iV (fun i => tlX f i) i := by unfold nth tlL iV; simp [h]

/-- what TakeList knows on its way -/
structure TlI (n : Nat) (f : Bf) (w : World) (j : Nat) (v : Value) (wr : World) : Prop where
  b : Below w.heap.size w wr
  ok : tlE n f j = 0
  x : ∃ A' c', row wr w.heap.size = some #[.slice A' (n - tlO f j) c'] ∧ Sl wr w.heap.size A' (n - tlO f j) c' (offF f (tlO f j))
  l : wr.ownsRow (w.heap.size + 1) 3 1 v j (tlL f j)

/-- what the reference's TakeList knows on its way -/
structure RlI (n : Nat) (f : Bf) (w : World) (j : Nat) (v r : Value) (wr : World) : Prop where
  b : Below w.heap.size w wr
  ok : tlE n f j = 0
  x : Own wr w.heap.size 5 r (n - tlO f j) (offF f (tlO f j))
  l : wr.ownsRow w.heap.size 3 1 v j (tlL f j)

end Go.Proofs.Ythokiohdeclmhaa.Oct

/-! ## PkD -/
/- Contracts: PutList, and the reference's. -/
namespace Go.Proofs.Ythokiohdeclmhaa.Oct
open Go.ChangeShapes Go.WideShapes Go.ChangeAt Go.RowKit
set_option linter.unusedVariables false

/-- a list's writing: that of its length c, and those of its first j numbers -/
def lsL (x : Nat → Nat) (c : Nat) : Nat → Nat
  | 0 => encL c
  | j + 1 => lsL x c j + encL (x j)
def lsF (x : Nat → Nat) (c : Nat) : Nat → Bf
  | 0 => encF c
  | j + 1 => catF (lsL x c j) (lsF x c j) (encF (x j))
theorem lsL_le (x : Nat → Nat) (c : Nat) : ∀ j, lsL x c j ≤ 9 * (j + 1)
  | 0 => by have := encL_le c; simp only [lsL]; omega
  | j + 1 => by have := encL_le (x j); have := lsL_le x c j; simp only [lsL]; omega
/-- a number among them is negative -/
def negs (x : Nat → Int) (n : Nat) : Prop := ∃ i, i < n ∧ x i < 0
def natS (x : Nat → Int) : Nat → Nat := fun i => (x i).toNat

/- the reference -/
end Go.Proofs.Ythokiohdeclmhaa.Oct

/-! ## PkV -/
/- What pack's contracts end in, taken apart; put behind nothing; strings. -/
namespace Go.Proofs.Ythokiohdeclmhaa.Oct
open Go.ChangeShapes Go.WideShapes Go.ChangeAt Go.RowKit
set_option linter.unusedVariables false

def litF (l : List (BitVec 8)) : Bf := fun i => l.getD i 0#8
theorem str_lit {n : Nat} {f : Bf} {l : List UInt8} (h : ((List.range n).map fun i => UInt8.ofNat (f i).toNat) = l) : strOf n f = ⟨l.toArray⟩ := by unfold strOf; rw [h]
theorem taP.bad {n : Nat} {f : Bf} {w : World} {e : Ending} {w' : World} (h : taP n f w e w') {E : Nat} (hE : tkE n f = E) (h0 : E ≠ 0) : e = .returned (.tuple #[.int .i64 0, .slice none 0 0, .int .i64 E]) ∧ Below w.heap.size w w' := by
  rcases h with ⟨_, h2, h3⟩ | ⟨h1, _⟩
  · rw [hE] at h2; exact ⟨h2, h3⟩
  · rw [hE] at h1; exact absurd h1 h0
theorem taP.ok {n : Nat} {f : Bf} {w : World} {e : Ending} {w' : World} (h : taP n f w e w') (hE : tkE n f = 0) : ∃ v, e = .returned (.tuple #[.int .i64 (tkV f : Nat), v, .int .i64 0]) ∧ Own w' w.heap.size 5 v (n - tkL f) (offF f (tkL f)) ∧ Below w.heap.size w w' := by
  rcases h with ⟨h1, _⟩ | ⟨_, h⟩
  · exact absurd hE h1
  · exact h
theorem ttP.bad {n : Nat} {m : Int} {f : Bf} {w : World} {e : Ending} {w' : World} (h : ttP n m f w e w') {E : Nat} (hE : ttE n m f = E) (h0 : E ≠ 0) : e = .returned (.tuple #[.slice none 0 0, .slice none 0 0, .int .i64 E]) ∧ Below w.heap.size w w' := by
  rcases h with ⟨_, h2, h3⟩ | ⟨h1, _⟩
  · rw [hE] at h2; exact ⟨h2, h3⟩
  · rw [hE] at h1; exact absurd h1 h0
theorem ttP.ok {n : Nat} {m : Int} {f : Bf} {w : World} {e : Ending} {w' : World} (h : ttP n m f w e w') (hE : ttE n m f = 0) : ∃ u v, e = .returned (.tuple #[u, v, .int .i64 0]) ∧ Own w' w.heap.size 5 u (tkV f) (offF f (tkL f)) ∧ Own w' w.heap.size 5 v (n - tkL f - tkV f) (offF f (tkL f + tkV f)) ∧ Below w.heap.size w w' := by
  rcases h with ⟨h1, _⟩ | ⟨_, h⟩
  · exact absurd hE h1
  · exact h
theorem tllP.bad {n : Nat} {m : Int} {f : Bf} {w : World} {e : Ending} {w' : World} (h : tllP n m f w e w') {E : Nat} (hE : tllE n m f = E) (h0 : E ≠ 0) : e = .returned (.tuple #[.slice none 0 0, .slice none 0 0, .int .i64 E]) ∧ Below w.heap.size w w' := by
  rcases h with ⟨_, h2, h3⟩ | ⟨h1, _⟩
  · rw [hE] at h2; exact ⟨h2, h3⟩
  · rw [hE] at h1; exact absurd h1 h0
theorem tllP.ok {n : Nat} {m : Int} {f : Bf} {w : World} {e : Ending} {w' : World} (h : tllP n m f w e w') (hE : tllE n m f = 0) : ∃ A c v, e = .returned (.tuple #[.slice A (tkV f) c, v, .int .i64 0]) ∧ SlG w' w'.heap.size A (tkV f) c (iV fun i => tlX f i) ∧ c ≤ maxLen ∧ Own w' w.heap.size 5 v (n - tlO f (tkV f)) (offF f (tlO f (tkV f))) ∧ Below w.heap.size w w' := by
  rcases h with ⟨h1, _⟩ | ⟨_, h⟩
  · exact absurd hE h1
  · exact h
theorem conv_own {w : World} {b n : Nat} {v : Value} {f : Bf} (h : Own w b 5 v n f) : (convert 29 9 v).run Try.prog w = .ok (.string (strOf n f)) w := by
  obtain ⟨A, c, rfl, hs, _, _⟩ := h.sl
  exact run_str sli_u u8_u str_u hs
theorem wf_bd {x : Int} (h : (Lit.int .i64 x).wf = true) : -9223372036854775808 ≤ x ∧ x < 9223372036854775808 := by
  simp only [Lit.wf, IntKind.min, IntKind.max, IntKind.signed, IntKind.bits, Bool.and_eq_true, decide_eq_true_eq, if_true] at h
  omega
/-- put behind nothing -/
theorem put_nil (n : Nat) (w : World) (hn : n < 9223372036854775808) :
    Calls Try.prog 67 #[.slice none 0 0, .int .i64 n] w fun e w' => ∃ v, e = .returned (.tuple #[v, .int .i64 0]) ∧ Own w' w.heap.size 5 v (encL n) (encF n) ∧ Below w.heap.size w w' := by
  refine (put_any n 0 0 none nF w (Sl.nothing _ _ _ _ _) (by omega) hn).mono ?_
  rintro e w' ⟨v, rfl, ho, hb⟩
  rw [Nat.zero_add, catF_zero] at ho
  exact ⟨v, rfl, ho, hb⟩
theorem putt_nil (T c1 : Nat) (A1 : Option Addr) (t : Bf) (w : World) (ht : Sl w w.heap.size A1 T c1 t) (hT : T ≤ 4096) :
    Calls Try.prog 69 #[.slice none 0 0, .slice A1 T c1] w fun e w' => ∃ v, e = .returned (.tuple #[v, .int .i64 0]) ∧ Own w' w.heap.size 5 v (txL T) (txF T t) ∧ Below w.heap.size w w' := by
  refine (putt_any 0 0 T c1 none A1 nF t w (Sl.nothing _ _ _ _ _) ht (by omega) hT).mono ?_
  rintro e w' ⟨v, rfl, ho, hb⟩
  rw [Nat.zero_add, catF_zero] at ho
  exact ⟨v, rfl, ho, hb⟩
end Go.Proofs.Ythokiohdeclmhaa.Oct

/-! ## PkL -/
/- What the statements of layer 8 share: strings put together. -/
namespace Go.Proofs.Ythokiohdeclmhaa.Oct
open Go.ChangeShapes Go.WideShapes Go.ChangeAt Go.RowKit
set_option linter.unusedVariables false

theorem str_cat (n m : Nat) (p q : Bf) : strOf n p ++ strOf m q = strOf (n + m) (catF n p q) := by
  unfold strOf
  have h : ((List.range n).map fun i => UInt8.ofNat (p i).toNat) ++ ((List.range m).map fun i => UInt8.ofNat (q i).toNat) = (List.range (n + m)).map fun i => UInt8.ofNat (catF n p q i).toNat := by
    rw [List.range_add, List.map_append, List.map_map]
    congr 1
    · apply List.map_congr_left
      intro i hi
      have := List.mem_range.1 hi
      simp [catF, this]
    · apply List.map_congr_left
      intro i _
      simp only [Function.comp, catF]
      rw [if_neg (by omega), Nat.add_sub_cancel_left]
  rw [← h]
  apply ByteArray.ext
  simp
/-- a row that is one behind another, as strings put together -/
theorem conv_two {w : World} {b n m : Nat} {v : Value} {f g : Bf} (h : Own w b 5 v (n + m) (catF n f g)) : (convert 29 9 v).run Try.prog w = .ok (.string (strOf n f ++ strOf m g)) w := by
  rw [str_cat]; exact conv_own h
theorem conv_sl {w : World} {B n c : Nat} {A : Option Addr} {f : Bf} (h : Sl w B A n c f) : (convert 29 9 (.slice A n c)).run Try.prog w = .ok (.string (strOf n f)) w := run_str sli_u u8_u str_u h
theorem conv_nil (w : World) : (convert 29 9 (.slice none 0 0)).run Try.prog w = .ok (.string (strOf 0 nF)) w := run_str sli_u u8_u str_u (Sl.nothing w 0 none 0 nF)
theorem tll_le {n : Nat} {m : Int} {f : Bf} (h : tllE n m f = 0) (hm : m ≤ 2000) : tkV f ≤ 2000 := by
  unfold tllE at h
  split at h
  · omega
  split at h
  · omega
  · omega
end Go.Proofs.Ythokiohdeclmhaa.Oct

/-! ## PkN -/
/- What is put is taken, and what is taken is put again: texts and lists; as strings. -/
namespace Go.Proofs.Ythokiohdeclmhaa.Oct
open Go.ChangeShapes Go.WideShapes Go.ChangeAt Go.RowKit
set_option linter.unusedVariables false

/-- a beginning, and what is behind it -/
theorem str_split {n L : Nat} {f g : Bf} (hL : L ≤ n) (h : ∀ i, i < L → g i = f i) : strOf L g ++ strOf (n - L) (offF f L) = strOf n f := by
  rw [str_cat, show L + (n - L) = n by omega]
  exact str_congr fun i hi => by
    unfold catF
    by_cases h2 : i < L
    · rw [if_pos h2, h i h2]
    · rw [if_neg h2]; unfold offF; rw [show L + (i - L) = i by omega]
theorem str_behind {n m : Nat} (f g : Bf) : strOf m (offF (catF n f g) n) = strOf m g := str_congr fun i hi => by
  unfold offF catF
  rw [if_neg (by omega), show n + i - n = i by omega]
theorem str_ahead {n : Nat} (f g : Bf) : strOf n (catF n f g) = strOf n f := str_congr fun i hi => by unfold catF; rw [if_pos hi]

/- numbers -/
theorem once_num {n : Nat} {f : Bf} (h : tkE n f = 0) : strOf (encL (tkV f)) (encF (tkV f)) ++ strOf (n - tkL f) (offF f (tkL f)) = strOf n f := by
  obtain ⟨h1, h2⟩ := enc_tk h
  rw [h1]
  exact str_split (tkL_le h) h2
/- texts -/
theorem tt_le {n : Nat} {m : Int} {f : Bf} (h : ttE n m f = 0) : tkE n f = 0 ∧ (tkV f : Int) ≤ m ∧ tkL f + tkV f ≤ n := by
  unfold ttE at h
  split at h
  · omega
  rename_i h0
  have h0 : tkE n f = 0 := by omega
  split at h
  · omega
  split at h
  · omega
  have := tkL_le h0
  exact ⟨h0, by omega, by omega⟩
theorem once_text {n : Nat} {m : Int} {f : Bf} (h : ttE n m f = 0) : strOf (txL (tkV f)) (txF (tkV f) (offF f (tkL f))) ++ strOf (n - tkL f - tkV f) (offF f (tkL f + tkV f)) = strOf n f := by
  obtain ⟨h0, _, h2⟩ := tt_le h
  obtain ⟨e1, e2⟩ := enc_tk h0
  have e3 : txL (tkV f) = tkL f + tkV f := by unfold txL; rw [e1]
  rw [e3, show n - tkL f - tkV f = n - (tkL f + tkV f) by omega]
  refine str_split h2 fun i hi => ?_
  unfold txF catF
  rw [e1]
  by_cases h : i < tkL f
  · rw [if_pos h, e2 i h]
  · rw [if_neg h]; unfold offF; rw [show tkL f + (i - tkL f) = i by omega]
/-- a text that was put, whatever is behind -/
theorem back_text (T : Nat) (t g : Bf) (r : Nat) (hT : T ≤ 4096) : ttE (txL T + r) T (catF (txL T) (txF T t) g) = 0 ∧ tkV (catF (txL T) (txF T t) g) = T ∧ tkL (catF (txL T) (txF T t) g) = encL T := by
  obtain ⟨h1, h2, h3⟩ := tk_enc T (by omega) (txL T + r) (catF (txL T) (txF T t) g) (by unfold txL; omega) (fun i hi => by
    unfold catF txF catF
    rw [if_pos (by unfold txL; omega), if_pos hi])
  refine ⟨?_, h2, h3⟩
  unfold ttE
  rw [if_neg (fun h => h h1), h2, h3, if_neg (by omega), if_neg (by unfold txL; omega)]
theorem back_text_s (T : Nat) (t g : Bf) : strOf T (offF (catF (txL T) (txF T t) g) (encL T)) = strOf T t := str_congr fun i hi => by
  unfold offF catF txF catF
  rw [if_pos (by unfold txL; omega), if_neg (by omega), show encL T + i - encL T = i by omega]
/- lists -/
theorem ls_mono (x : Nat → Nat) (c j : Nat) : ∀ d, lsL x c j ≤ lsL x c (j + d)
  | 0 => Nat.le_refl _
  | d + 1 => by have := ls_mono x c j d; rw [← Nat.add_assoc, lsL]; omega
theorem ls_ahead (x : Nat → Nat) (c j i : Nat) (hi : i < lsL x c j) : ∀ d, lsF x c (j + d) i = lsF x c j i
  | 0 => rfl
  | d + 1 => by
    have h1 := ls_mono x c j d
    rw [← Nat.add_assoc, lsF]
    unfold catF
    rw [if_pos (by omega)]
    exact ls_ahead x c j i hi d
theorem ls_block (x : Nat → Nat) (c j k i : Nat) (hj : j < k) (hi : i < encL (x j)) : lsF x c k (lsL x c j + i) = encF (x j) i := by
  have h := ls_ahead x c (j + 1) (lsL x c j + i) (by rw [lsL]; omega) (k - (j + 1))
  rw [show j + 1 + (k - (j + 1)) = k by omega] at h
  rw [h, lsF]
  unfold catF
  rw [if_neg (by omega), show lsL x c j + i - lsL x c j = i by omega]
theorem ls_head (x : Nat → Nat) (c k i : Nat) (hi : i < encL c) : lsF x c k i = encF c i := by
  have h := ls_ahead x c 0 i hi k
  rw [Nat.zero_add] at h
  rw [h]; rfl
/-- a list that was put, whatever is behind -/
theorem back_list {x : Nat → Nat} {c n : Nat} {f : Bf} (hn : lsL x c c ≤ n) (hc : c < 9223372036854775808) (hx : ∀ i, i < c → x i < 9223372036854775808) (hf : ∀ i, i < lsL x c c → f i = lsF x c c i) :
    tkE n f = 0 ∧ tkV f = c ∧ ∀ j, j ≤ c → tlE n f j = 0 ∧ tlO f j = lsL x c j ∧ ∀ i, i < j → tlX f i = x i := by
  have h0 : encL c ≤ lsL x c c := by have := ls_mono x c 0 c; rw [Nat.zero_add] at this; exact this
  obtain ⟨k1, k2, k3⟩ := tk_enc c hc n f (by omega) (fun i hi => by rw [hf i (by omega)]; exact ls_head x c c i hi)
  refine ⟨k1, k2, fun j => ?_⟩
  induction j with
  | zero => exact fun _ => ⟨rfl, k3, fun i hi => by omega⟩
  | succ j ih =>
    intro hj
    obtain ⟨i1, i2, i3⟩ := ih (by omega)
    have hm := ls_mono x c (j + 1) (c - (j + 1))
    rw [show j + 1 + (c - (j + 1)) = c by omega, lsL] at hm
    obtain ⟨q1, q2, q3⟩ := tk_enc (x j) (hx j (by omega)) (n - lsL x c j) (offF f (lsL x c j)) (by omega) (fun i hi => by
      unfold offF
      rw [hf _ (by omega)]
      exact ls_block x c j c i (by omega) hi)
    rw [← i2] at q1 q2 q3
    refine ⟨by rw [tlE_step i1]; exact q1, by rw [tlO, q3, i2, lsL], fun i hi => ?_⟩
    by_cases h : i = j
    · subst h; exact q2
    · exact i3 i (by omega)
theorem back_list_E {x : Nat → Nat} {c n : Nat} {f : Bf} (hn : lsL x c c ≤ n) (hc : c < 9223372036854775808) (hx : ∀ i, i < c → x i < 9223372036854775808) (hf : ∀ i, i < lsL x c c → f i = lsF x c c i) : tllE n c f = 0 := by
  obtain ⟨k1, k2, k3⟩ := back_list hn hc hx hf
  unfold tllE
  rw [if_neg (fun h => h k1), k2, if_neg (by omega)]
  exact (k3 c (Nat.le_refl _)).1
/-- what was taken as a list, put again -/
theorem once_ls {n : Nat} {f : Bf} (h0 : tkE n f = 0) : ∀ j, tlE n f j = 0 → lsL (tlX f) (tkV f) j = tlO f j ∧ ∀ i, i < tlO f j → lsF (tlX f) (tkV f) j i = f i
  | 0, _ => enc_tk h0
  | j + 1, h => by
    have hj : tlE n f j = 0 := by
      rcases Nat.eq_zero_or_pos (tlE n f j) with e | e
      · exact e
      · rw [tlE, if_pos (by omega)] at h; exact h
    obtain ⟨i1, i2⟩ := once_ls h0 j hj
    rw [tlE_step hj] at h
    obtain ⟨e1, e2⟩ := enc_tk h
    have e1' : encL (tlX f j) = tkL (offF f (tlO f j)) := e1
    refine ⟨by rw [lsL, tlO, i1, e1'], fun i hi => ?_⟩
    rw [lsF]
    unfold catF
    rw [i1]
    by_cases h2 : i < tlO f j
    · rw [if_pos h2, i2 i h2]
    · rw [if_neg h2]
      rw [tlO] at hi
      have := e2 (i - tlO f j) (by omega)
      rw [show encF (tlX f j) (i - tlO f j) = offF f (tlO f j) (i - tlO f j) from this]
      unfold offF
      rw [show tlO f j + (i - tlO f j) = i by omega]
theorem tll_ok {n : Nat} {m : Int} {f : Bf} (h : tllE n m f = 0) : tkE n f = 0 ∧ (tkV f : Int) ≤ m ∧ tlE n f (tkV f) = 0 := by
  unfold tllE at h
  split at h
  · omega
  rename_i h0
  split at h
  · omega
  · exact ⟨by omega, by omega, h⟩
theorem once_list {n : Nat} {m : Int} {f : Bf} (h : tllE n m f = 0) : strOf (lsL (natS fun i => (tlX f i : Int)) (tkV f) (tkV f)) (lsF (natS fun i => (tlX f i : Int)) (tkV f) (tkV f)) ++ strOf (n - tlO f (tkV f)) (offF f (tlO f (tkV f))) = strOf n f := by
  obtain ⟨h0, _, h2⟩ := tll_ok h
  obtain ⟨e1, e2⟩ := once_ls h0 (tkV f) h2
  have e : (natS fun i => (tlX f i : Int)) = tlX f := by funext i; unfold natS; exact Int.toNat_natCast _
  rw [e, e1]
  exact str_split (tlO_le h0 _ h2) e2
/-- each number that is taken is an int -/
theorem tlX_lt {n : Nat} {f : Bf} : ∀ j, tlE n f j = 0 → ∀ i, i < j → tlX f i < 9223372036854775808
  | 0, _, i, hi => by omega
  | j + 1, h, i, hi => by
    have hj : tlE n f j = 0 := by
      rcases Nat.eq_zero_or_pos (tlE n f j) with e | e
      · exact e
      · rw [tlE, if_pos (by omega)] at h; exact h
    by_cases h2 : i = j
    · subst h2
      rw [tlE_step hj] at h
      exact (tk_ok h).2.2.2.2
    · exact tlX_lt j hj i (by omega)
/- whatever is answered -/
theorem taP.any {n : Nat} {f : Bf} {w : World} {e : Ending} {w' : World} (h : taP n f w e w') : ∃ (p : Int) (v : Value) (E : Int), e = .returned (.tuple #[.int .i64 p, v, .int .i64 E]) ∧ Below w.heap.size w w' := by
  rcases h with ⟨_, h2, h3⟩ | ⟨_, v, h2, _, h3⟩
  · exact ⟨_, _, _, h2, h3⟩
  · exact ⟨_, _, _, h2, h3⟩
theorem ttP.any {n : Nat} {m : Int} {f : Bf} {w : World} {e : Ending} {w' : World} (h : ttP n m f w e w') : ∃ (u v : Value) (E : Int), e = .returned (.tuple #[u, v, .int .i64 E]) ∧ Below w.heap.size w w' := by
  rcases h with ⟨_, h2, h3⟩ | ⟨_, u, v, h2, _, _, h3⟩
  · exact ⟨_, _, _, h2, h3⟩
  · exact ⟨_, _, _, h2, h3⟩
end Go.Proofs.Ythokiohdeclmhaa.Oct
