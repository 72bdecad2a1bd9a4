/- Digits of 65536: a number as its digits, one digit laid, a product digit by digit, numbers compared digit by digit. No program is named here. -/
import Derived.Test.YtjebkokkgkkogaaDoorVa
namespace Go.Proofs.YtjebkokkgkkogaaDoor.Oct
open Go.RowKit

def dv : Nat → Nf → Nat
  | 0, _ => 0
  | n + 1, f => dv n f + f n * 65536 ^ n
def dg (x : Nat) : Nf := fun i => x / 65536 ^ i % 65536
theorem dg_lt (x i : Nat) : dg x i < 65536 := Nat.mod_lt _ (by omega)
theorem dv_congr {f g : Nf} : ∀ n, (∀ i, i < n → f i = g i) → dv n f = dv n g := by
  intro n
  induction n with
  | zero => intro _; rfl
  | succ n ih => intro h; simp only [dv]; rw [ih fun i hi => h i (by omega), h n (by omega)]
theorem dv_zero : ∀ n, dv n (fun _ => 0) = 0 := by
  intro n
  induction n with
  | zero => rfl
  | succ n ih => simp only [dv]; rw [ih]; omega
theorem dv_lt {f : Nf} : ∀ n, (∀ i, i < n → f i < 65536) → dv n f < 65536 ^ n := by
  intro n
  induction n with
  | zero => intro _; simp [dv]
  | succ n ih =>
    intro h
    simp only [dv]
    have h1 := ih fun i hi => h i (by omega)
    have h2 := Nat.mul_le_mul_right (65536 ^ n) (show f n ≤ 65535 by have := h n (by omega); omega)
    rw [Nat.pow_succ]
    generalize 65536 ^ n = p at h1 h2 ⊢
    generalize f n * p = q at h2 ⊢
    omega
theorem dv_dg (x : Nat) : ∀ n, dv n (dg x) = x % 65536 ^ n := by
  intro n
  induction n with
  | zero => simp [dv, Nat.mod_one]
  | succ n ih =>
    simp only [dv]
    rw [ih, Nat.mod_pow_succ]
    unfold dg
    rw [Nat.mul_comm]
theorem dg_dv {f : Nf} : ∀ n, (∀ i, i < n → f i < 65536) → ∀ i, i < n → dg (dv n f) i = f i := by
  intro n
  induction n with
  | zero => intro _ i hi; omega
  | succ n ih =>
    intro h i hi
    simp only [dv]
    by_cases hin : i < n
    · rw [← ih (fun j hj => h j (by omega)) i hin]
      unfold dg
      rw [show 65536 ^ n = 65536 ^ i * (65536 * 65536 ^ (n - i - 1)) by rw [← Nat.pow_succ', ← Nat.pow_add]; congr 1; omega]
      rw [show f n * (65536 ^ i * (65536 * 65536 ^ (n - i - 1))) = 65536 ^ i * (65536 * (f n * 65536 ^ (n - i - 1))) by
        rw [Nat.mul_left_comm, Nat.mul_left_comm (f n) 65536]]
      rw [Nat.add_mul_div_left _ _ (Nat.pow_pos (by omega)), Nat.add_mul_mod_self_left]
    · obtain rfl : i = n := by omega
      unfold dg
      rw [Nat.add_mul_div_right _ _ (Nat.pow_pos (by omega)), Nat.div_eq_of_lt (dv_lt i fun j hj => h j (by omega)), Nat.zero_add, Nat.mod_eq_of_lt (h i (by omega))]
theorem dv_upd (f : Nf) (m v : Nat) : ∀ n, m < n → dv n (updA f m v) + f m * 65536 ^ m = dv n f + v * 65536 ^ m := by
  intro n
  induction n with
  | zero => intro h; omega
  | succ n ih =>
    intro h
    simp only [dv]
    by_cases hmn : m < n
    · have h1 := ih hmn
      have h2 : updA f m v n = f n := by unfold updA; rw [if_neg (by omega)]
      rw [h2]
      omega
    · obtain rfl : m = n := by omega
      have h1 : dv m (updA f m v) = dv m f := dv_congr m fun i hi => by unfold updA; rw [if_neg (by omega)]
      have h2 : updA f m v m = v := by unfold updA; rw [if_pos rfl]
      rw [h1, h2]
      omega
theorem dv_more (f : Nf) (n : Nat) : ∀ m, n ≤ m → (∀ i, n ≤ i → i < m → f i = 0) → dv m f = dv n f := by
  intro m
  induction m with
  | zero => intro h _; obtain rfl : n = 0 := (by omega); rfl
  | succ m ih =>
    intro h h0
    by_cases hm : n ≤ m
    · simp only [dv]; rw [ih hm fun i h1 h2 => h0 i h1 (by omega), h0 m hm (by omega)]; omega
    · obtain rfl : n = m + 1 := by omega
      rfl
/-- one digit of the product goes in -/
theorem dv_step (O a b : Nf) (i k r X : Nat) (hm : i + k < 12) (h : dv 12 O + r * 65536 ^ (i + k) = X + a i * 65536 ^ i * dv k b) :
    dv 12 (updA O (i + k) ((r + O (i + k) + a i * b k) % 65536)) + (r + O (i + k) + a i * b k) / 65536 * 65536 ^ (i + (k + 1)) = X + a i * 65536 ^ i * dv (k + 1) b := by
  have h1 := dv_upd O (i + k) ((r + O (i + k) + a i * b k) % 65536) 12 hm
  have h2 := Nat.div_add_mod (r + O (i + k) + a i * b k) 65536
  generalize hs : r + O (i + k) + a i * b k = s at h1 h2 ⊢
  have h3 : s * 65536 ^ (i + k) = r * 65536 ^ (i + k) + O (i + k) * 65536 ^ (i + k) + a i * b k * 65536 ^ (i + k) := by rw [← hs, Nat.add_mul, Nat.add_mul]
  have h4 : s * 65536 ^ (i + k) = s / 65536 * 65536 ^ (i + (k + 1)) + s % 65536 * 65536 ^ (i + k) := by
    conv => lhs; rw [← h2]
    rw [Nat.add_mul, show i + (k + 1) = i + k + 1 from rfl, Nat.pow_succ, Nat.mul_comm 65536 (s / 65536), Nat.mul_assoc, Nat.mul_comm 65536]
  have h5 : a i * 65536 ^ i * dv (k + 1) b = a i * 65536 ^ i * dv k b + a i * b k * 65536 ^ (i + k) := by
    simp only [dv]
    rw [Nat.mul_add, Nat.pow_add, Nat.mul_mul_mul_comm]
  rw [h5]
  omega
theorem rest_lt (r o x y : Nat) (hr : r < 65536) (ho : o < 65536) (hx : x < 65536) (hy : y < 65536) : r + o + x * y < 4294967296 := by
  have := Nat.mul_le_mul (show x ≤ 65535 by omega) (show y ≤ 65535 by omega)
  omega
/-- numbers compared from the highest digit down -/
theorem dg_cmp (X Y i : Nat) (h : X / 65536 ^ (i + 1) = Y / 65536 ^ (i + 1)) :
    (dg X i = dg Y i → X / 65536 ^ i = Y / 65536 ^ i) ∧ (dg X i ≠ dg Y i → decide (dg Y i < dg X i) = decide (Y < X)) := by
  rw [Nat.pow_succ, ← Nat.div_div_eq_div_mul, ← Nat.div_div_eq_div_mul] at h
  unfold dg
  have hx := Nat.div_add_mod (X / 65536 ^ i) 65536
  have hy := Nat.div_add_mod (Y / 65536 ^ i) 65536
  refine ⟨fun e => by omega, fun e => ?_⟩
  rw [decide_eq_decide]
  constructor
  · intro hlt
    by_cases hXY : Y < X
    · exact hXY
    · have := Nat.div_le_div_right (c := 65536 ^ i) (show X ≤ Y by omega)
      omega
  · intro hlt
    have := Nat.div_le_div_right (c := 65536 ^ i) (show Y ≤ X by omega)
    omega

/-! the roots -/
def pw (th : Bool) (x : Nat) : Nat := if th then x * x * x else x * x
def plc (th : Bool) : Nat := if th then 6 else 4
def ovr (x n : Nat) (th : Bool) : Bool := decide (n * 65536 ^ plc th < pw th x)
/-- the root of n times 2^32: k bits are still to come -/
def rtg (n : Nat) (th : Bool) : Nat → Nat → Nat
  | 0, r => r
  | k + 1, r => if ovr (r + 2 ^ k) n th then rtg n th k r else rtg n th k (r + 2 ^ k)
/-- the primes below j + 2 -/
def prl : Nat → List Nat
  | 0 => []
  | j + 1 => if (prl j).all (fun p => (j + 2) % p != 0) then prl j ++ [j + 2] else prl j
end Go.Proofs.YtjebkokkgkkogaaDoor.Oct
