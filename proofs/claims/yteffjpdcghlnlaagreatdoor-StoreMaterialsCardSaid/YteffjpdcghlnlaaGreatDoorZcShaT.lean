import Derived.Test.YteffjpdcghlnlaaGreatDoorZcLib
import Derived.Test.YteffjpdcghlnlaaGreatDoorZcShaR
import Derived.StillTailTactics
set_option linter.unusedVariables false
set_option linter.unusedSimpArgs false
set_option maxHeartbeats 4000000
set_option maxRecDepth 20000
namespace Go.Proofs.YteffjpdcghlnlaaGreatDoor.Oct
open Go.RowKit
def dv : Nat → Nf → Nat
 | 0, _ => 0
 | n + 1, f => dv n f + f n * 65536 ^ n
def dg (x : Nat) : Nf := fun i => x / 65536 ^ i % 65536
theorem dg_lt (x i : Nat) : dg x i < 65536 := Nat.mod_lt _ (by omega)
theorem dv_congr {f g : Nf} : ∀ n, (∀ i, i < n → f i = g i) → dv n f = dv n g := by
 intro n
 induction n with
 | zero => intro _; rfl
 | succ n ih => intro h; simp only [dv]; rw [ih fun i hi => h i (by omega), h n (by omega)]
theorem dv_zero : ∀ n, dv n (fun _ => 0) = 0 := by
 intro n
 induction n with
 | zero => rfl
 | succ n ih => simp only [dv]; rw [ih]; omega
theorem dv_lt {f : Nf} : ∀ n, (∀ i, i < n → f i < 65536) → dv n f < 65536 ^ n := by
 intro n
 induction n with
 | zero => intro _; simp [dv]
 | succ n ih =>
  intro h
  simp only [dv]
  have h1 := ih fun i hi => h i (by omega)
  have h2 := Nat.mul_le_mul_right (65536 ^ n) (show f n ≤ 65535 by have := h n (by omega); omega)
  rw [Nat.pow_succ]
  generalize 65536 ^ n = p at h1 h2 ⊢
  generalize f n * p = q at h2 ⊢
  omega
theorem dv_dg (x : Nat) : ∀ n, dv n (dg x) = x % 65536 ^ n := by
 intro n
 induction n with
 | zero => simp [dv, Nat.mod_one]
 | succ n ih =>
  simp only [dv]
  rw [ih, Nat.mod_pow_succ]
  unfold dg
  rw [Nat.mul_comm]
theorem dg_dv {f : Nf} : ∀ n, (∀ i, i < n → f i < 65536) → ∀ i, i < n → dg (dv n f) i = f i := by
 intro n
 induction n with
 | zero => intro _ i hi; omega
 | succ n ih =>
  intro h i hi
  simp only [dv]
  by_cases hin : i < n
  ·rw [← ih (fun j hj => h j (by omega)) i hin]
   unfold dg
   rw [show 65536 ^ n = 65536 ^ i * (65536 * 65536 ^ (n - i - 1)) by rw [← Nat.pow_succ', ← Nat.pow_add]; congr 1; omega]
   rw [show f n * (65536 ^ i * (65536 * 65536 ^ (n - i - 1))) = 65536 ^ i * (65536 * (f n * 65536 ^ (n - i - 1))) by
    rw [Nat.mul_left_comm, Nat.mul_left_comm (f n) 65536]]
   rw [Nat.add_mul_div_left _ _ (Nat.pow_pos (by omega)), Nat.add_mul_mod_self_left]
  ·obtain rfl : i = n := by omega
   unfold dg
   rw [Nat.add_mul_div_right _ _ (Nat.pow_pos (by omega)), Nat.div_eq_of_lt (dv_lt i fun j hj => h j (by omega)), Nat.zero_add, Nat.mod_eq_of_lt (h i (by omega))]
theorem dv_upd (f : Nf) (m v : Nat) : ∀ n, m < n → dv n (updA f m v) + f m * 65536 ^ m = dv n f + v * 65536 ^ m := by
 intro n
 induction n with
 | zero => intro h; omega
 | succ n ih =>
  intro h
  simp only [dv]
  by_cases hmn : m < n
  ·have h1 := ih hmn
   have h2 : updA f m v n = f n := by unfold updA; rw [if_neg (by omega)]
   rw [h2]
   omega
  ·obtain rfl : m = n := by omega
   have h1 : dv m (updA f m v) = dv m f := dv_congr m fun i hi => by unfold updA; rw [if_neg (by omega)]
   have h2 : updA f m v m = v := by unfold updA; rw [if_pos rfl]
   rw [h1, h2]
   omega
theorem dv_step (O a b : Nf) (i k r X : Nat) (hm : i + k < 12) (h : dv 12 O + r * 65536 ^ (i + k) = X + a i * 65536 ^ i * dv k b) :
  dv 12 (updA O (i + k) ((r + O (i + k) + a i * b k) % 65536)) + (r + O (i + k) + a i * b k) / 65536 * 65536 ^ (i + (k + 1)) = X + a i * 65536 ^ i * dv (k + 1) b := by
 have h1 := dv_upd O (i + k) ((r + O (i + k) + a i * b k) % 65536) 12 hm
 have h2 := Nat.div_add_mod (r + O (i + k) + a i * b k) 65536
 generalize hs : r + O (i + k) + a i * b k = s at h1 h2 ⊢
 have h3 : s * 65536 ^ (i + k) = r * 65536 ^ (i + k) + O (i + k) * 65536 ^ (i + k) + a i * b k * 65536 ^ (i + k) := by rw [← hs, Nat.add_mul, Nat.add_mul]
 have h4 : s * 65536 ^ (i + k) = s / 65536 * 65536 ^ (i + (k + 1)) + s % 65536 * 65536 ^ (i + k) := by
  conv => lhs; rw [← h2]
  rw [Nat.add_mul, show i + (k + 1) = i + k + 1 from rfl, Nat.pow_succ, Nat.mul_comm 65536 (s / 65536), Nat.mul_assoc, Nat.mul_comm 65536]
 have h5 : a i * 65536 ^ i * dv (k + 1) b = a i * 65536 ^ i * dv k b + a i * b k * 65536 ^ (i + k) := by
  simp only [dv]
  rw [Nat.mul_add, Nat.pow_add, Nat.mul_mul_mul_comm]
 rw [h5]
 omega
theorem rest_lt (r o x y : Nat) (hr : r < 65536) (ho : o < 65536) (hx : x < 65536) (hy : y < 65536) : r + o + x * y < 4294967296 := by
 have := Nat.mul_le_mul (show x ≤ 65535 by omega) (show y ≤ 65535 by omega)
 omega
theorem dg_cmp (X Y i : Nat) (h : X / 65536 ^ (i + 1) = Y / 65536 ^ (i + 1)) :
  (dg X i = dg Y i → X / 65536 ^ i = Y / 65536 ^ i) ∧ (dg X i ≠ dg Y i → decide (dg Y i < dg X i) = decide (Y < X)) := by
 rw [Nat.pow_succ, ← Nat.div_div_eq_div_mul, ← Nat.div_div_eq_div_mul] at h
 unfold dg
 have hx := Nat.div_add_mod (X / 65536 ^ i) 65536
 have hy := Nat.div_add_mod (Y / 65536 ^ i) 65536
 refine ⟨fun e => by omega, fun e => ?_⟩
 rw [decide_eq_decide]
 constructor
 ·intro hlt
  by_cases hXY : Y < X
  ·exact hXY
  ·have := Nat.div_le_div_right (c := 65536 ^ i) (show X ≤ Y by omega)
   omega
 ·intro hlt
  have := Nat.div_le_div_right (c := 65536 ^ i) (show Y ≤ X by omega)
  omega
def pw (th : Bool) (x : Nat) : Nat := if th then x * x * x else x * x
def plc (th : Bool) : Nat := if th then 6 else 4
def ovr (x n : Nat) (th : Bool) : Bool := decide (n * 65536 ^ plc th < pw th x)
def rtg (n : Nat) (th : Bool) : Nat → Nat → Nat
 | 0, r => r
 | k + 1, r => if ovr (r + 2 ^ k) n th then rtg n th k r else rtg n th k (r + 2 ^ k)
def prl : Nat → List Nat
 | 0 => []
 | j + 1 => if (prl j).all (fun p => (j + 2) % p != 0) then prl j ++ [j + 2] else prl j
open Go.ChangeShapes Go.WideShapes Go.ChangeAt
structure TmInv (a b : Nf) (i k r : Nat) (O : Nf) : Prop where
 lt : ∀ j, j < 12 → O j < 65536
 rl : r < 65536
 zero : ∀ j, i + 4 ≤ j → j < 12 → O j = 0
 sum : dv 12 O + r * 65536 ^ (i + k) = dv i a * dv 4 b + a i * 65536 ^ i * dv k b
theorem TmInv.step {a b : Nf} {i k r : Nat} {O : Nf} (h : TmInv a b i k r O) (ha : ∀ j, j < 8 → a j < 65536) (hb : ∀ j, j < 4 → b j < 65536) (hi : i < 8) (hk : k < 4) :
  TmInv a b i (k + 1) ((r + O (i + k) + a i * b k) / 65536) (updA O (i + k) ((r + O (i + k) + a i * b k) % 65536)) := by
 have hl := rest_lt r (O (i + k)) (a i) (b k) h.rl (h.lt _ (by omega)) (ha i hi) (hb k hk)
 refine ⟨fun j hj => ?_, by omega, fun j h1 h2 => ?_, dv_step O a b i k r _ (by omega) h.sum⟩
 ·unfold updA; split
  ·exact Nat.mod_lt _ (by omega)
  ·exact h.lt j hj
 ·unfold updA; rw [if_neg (by omega)]; exact h.zero j h1 h2
theorem TmInv.next {a b : Nf} {i r : Nat} {O : Nf} (h : TmInv a b i 4 r O) (hi : i < 8) : TmInv a b (i + 1) 0 0 (updA O (i + 4) r) := by
 refine ⟨fun j hj => ?_, by omega, fun j h1 h2 => ?_, ?_⟩
 ·unfold updA; split
  ·exact h.rl
  ·exact h.lt j hj
 ·unfold updA; rw [if_neg (by omega)]; exact h.zero j (by omega) h2
 ·have h1 := dv_upd O (i + 4) r 12 (by omega)
  rw [h.zero (i + 4) (by omega) (by omega)] at h1
  have h2 := h.sum
  rw [show dv (i + 1) a = dv i a + a i * 65536 ^ i from rfl, show dv 0 b = 0 from rfl, Nat.add_mul, Nat.mul_zero, Nat.zero_mul]
  generalize dv 12 O = v at h1 h2 ⊢
  generalize dv 12 (updA O (i + 4) r) = v' at h1 ⊢
  omega
theorem times_any (a b : Nf) (ha : ∀ j, j < 8 → a j < 65536) (hb : ∀ j, j < 4 → b j < 65536) (w : World) :
  Calls Tryz.prog 242 #[.agg (qa 8 a), .agg (qa 4 b)] w fun e w' => e = .returned (.agg (qa 12 (dg (dv 8 a * dv 4 b)))) ∧ Below w.heap.size w w' := by
 have HA := Lib.hid ha
 have HB := Lib.hid hb
 clear ha hb
 go_enter Tryz.func242, Tryz.ntmps242
 go_wp2_with fail
 go_loopw [6, 7, 8] (fun iv _ _ wr => ∃ i m : Nat, ∃ O : Nf, i ≤ 8 ∧ iv = .int .i64 i ∧ TmInv a b i 0 0 O ∧ wr = ((((w.alloc (.cells (qa 8 a) 308)).alloc (.cells (qa 4 b) 305)).alloc (.cells (qa 12 fun _ => 0) 306)).alloc (.cells (qa 12 O) 306)).drewN m) (fun iv _ _ _ => 8 - (intOf iv).toNat)
 case atStart => exact ⟨0, 0, fun _ => 0, by omega, rfl, ⟨fun _ _ => by omega, by omega, fun _ _ _ => rfl, by rw [dv_zero]; simp [dv]⟩, rfl⟩
 case round =>
  obtain ⟨i, m, O, hi, rfl, hI, rfl⟩ := hrel
  have HI := Lib.hid hI
  clear hI
  by_cases hlt : i < 8
  ·have hd : decide ((i : Int) < 8) = true := by simp; omega
   go_wp2_with fail
   go_loopw [7, 8] (fun rv kv wr => ∃ k r m : Nat, ∃ O : Nf, k ≤ 4 ∧ kv = .int .i64 k ∧ rv = .int .u64 r ∧ TmInv a b i k r O ∧ wr = ((((w.alloc (.cells (qa 8 a) 308)).alloc (.cells (qa 4 b) 305)).alloc (.cells (qa 12 fun _ => 0) 306)).alloc (.cells (qa 12 O) 306)).drewN m) (fun _ kv _ => 4 - (intOf kv).toNat)
   case atStart => exact ⟨0, 0, m, O, by omega, rfl, rfl, HI.out, rfl⟩
   case round =>
    clear HI
    obtain ⟨k, r, m, O, hk, rfl, rfl, hI, rfl⟩ := hrel
    have HI := Lib.hid hI
    by_cases hlk : k < 4
    ·have hdk : decide ((k : Int) < 4) = true := by simp; omega
     have hb12 : i + k < 12 := by omega
     have hl := rest_lt r (O (i + k)) (a i) (b k) hI.rl (hI.lt _ (by omega)) (HA.out i hlt) (HB.out k hlk)
     have hr := hI.rl
     have ho := hI.lt (i + k) hb12
     have HN := Lib.hid (hI.step HA.out HB.out hlt hlk)
     obtain ⟨P, hP⟩ : ∃ P, P = a i * b k := ⟨_, rfl⟩
     have hP2 : ((a i : Nat) : Int) * ((b k : Nat) : Int) = (P : Int) := by rw [hP, Int.natCast_mul]
     obtain ⟨s, hs⟩ : ∃ s, s = r + O (i + k) + P := ⟨_, rfl⟩
     obtain ⟨x, hx⟩ : ∃ x, x = s % 65536 := ⟨_, rfl⟩
     obtain ⟨y, hy⟩ : ∃ y, y = s / 65536 := ⟨_, rfl⟩
     rw [← hP, ← hs, ← hx, ← hy] at HN
     rw [← hP, ← hs] at hl
     have hs2 : (r : Int) + ((O (i + k) : Nat) : Int) + (P : Int) = (s : Int) := by omega
     have hx2 : (s : Int) % 65536 = (x : Int) := by omega
     have hy2 : (s : Int) / 65536 = (y : Int) := by omega
     have hPb : P < 4294967296 := by omega
     clear hx hy hs hP hI HI
     go_wp2_with fail
     go_quiet (fail)
     go_wp2_with fail
     go_roundw
     case rel => exact ⟨k + 1, y, _, _, by omega, by go_num, rfl, HN.out, rfl⟩
     case measure => simp [intOf]; omega
    ·obtain rfl : k = 4 := by omega
     have HN := Lib.hid (hI.next hlt)
     have hb4 : i + 4 < 12 := by omega
     clear hI HI
     go_wp2_with fail
     go_roundw
     case rel => exact ⟨i + 1, _, _, by omega, by go_num, HN.out, rfl⟩
     case measure => simp [intOf]; omega
  ·obtain rfl : i = 8 := by omega
   have HV := Lib.hid (show qa 12 O = qa 12 (dg (dv 8 a * dv 4 b)) from qa_ext fun j hj => by
    rw [← dg_dv 12 HI.out.lt j hj]
    have h2 := HI.out.sum
    rw [show dv 0 b = 0 from rfl, Nat.mul_zero, Nat.zero_mul, Nat.add_zero, Nat.add_zero] at h2
    rw [h2])
   rw [HV.out]
   go_wp2_with fail
   refine bodyPost_ret (v := .agg (qa 12 (dg (dv 8 a * dv 4 b)))) (zS rfl _ _ (w.heap.size + 1 + 1) _ _ _ rfl (by simp [go_sem]) q12_u (by rw [qa_size]; exact q12_i)) rfl ⟨rfl, ?_⟩
   exact zL (((((Below.refl _ _).alloc (by simp) _).alloc (by simp) _).alloc (by simp; omega) _).alloc (by simp; omega) _) _
theorem dg_hi (x n i : Nat) (h : x < 65536 ^ n) (hi : n ≤ i) : dg x i = 0 := by
 unfold dg
 rw [Nat.div_eq_of_lt (Nat.lt_of_lt_of_le h (Nat.pow_le_pow_right (by omega) hi))]
def up4 (f : Nf) : Nf := updA (updA (updA (updA (fun _ => 0) 0 (f 0)) 1 (f 1)) 2 (f 2)) 3 (f 3)
def up8 (f : Nf) : Nf := updA (updA (updA (updA (updA (updA (updA (updA (fun _ => 0) 0 (f 0)) 1 (f 1)) 2 (f 2)) 3 (f 3)) 4 (f 4)) 5 (f 5)) 6 (f 6)) 7 (f 7)
theorem up4_8 (x : Nat) (h : x < 65536 ^ 4) (i : Nat) (hi : i < 8) : up4 (dg x) i = dg x i := by
 match i, hi with
 | 0, _ => rfl
 | 1, _ => rfl
 | 2, _ => rfl
 | 3, _ => rfl
 | 4, _ => exact (dg_hi x 4 4 h (by omega)).symm
 | 5, _ => exact (dg_hi x 4 5 h (by omega)).symm
 | 6, _ => exact (dg_hi x 4 6 h (by omega)).symm
 | 7, _ => exact (dg_hi x 4 7 h (by omega)).symm
theorem up8_8 (f : Nf) (i : Nat) (hi : i < 8) : up8 f i = f i := by
 match i, hi with
 | 0, _ => rfl
 | 1, _ => rfl
 | 2, _ => rfl
 | 3, _ => rfl
 | 4, _ => rfl
 | 5, _ => rfl
 | 6, _ => rfl
 | 7, _ => rfl
theorem times_dg (x y : Nat) (f g : Nf) (hf : ∀ i, i < 8 → f i = dg x i) (hg : ∀ i, i < 4 → g i = dg y i) (hx : x < 65536 ^ 8) (hy : y < 65536 ^ 4) (w : World) :
  Calls Tryz.prog 242 #[.agg (qa 8 f), .agg (qa 4 g)] w fun e w' => e = .returned (.agg (qa 12 (dg (x * y)))) ∧ Below w.heap.size w w' := by
 have e1 : dv 8 f = x := by rw [dv_congr 8 hf, dv_dg, Nat.mod_eq_of_lt hx]
 have e2 : dv 4 g = y := by rw [dv_congr 4 hg, dv_dg, Nat.mod_eq_of_lt hy]
 have h := times_any f g (fun j hj => by rw [hf j hj]; exact dg_lt _ _) (fun j hj => by rw [hg j hj]; exact dg_lt _ _) w
 rw [e1, e2] at h
 exact h
theorem plc_dg (n p : Nat) (hn : n < 65536) (hp : p < 12) : qa 12 (updA (fun _ => 0) p n) = qa 12 (dg (n * 65536 ^ p)) := qa_ext fun i hi => by
 unfold updA dg
 by_cases h : i = p
 ·subst h
  rw [if_pos rfl, Nat.mul_div_cancel _ (Nat.pow_pos (by omega)), Nat.mod_eq_of_lt hn]
 ·rw [if_neg h]
  by_cases h2 : i < p
  ·rw [show 65536 ^ p = 65536 ^ i * (65536 * 65536 ^ (p - i - 1)) by rw [← Nat.pow_succ', ← Nat.pow_add]; congr 1; omega,
    Nat.mul_left_comm, Nat.mul_div_cancel_left _ (Nat.pow_pos (by omega)), Nat.mul_left_comm, Nat.mul_mod_right]
  ·rw [Nat.div_eq_of_lt, Nat.zero_mod]
   rw [show 65536 ^ i = 65536 * 65536 ^ (i - p - 1) * 65536 ^ p by rw [← Nat.pow_succ', ← Nat.pow_add]; congr 1; omega]
   refine Nat.mul_lt_mul_of_pos_right ?_ (Nat.pow_pos (by omega))
   exact Nat.lt_of_lt_of_le hn (Nat.le_mul_of_pos_right _ (Nat.pow_pos (by omega)))
theorem sq_lt (x : Nat) (h : x < 65536 ^ 4) : x * x < 65536 ^ 8 := by
 rw [show 65536 ^ 8 = 65536 ^ 4 * 65536 ^ 4 from rfl]
 exact Nat.mul_lt_mul'' h h
theorem cb_lt (x : Nat) (h : x < 65536 ^ 4) : x * x * x < 65536 ^ 12 := by
 rw [show 65536 ^ 12 = 65536 ^ 8 * 65536 ^ 4 from rfl]
 exact Nat.mul_lt_mul'' (sq_lt x h) h
theorem ovr_f (x n : Nat) : ovr x n false = decide (n * 18446744073709551616 < x * x) := by simp [ovr, plc, pw]
theorem ovr_t (x n : Nat) : ovr x n true = decide (n * 79228162514264337593543950336 < x * x * x) := by simp [ovr, plc, pw]
theorem dN0 (w : World) : w = w.drewN 0 := rfl
theorem cmp_start (X Y : Nat) (hX : X < 65536 ^ 12) (hY : Y < 65536 ^ 12) : X / 65536 ^ 12 = Y / 65536 ^ 12 := by rw [Nat.div_eq_of_lt hX, Nat.div_eq_of_lt hY]
theorem above_any (x n : Nat) (th : Bool) (hx : x < 18446744073709551616) (hn : n < 65536) (w : World) :
  Calls Tryz.prog 209 #[.int .u64 x, .int .u64 n, .bool th] w fun e w' => e = .returned (.bool (ovr x n th)) ∧ Below w.heap.size w w' := by
 have hx4 : x < 65536 ^ 4 := hx
 have HX4 := Lib.hid hx4
 have e0 : (x : Int) % 65536 = ((dg x 0 : Nat) : Int) := by unfold dg; rw [Nat.pow_zero, Nat.div_one]; omega
 have e1 : (x : Int) / 65536 % 65536 = ((dg x 1 : Nat) : Int) := by unfold dg; rw [show 65536 ^ 1 = 65536 from rfl]; omega
 have e2 : (x : Int) / 4294967296 % 65536 = ((dg x 2 : Nat) : Int) := by unfold dg; rw [show 65536 ^ 2 = 4294967296 from rfl]; omega
 have e3 : (x : Int) / 281474976710656 = ((dg x 3 : Nat) : Int) := by unfold dg; rw [show 65536 ^ 3 = 281474976710656 from rfl]; omega
 have hq4 : qa 4 (updA (updA (updA (updA (fun _ => 0) 0 (dg x 0)) 1 (dg x 1)) 2 (dg x 2)) 3 (dg x 3)) = qa 4 (dg x) := qa_ext fun i hi => up4_8 x hx4 i (by omega)
 clear hx4
 go_enter Tryz.func209, Tryz.ntmps209
 go_wp2_with fail
 refine (times_dg x x (up4 (dg x)) (dg x) (fun i hi => up4_8 x HX4.out i hi) (fun _ _ => rfl) (Nat.lt_of_lt_of_le HX4.out (by decide)) HX4.out _).mono ?_
 rintro e w1 ⟨rfl, hb1⟩
 have r4 := zC hb1 (b := w.heap.size) (c := qa 4 (dg x)) (by simp [go_sem])
 have B1 := Lib.hid (onto ((Below.refl w.heap.size w).alloc (by simp) (.cells (qa 4 (dg x)) 305)) (by simp) hb1)
 have s1 : w.heap.size + 1 ≤ w1.heap.size := by have := hb1.size; simpa using this
 clear hb1 hq4 e0 e1 e2 e3
 have q8 : row (w1.alloc (.cells (qa 12 (dg (x * x))) 306)) w1.heap.size = some (qa 12 (dg (x * x))) := zA _ _ _ _ rfl
 have q4 := zI r4 (.cells (qa 12 (dg (x * x))) 306)
 have B2 := Lib.hid (B1.out.alloc (by omega) (.cells (qa 12 (dg (x * x))) 306))
 have Q8 := Lib.hid q8
 have Q4 := Lib.hid q4
 clear q8 q4 r4
 cases th
 ·have hpl : qa 12 (updA (fun _ => 0) 4 n) = qa 12 (dg (n * 18446744073709551616)) := plc_dg n 4 hn (by omega)
  go_wp2_with fail
  have hs2 := Lib.hid (show (w1.alloc (.cells (qa 12 (dg (x * x))) 306)).heap.size = w1.heap.size + 1 by simp)
  obtain ⟨p, hp⟩ : ∃ p, p = w1.heap.size := ⟨_, rfl⟩
  rw [← hp] at Q8 hs2 ⊢
  obtain ⟨w2, hw2⟩ : ∃ w2, w2 = w1.alloc (.cells (qa 12 (dg (x * x))) 306) := ⟨_, rfl⟩
  rw [← hw2] at Q8 Q4 B2 hs2 ⊢
  clear hw2 hp
  have r8 := zI Q8.out (.cells (qa 12 (dg (n * 18446744073709551616))) 306)
  have r7 : row (w2.alloc (.cells (qa 12 (dg (n * 18446744073709551616))) 306)) (p + 1) = some (qa 12 (dg (n * 18446744073709551616))) := zA _ _ _ _ hs2.out.symm
  have B5 := Lib.hid (B2.out.alloc (by exact B2.out.size) (.cells (qa 12 (dg (n * 18446744073709551616))) 306))
  obtain ⟨w5, hw5⟩ : ∃ w5, w5 = w2.alloc (.cells (qa 12 (dg (n * 18446744073709551616))) 306) := ⟨_, rfl⟩
  rw [← hw5] at r8 r7 B5 ⊢
  clear hw5
  have R8 := Lib.hid r8
  have R7 := Lib.hid r7
  have hY : n * 18446744073709551616 < 65536 ^ 12 := Nat.lt_of_lt_of_le (Nat.mul_lt_mul_of_pos_right hn (by decide)) (by decide)
  obtain ⟨X, hX⟩ : ∃ X, X = x * x := ⟨_, rfl⟩
  obtain ⟨Y, hYY⟩ : ∃ Y, Y = n * 18446744073709551616 := ⟨_, rfl⟩
  rw [← hX] at R8
  rw [← hYY] at R7 hY
  have HXY := Lib.hid (show decide (Y < X) = ovr x n false by rw [hX, hYY, ovr_f])
  have HS := Lib.hid (cmp_start X Y (by rw [hX]; exact (Nat.lt_of_lt_of_le (sq_lt x HX4.out) (by decide))) hY)
  clear hX hYY r7 r8 hs2 Q8 Q4 B2
  go_loopw [11] (fun iv wr => ∃ k m : Nat, k ≤ 12 ∧ iv = .int .i64 ((k : Int) - 1) ∧ X / 65536 ^ k = Y / 65536 ^ k ∧ wr = w5.drewN m) (fun iv _ => (intOf iv + 1).toNat)
  case atStart => exact ⟨12, 0, by omega, rfl, HS.out, dN0 _⟩
  case round =>
   clear HS
   obtain ⟨k, m, hk, rfl, hE, rfl⟩ := hrel
   have HE := Lib.hid hE
   clear hE
   rcases k with _ | i
   ·have hd : decide ((0 : Int) ≤ ((0 : Nat) : Int) - 1) = false := by decide
    have HF := Lib.hid (show decide (Y < X) = false by
     have := HE.out
     rw [Nat.pow_zero, Nat.div_one, Nat.div_one] at this
     rw [decide_eq_false_iff_not]; omega)
    go_wp2_with fail
    go_ret
    refine ⟨?_, zL B5.out _⟩
    rw [← HXY.out, HF.out]
    rfl
   ·rw [show ((i + 1 : Nat) : Int) - 1 = (i : Int) by omega]
    have hd : decide ((0 : Int) ≤ (i : Int)) = true := by simp
    have hi : i < 12 := by omega
    have HC := Lib.hid (dg_cmp X Y i HE.out)
    have r7 : w5.cell? ⟨p + 1, i, none⟩ = some (.int .u64 ((dg Y i : Nat) : Int)) := by rw [zF R7.out, qa_get _ _ _ hi]
    have r8 : w5.cell? ⟨p, i, none⟩ = some (.int .u64 ((dg X i : Nat) : Int)) := by rw [zF R8.out, qa_get _ _ _ hi]
    by_cases hne : dg X i = dg Y i
    ·have HN := Lib.hid (HC.out.1 hne)
     have hne2 : ((dg X i : Nat) : Int) = ((dg Y i : Nat) : Int) := by rw [hne]
     clear hne
     go_wp2_with fail
     go_quiet (fail)
     go_wp2_with fail
     go_roundw
     case rel => exact ⟨i, m + nq, by omega, rfl, HN.out, rfl⟩
     case measure => simp [intOf]
    ·have HN := Lib.hid (HC.out.2 hne)
     have hne2 : ¬ ((dg X i : Nat) : Int) = ((dg Y i : Nat) : Int) := by omega
     clear hne
     go_wp2_with fail
     go_quiet (fail)
     go_wp2_with fail
     go_quiet (fail)
     go_wp2_with fail
     go_ret
     refine ⟨?_, zL (zL (zL B5.out _) _) _⟩
     rw [← HXY.out, ← HN.out]
     rfl
 ·have hpl : qa 12 (updA (fun _ => 0) 6 n) = qa 12 (dg (n * 79228162514264337593543950336)) := plc_dg n 6 hn (by omega)
  have q4 := Q4.out
  have hs3 : w.heap.size < w1.heap.size := by omega
  go_wp2_with fail
  refine (times_dg (x * x) x (up8 (dg (x * x))) (dg x) (fun i hi => up8_8 _ i hi) (fun _ _ => rfl) (sq_lt x HX4.out) HX4.out _).mono ?_
  rintro e w3 ⟨rfl, hb3⟩
  have r3 := zC hb3 Q8.out
  have B3 := Lib.hid (onto B2.out (by simp; omega) hb3)
  have hlt3 := zK r3
  clear hb3 Q8 q4 Q4 hs3
  obtain ⟨p, hp⟩ : ∃ p, p = w1.heap.size := ⟨_, rfl⟩
  rw [← hp] at r3 hlt3 s1 ⊢
  clear hp B1 B2
  go_wp2_with fail
  have r8 := zI (zD r3 (qa 12 (dg (x * x * x)))) (.cells (qa 12 (dg (n * 79228162514264337593543950336))) 306)
  have r7 : row ((w3.setRow p (qa 12 (dg (x * x * x)))).alloc (.cells (qa 12 (dg (n * 79228162514264337593543950336))) 306)) w3.heap.size = some (qa 12 (dg (n * 79228162514264337593543950336))) := zA _ _ _ _ (by simp)
  have B5 := Lib.hid ((zE B3.out (by omega : w.heap.size ≤ p) (qa 12 (dg (x * x * x)))).alloc (by simp; omega) (.cells (qa 12 (dg (n * 79228162514264337593543950336))) 306))
  obtain ⟨q, hqq⟩ : ∃ q, q = w3.heap.size := ⟨_, rfl⟩
  rw [← hqq] at r7 ⊢
  obtain ⟨w5, hw5⟩ : ∃ w5, w5 = (w3.setRow p (qa 12 (dg (x * x * x)))).alloc (.cells (qa 12 (dg (n * 79228162514264337593543950336))) 306) := ⟨_, rfl⟩
  rw [← hw5] at r8 r7 B5 ⊢
  clear hw5 hqq hlt3
  have R8 := Lib.hid r8
  have R7 := Lib.hid r7
  have hY : n * 79228162514264337593543950336 < 65536 ^ 12 := Nat.lt_of_lt_of_le (Nat.mul_lt_mul_of_pos_right hn (by decide)) (by decide)
  obtain ⟨X, hX⟩ : ∃ X, X = x * x * x := ⟨_, rfl⟩
  obtain ⟨Y, hYY⟩ : ∃ Y, Y = n * 79228162514264337593543950336 := ⟨_, rfl⟩
  rw [← hX] at R8
  rw [← hYY] at R7 hY
  have HXY := Lib.hid (show decide (Y < X) = ovr x n true by rw [hX, hYY, ovr_t])
  have HS := Lib.hid (cmp_start X Y (by rw [hX]; exact cb_lt x HX4.out) hY)
  clear hX hYY r7 r8 r3 B3
  go_loopw [11] (fun iv wr => ∃ k m : Nat, k ≤ 12 ∧ iv = .int .i64 ((k : Int) - 1) ∧ X / 65536 ^ k = Y / 65536 ^ k ∧ wr = w5.drewN m) (fun iv _ => (intOf iv + 1).toNat)
  case atStart => exact ⟨12, 0, by omega, rfl, HS.out, dN0 _⟩
  case round =>
   clear HS
   obtain ⟨k, m, hk, rfl, hE, rfl⟩ := hrel
   have HE := Lib.hid hE
   clear hE
   rcases k with _ | i
   ·have hd : decide ((0 : Int) ≤ ((0 : Nat) : Int) - 1) = false := by decide
    have HF := Lib.hid (show decide (Y < X) = false by
     have := HE.out
     rw [Nat.pow_zero, Nat.div_one, Nat.div_one] at this
     rw [decide_eq_false_iff_not]; omega)
    go_wp2_with fail
    go_ret
    refine ⟨?_, zL B5.out _⟩
    rw [← HXY.out, HF.out]
    rfl
   ·rw [show ((i + 1 : Nat) : Int) - 1 = (i : Int) by omega]
    have hd : decide ((0 : Int) ≤ (i : Int)) = true := by simp
    have hi : i < 12 := by omega
    have HC := Lib.hid (dg_cmp X Y i HE.out)
    have r7 : w5.cell? ⟨q, i, none⟩ = some (.int .u64 ((dg Y i : Nat) : Int)) := by rw [zF R7.out, qa_get _ _ _ hi]
    have r8 : w5.cell? ⟨p, i, none⟩ = some (.int .u64 ((dg X i : Nat) : Int)) := by rw [zF R8.out, qa_get _ _ _ hi]
    by_cases hne : dg X i = dg Y i
    ·have HN := Lib.hid (HC.out.1 hne)
     have hne2 : ((dg X i : Nat) : Int) = ((dg Y i : Nat) : Int) := by rw [hne]
     clear hne
     go_wp2_with fail
     go_quiet (fail)
     go_wp2_with fail
     go_roundw
     case rel => exact ⟨i, m + nq, by omega, rfl, HN.out, rfl⟩
     case measure => simp [intOf]
    ·have HN := Lib.hid (HC.out.2 hne)
     have hne2 : ¬ ((dg X i : Nat) : Int) = ((dg Y i : Nat) : Int) := by omega
     clear hne
     go_wp2_with fail
     go_quiet (fail)
     go_wp2_with fail
     go_quiet (fail)
     go_wp2_with fail
     go_ret
     refine ⟨?_, zL (zL (zL B5.out _) _) _⟩
     rw [← HXY.out, ← HN.out]
     rfl
theorem M_of32 (r : Nat) : (r : Int) % 4294967296 = M (BitVec.ofNat 32 r) := by unfold M; rw [BitVec.toNat_ofNat]; omega
theorem rtg_step (n : Nat) (th : Bool) (k r P x : Nat) (hP : P = 2 ^ k) (hx : x = r + P) : rtg n th (k + 1) r = if ovr x n th then rtg n th k r else rtg n th k x := by
 subst hP; subst hx; rfl
theorem root_any (n : Nat) (th : Bool) (hn : n < 65536) (w : World) :
  Calls Tryz.prog 173 #[.int .u64 n, .bool th] w fun e w' => e = .returned (.int .u32 (M (BitVec.ofNat 32 (rtg n th 37 0)))) ∧ Below w.heap.size w w' := by
 go_enter Tryz.func173, Tryz.ntmps173
 go_wp2_with fail
 go_loopw [5, 6, 7] (fun rv iv _ wr => ∃ k r : Nat, k ≤ 37 ∧ iv = .int .i64 ((k : Int) - 1) ∧ rv = .int .u64 r ∧ rtg n th k r = rtg n th 37 0 ∧ r + 2 ^ k ≤ 137438953472 ∧ Below w.heap.size w wr) (fun _ iv _ _ => (intOf iv + 1).toNat)
 case atStart => exact ⟨37, 0, by omega, rfl, rfl, rfl, by decide, Below.refl _ _⟩
 case round =>
  obtain ⟨k, r, hk, rfl, rfl, hR, hb, hB⟩ := hrel
  have HR := Lib.hid hR
  have HB := Lib.hid hB
  clear hR hB
  obtain ⟨wo, rfl⟩ : ∃ wo : World, wo = wr := ⟨_, rfl⟩
  rcases k with _ | i
  ·have hd : decide ((0 : Int) ≤ ((0 : Nat) : Int) - 1) = false := by decide
   have hm := M_of32 r
   have HV := Lib.hid (show r = rtg n th 37 0 from HR.out)
   clear hb
   go_wp2_with fail
   go_ret
   exact ⟨by rw [← HV.out]; rfl, HB.out⟩
  ·rw [show ((i + 1 : Nat) : Int) - 1 = (i : Int) by omega]
   have hd : decide ((0 : Int) ≤ (i : Int)) = true := by simp
   obtain ⟨P, hP⟩ : ∃ P, P = 2 ^ i := ⟨_, rfl⟩
   have hb2 : r + P + P ≤ 137438953472 := by rw [Nat.pow_succ, ← hP] at hb; omega
   have hP2 : (2 : Int) ^ i = (P : Int) := by rw [hP, Int.natCast_pow]; rfl
   obtain ⟨x, hx⟩ : ∃ x, x = r + P := ⟨_, rfl⟩
   have hx2 : (r : Int) + (P : Int) = (x : Int) := by omega
   have hxb : x + P ≤ 137438953472 := by omega
   have HS := Lib.hid (rtg_step n th i r P x hP hx)
   have HP := Lib.hid hP
   have HX := Lib.hid hx
   clear hP hx hb
   cases ho : ovr x n th
   all_goals
    go_wp2_with fail
    refine (above_any x n th (by omega) hn _).mono ?_
    rintro e w1 ⟨rfl, hb1⟩
    have B1 := Lib.hid (onto HB.out HB.out.size hb1)
    clear hb1
    have HO := Lib.hid ho
    go_wp2_with fail
    go_roundw
    case rel => exact ⟨i, _, by omega, rfl, rfl, by rw [← HR.out, HS.out, HO.out]; rfl, by rw [← HP.out]; omega, B1.out⟩
    case measure => simp [intOf]
theorem u64s_u : Tryz.prog.underlying 250 = some (.slice 253) := by kernel_rfl
theorem u64_info : (Tryz.prog.info? 253).map (fun i => (i.zero, i.size, i.bytes)) = some (some (.int .u64 0), 1, 8) := by kernel_rfl
theorem u32s_u : Tryz.prog.underlying 134 = some (.slice 135) := by kernel_rfl
theorem u32_info : (Tryz.prog.info? 135).map (fun i => (i.zero, i.size, i.bytes)) = some (some (.int .u32 0), 1, 4) := by kernel_rfl
def vN (l : List Nat) : List Value := l.map fun p : Nat => .int .u64 (p : Int)
theorem nth_vN (l : List Nat) (i : Nat) (h : i < l.length) : nth (vN l) i = .int .u64 ((l.getD i 0 : Nat) : Int) := by
 unfold nth vN; simp [h]
theorem prl_two : ∀ j, ∀ p ∈ prl j, 2 ≤ p := by
 intro j
 induction j with
 | zero => intro p hp; simp [prl] at hp
 | succ j ih =>
  intro p hp
  simp only [prl] at hp
  split at hp
  ·rcases List.mem_append.1 hp with h | h
   ·exact ih p h
   ·have : p = j + 2 := by simpa using h
    omega
  ·exact ih p hp
def prm (l : List Nat) (n i : Nat) : Bool := (l.take i).all fun p => n % p != 0
theorem prm_step (l : List Nat) (n i : Nat) (h : i < l.length) : prm l n (i + 1) = (prm l n i && n % l.getD i 0 != 0) := by
 unfold prm
 rw [List.take_succ_eq_append_getElem h, List.all_append]
 simp [h]
theorem prm_all (l : List Nat) (n : Nat) : prm l n l.length = l.all fun p => n % p != 0 := by unfold prm; rw [List.take_length]
theorem prl_y (j : Nat) (h : prm (prl j) (j + 2) (prl j).length = true) : prl (j + 1) = prl j ++ [j + 2] := by
 rw [prm_all] at h; simp only [prl]; rw [if_pos h]
theorem prl_n (j : Nat) (h : prm (prl j) (j + 2) (prl j).length = false) : prl (j + 1) = prl j := by
 rw [prm_all] at h; simp only [prl]; rw [if_neg (by rw [h]; simp)]
theorem vN_app (l : List Nat) (n : Nat) : vN (l ++ [n]) = vN l ++ [.int .u64 (n : Int)] := by unfold vN; simp
theorem bne_mod (N p : Nat) : ((N : Int) % (p : Int) != 0) = (N % p != 0) := by
 rw [← Int.natCast_emod, Bool.eq_iff_iff]
 simp
 omega
theorem primes_any (many J : Nat) (hJ : J ≤ 400) (hm : many ≤ 100) (hiff : ∀ j, j ≤ J → ((prl j).length < many ↔ j < J)) (hl : (prl J).length = many) (h0 : 0 < many) (w : World) :
  Calls Tryz.prog 172 #[.int .i64 many] w fun e w' => ∃ g c cur, e = .returned (.slice (some ⟨g, 0, none⟩) many c) ∧ w.heap.size ≤ g ∧ row w' g = some cur ∧ (∀ i, i < many → cur[i]? = some (.int .u64 (((prl J).getD i 0 : Nat) : Int))) ∧ Below w.heap.size w w' := by
 have HIF := Lib.hid hiff
 have HL := Lib.hid hl
 clear hiff hl
 go_enter Tryz.func172, Tryz.ntmps172
 go_wp2_with fail
 go_loopw [3, 4, 5, 6] (fun lv nv _ _ wr => ∃ j : Nat, j ≤ J ∧ nv = .int .u64 ((j + 2 : Nat) : Int) ∧ wr.ownsRow w.heap.size 253 1 lv (prl j).length (vN (prl j)) ∧ Below w.heap.size w wr) (fun _ nv _ _ _ => 500 - (intOf nv).toNat)
 case atStart => exact ⟨0, by omega, rfl, (World.ownsRow_nil w w.heap.size 253 1 : w.ownsRow w.heap.size 253 1 (.slice none 0 0) 0 []), Below.refl _ _⟩
 case round =>
  obtain ⟨j, hj, rfl, hO, hB⟩ := hrel
  obtain ⟨wo, rfl⟩ : ∃ wo : World, wo = wr := ⟨_, rfl⟩
  obtain ⟨A, c, hlv, hsl, -, hA⟩ := ownsRow_slG hO
  subst hlv
  have HO := Lib.hid hO
  have HB := Lib.hid hB
  have HSL := Lib.hid hsl
  obtain ⟨q, hq⟩ : ∃ q, q = (prl j).length := ⟨_, rfl⟩
  obtain ⟨N, hN⟩ : ∃ N, N = j + 2 := ⟨_, rfl⟩
  rw [← hN]
  rw [← hq] at HO HSL ⊢
  have HQ := Lib.hid hq
  have HN := Lib.hid hN
  have hNb : N ≤ 402 := by omega
  have hq2 : q < many ↔ j < J := by rw [hq]; exact HIF.out j hj
  clear hO hB hsl hA hq hN
  by_cases hlt : q < many
  ·have hd : decide ((q : Int) < (many : Int)) = true := by simp; omega
   have hjJ : j < J := hq2.1 hlt
   clear hq2
   go_wp2_with fail
   go_loopw [5, 6] (fun pv iv wq => ∃ i : Nat, i ≤ q ∧ iv = .int .i64 i ∧ pv = .bool (prm (prl j) N i) ∧ wq = wo) (fun _ iv _ => q - (intOf iv).toNat)
   case atStart => exact ⟨0, by omega, rfl, rfl, rfl⟩
   case round =>
    obtain ⟨i, hi, rfl, rfl, rfl⟩ := hrel
    by_cases hli : i < q
    ·have hdi : decide ((i : Int) < (q : Int)) = true := by simp; omega
     obtain ⟨g, o, hA, hg, hcell⟩ := HSL.out.at_ (by omega)
     subst hA
     have hc := hcell i hli
     have hi2 : i < (prl j).length := by rw [← HQ.out]; exact hli
     rw [nth_vN _ _ hi2] at hc
     have hst := prm_step (prl j) N i hi2
     have hp2 : 2 ≤ (prl j).getD i 0 := prl_two j _ (by rw [List.getD_eq_getElem?_getD, List.getElem?_eq_getElem hi2]; exact List.getElem_mem hi2)
     obtain ⟨p, hp⟩ : ∃ p, p = (prl j).getD i 0 := ⟨_, rfl⟩
     rw [← hp] at hc hst hp2
     have HST := Lib.hid hst
     clear hcell hst hp hi2 hg
     cases hpr : prm (prl j) N i
     ·have HPR := Lib.hid hpr
      clear hpr
      go_wp2_with fail
      go_roundw
      case rel => exact ⟨i + 1, by omega, by go_num, by rw [HST.out, HPR.out]; rfl, trivial⟩
      case measure => simp [intOf]; omega
     ·have HPR := Lib.hid hpr
      clear hpr
      go_wp2_with fail
      go_roundw
      case rel => exact ⟨i + 1, by omega, by go_num, by rw [HST.out, HPR.out, Bool.true_and, bne_mod], trivial⟩
      case measure => simp [intOf]; omega
    ·obtain rfl : i = q := by omega
     cases hpr : prm (prl j) N i
     ·have HV := Lib.hid (prl_n j (by rw [← HQ.out, ← HN.out]; exact hpr))
      have HPR := Lib.hid hpr
      clear hpr
      go_wp2_with fail
      go_roundw
      case rel => exact ⟨j + 1, by omega, by congr 1; have := HN.out; omega, by rw [HV.out, ← HQ.out]; exact HO.out, HB.out⟩
      case measure => simp [intOf]; omega
     ·have HV := Lib.hid (prl_y j (by rw [← HQ.out, ← HN.out]; exact hpr))
      have HPR := Lib.hid hpr
      clear hpr
      go_wp2_with (at_builtin; refine wpl_appOne rfl (.tmp 30) (.tmp 32) rfl u64s_u u64_info rfl (by decide) HO.out rfl (by omega) HB.out.size rfl rfl ?_; intro v' w2 ho hg)
      have B2 := Lib.hid (xH (HO.out.alloc (.cells #[.int .u64 (N : Int)] 253)) hg (HB.out.alloc HB.out.size _) (by have := HB.out.size; simp; omega) (Nat.le_refl _))
      have HO2 := Lib.hid ho
      clear ho hg
      go_wp2_with fail
      go_roundw
      case rel => exact ⟨j + 1, by omega, by congr 1; have := HN.out; omega, by rw [HV.out, List.length_append, ← HQ.out, ← HN.out, vN_app]; exact HO2.out, B2.out⟩
      case measure => simp [intOf]; omega
  ·have hd : decide ((q : Int) < (many : Int)) = false := by simp; omega
   obtain rfl : j = J := by omega
   obtain rfl : q = many := by rw [HQ.out]; exact HL.out
   obtain ⟨g, c', cur, hv, hg, -, hr, hcu⟩ := ownsRow_row HO.out h0
   obtain ⟨rfl, rfl⟩ : A = some ⟨g, 0, none⟩ ∧ c = c' := by injection hv with e1 e2 e3; exact ⟨e1, e3⟩
   have HC := Lib.hid hcu
   clear hcu hr hv
   go_wp2_with fail
   go_ret
   obtain ⟨g', c'', cur', hv, hg, -, hr, hcu⟩ := ownsRow_row HO.out h0
   obtain rfl : g = g' := by injection hv with e1 e2 e3; injection e1 with e1; injection e1
   exact ⟨g, c, cur', rfl, hg, hr, fun i hi => by rw [hcu i hi, nth_vN _ _ (by rw [HL.out]; exact hi)], HB.out⟩
theorem prl_310 : ∀ j, j ≤ 310 → ((prl j).length < 64 ↔ j < 310) := by decide +kernel
theorem prl_18 : ∀ j, j ≤ 18 → ((prl j).length < 8 ↔ j < 18) := by decide +kernel
theorem prl_64 : (prl 310).length = 64 := by decide +kernel
theorem prl_8 : (prl 18).length = 8 := by decide +kernel
theorem prl_small : ∀ i, i < 64 → (prl 310).getD i 0 < 65536 := by decide +kernel
theorem prl_small8 : ∀ i, i < 8 → (prl 18).getD i 0 < 65536 := by decide +kernel
theorem thirds_ok : ∀ i, i < 64 → BitVec.ofNat 32 (rtg ((prl 310).getD i 0) true 37 0) = kF i := by decide +kernel
theorem seconds_ok : ∀ i, i < 8 → BitVec.ofNat 32 (rtg ((prl 18).getD i 0) false 37 0) = iF i := by decide +kernel
def vK (i : Nat) : List Value := (List.range i).map fun t => .int .u32 (M (kF t))
theorem vK_app (i : Nat) : vK (i + 1) = vK i ++ [.int .u32 (M (kF i))] := by unfold vK; rw [List.range_succ, List.map_append]; rfl
theorem nth_vK (n i : Nat) (h : i < n) : nth (vK n) i = .int .u32 (M (kF i)) := by unfold nth vK; simp [h]
def kV : Nat → Value := fun i => .int .u32 (M (kF i))
theorem thirds_any (w : World) :
  Calls Tryz.prog 126 #[] w fun e w' => ∃ g c cur, e = .returned (.slice (some ⟨g, 0, none⟩) 64 c) ∧ w.heap.size ≤ g ∧ 64 ≤ c ∧ row w' g = some cur ∧ (∀ i, i < 64 → cur[i]? = some (kV i)) ∧ Below w.heap.size w w' := by
 go_enter Tryz.func126, Tryz.ntmps126
 go_wp2_with fail
 refine (primes_any 64 310 (by omega) (by omega) prl_310 prl_64 (by omega) _).mono ?_
 rintro e w1 ⟨g, c, cur, rfl, hg, hr, hcu, hb1⟩
 have HR := Lib.hid hr
 have HCU := Lib.hid hcu
 have HB1 := Lib.hid hb1
 clear hr hcu hb1 hg
 go_wp2_with fail
 go_loopw [1, 3] (fun kv iv wr => ∃ i : Nat, i ≤ 64 ∧ iv = .int .i64 i ∧ wr.ownsRow w1.heap.size 135 1 kv i (vK i) ∧ Below w1.heap.size w1 wr) (fun _ iv _ => 64 - (intOf iv).toNat)
 case atStart => exact ⟨0, by omega, rfl, World.ownsRow_nil w1 w1.heap.size 135 1, Below.refl _ _⟩
 case round =>
  obtain ⟨i, hi, rfl, hO, hB⟩ := hrel
  obtain ⟨wo, rfl⟩ : ∃ wo : World, wo = wr := ⟨_, rfl⟩
  have HO := Lib.hid hO
  have HB := Lib.hid hB
  by_cases hlt : i < 64
  ·have hd : decide ((i : Int) < 64) = true := by simp; omega
   have hc : wo.cell? ⟨g, i, none⟩ = some (.int .u64 (((prl 310).getD i 0 : Nat) : Int)) := by rw [zF (zC hB HR.out), HCU.out i hlt]
   obtain ⟨p, hp⟩ : ∃ p, p = (prl 310).getD i 0 := ⟨_, rfl⟩
   have hps := prl_small i hlt
   have hk := thirds_ok i hlt
   rw [← hp] at hc hps hk
   have HK := Lib.hid hk
   clear hO hB hk hp
   go_wp2_with fail
   refine (root_any p true hps _).mono ?_
   rintro e w2 ⟨rfl, hb2⟩
   have HB2 := Lib.hid (onto HB.out HB.out.size hb2)
   have HO2 := Lib.hid (ownsRow_below HO.out hb2 (Nat.le_refl _))
   rw [show M (BitVec.ofNat 32 (rtg p true 37 0)) = M (kF i) by rw [HK.out]]
   clear hb2 hc
   go_wp2_with (at_builtin; refine wpl_appOne rfl (.tmp 9) (.tmp 15) rfl u32s_u u32_info rfl (by decide) HO2.out rfl (by omega) HB2.out.size rfl rfl ?_; intro v' w3 ho hg3)
   have B3 := Lib.hid (xH (HO2.out.alloc (.cells #[.int .u32 (M (kF i))] 135)) hg3 (HB2.out.alloc HB2.out.size _) (by have := HB2.out.size; simp; omega) (Nat.le_refl _))
   have HO3 := Lib.hid ho
   clear ho hg3
   go_wp2_with fail
   go_roundw
   case rel => exact ⟨i + 1, by omega, by go_num, by rw [vK_app]; exact HO3.out, B3.out⟩
   case measure => simp [intOf]; omega
  ·obtain rfl : i = 64 := by omega
   obtain ⟨g', c', cur', hkv, hg', hc', hr', hcu'⟩ := ownsRow_row HO.out (by omega)
   subst hkv
   have HG := Lib.hid hg'
   have HR' := Lib.hid hr'
   have HCU' := Lib.hid hcu'
   clear hO hB hr' hcu' hg'
   go_wp2_with fail
   go_ret
   exact ⟨g', c', cur', rfl, by have := HB1.out.size; have := HG.out; omega, hc', HR'.out, fun i hi => by rw [HCU'.out i hi]; exact congrArg some (nth_vK 64 i hi), onto HB1.out HB1.out.size HB.out⟩
structure SeInv (w : World) (g : Nat) (cur : Array Value) (i : Nat) (wr : World) : Prop where
 below : Below w.heap.size w wr
 r0 : row wr w.heap.size = some (wa 8 fun _ => 0#32)
 r1 : row wr (w.heap.size + 1) = some (wa 8 (uptoA i iF fun _ => 0#32))
 rl : row wr g = some cur
theorem SeInv.call {w : World} {g i : Nat} {cur : Array Value} {wr w' : World} (h : SeInv w g cur i wr) (hb : Below wr.heap.size wr w') : SeInv w g cur i w' :=
 ⟨onto h.below (by have := zK h.r1; omega) hb, zC hb h.r0, zC hb h.r1, zC hb h.rl⟩
theorem SeInv.set {w : World} {g i : Nat} {cur : Array Value} {wr : World} (h : SeInv w g cur i wr) (hg : w.heap.size + 2 ≤ g) : SeInv w g cur (i + 1) (wr.setCell ⟨w.heap.size + 1, i, none⟩ (.int .u32 (M (iF i)))) :=
 ⟨h.below.setCell (by simp) _, by rw [zU _ _ _ _ (by simp)]; exact h.r0, by rw [row_setCellW h.r1, uptoA_step], by rw [zU _ _ _ _ (by simp; omega)]; exact h.rl⟩
theorem seconds_any (w : World) :
  Calls Tryz.prog 127 #[] w fun e w' => e = .returned (.agg (wa 8 iF)) ∧ Below w.heap.size w w' := by
 have B0 := Lib.hid (((Below.refl w.heap.size w).alloc (by simp) (.cells (wa 8 fun _ => 0#32) 136)).alloc (by simp) (.cells (wa 8 fun _ => 0#32) 136))
 have q0 : row ((w.alloc (.cells (wa 8 fun _ => 0#32) 136)).alloc (.cells (wa 8 fun _ => 0#32) 136)) w.heap.size = some (wa 8 fun _ => 0#32) := by simp [go_sem]
 have q1 : row ((w.alloc (.cells (wa 8 fun _ => 0#32) 136)).alloc (.cells (wa 8 fun _ => 0#32) 136)) (w.heap.size + 1) = some (wa 8 fun _ => 0#32) := by simp [go_sem]
 go_enter Tryz.func127, Tryz.ntmps127
 go_wp2_with fail
 refine (primes_any 8 18 (by omega) (by omega) prl_18 prl_8 (by omega) _).mono ?_
 rintro e w1 ⟨g, c, cur, rfl, hg, hr, hcu, hb1⟩
 have r0 := zC hb1 q0
 have r1 := zC hb1 q1
 have B1 := onto B0.out (by simp; omega) hb1
 have hg2 : w.heap.size + 2 ≤ g := by simpa using hg
 have HI := Lib.hid (show SeInv w g cur 0 w1 from ⟨B1, r0, by rw [uptoA_zero]; exact r1, hr⟩)
 have HCU := Lib.hid hcu
 clear r0 r1 B1 hg hr hcu hb1 q0 q1 B0
 go_wp2_with fail
 go_loopw [3] (fun iv wr => ∃ i : Nat, i ≤ 8 ∧ iv = .int .i64 i ∧ SeInv w g cur i wr) (fun iv _ => 8 - (intOf iv).toNat)
 case atStart => exact ⟨0, by omega, rfl, HI.out⟩
 case round =>
  clear HI
  obtain ⟨i, hi, rfl, hI⟩ := hrel
  obtain ⟨wo, rfl⟩ : ∃ wo : World, wo = wr := ⟨_, rfl⟩
  have HI := Lib.hid hI
  by_cases hlt : i < 8
  ·have hd : decide ((i : Int) < 8) = true := by simp; omega
   have hc : wo.cell? ⟨g, i, none⟩ = some (.int .u64 (((prl 18).getD i 0 : Nat) : Int)) := by rw [zF hI.rl, HCU.out i hlt]
   obtain ⟨p, hp⟩ : ∃ p, p = (prl 18).getD i 0 := ⟨_, rfl⟩
   have hps := prl_small8 i hlt
   have hk := seconds_ok i hlt
   rw [← hp] at hc hps hk
   have HK := Lib.hid hk
   clear hI hk hp
   go_wp2_with fail
   refine (root_any p false hps _).mono ?_
   rintro e w2 ⟨rfl, hb2⟩
   have I2 := HI.out.call hb2
   have HI2 := Lib.hid I2
   have hcl := zF I2.r1 i
   rw [wa_get _ _ _ hlt] at hcl
   have hfz := zW I2.r1 i
   rw [show M (BitVec.ofNat 32 (rtg p false 37 0)) = M (iF i) by rw [HK.out]]
   clear hb2 hc I2 HI
   go_wp2_with fail
   go_roundw
   case rel => exact ⟨i + 1, by omega, by go_num, HI2.out.set hg2⟩
   case measure => simp [intOf]; omega
  ·obtain rfl : i = 8 := by omega
   have r0 := hI.r0
   have r1 := hI.r1
   rw [show wa 8 (uptoA 8 iF fun _ => 0#32) = wa 8 iF from wa_ext fun i hi => by unfold uptoA; rw [if_pos hi]] at r1
   clear hI
   go_wp2_with fail
   refine bodyPost_ret (v := .agg (wa 8 iF)) (zS rfl _ _ w.heap.size _ _ _ rfl (zD r0 _) s8_u (by rw [xE]; exact s8_i)) rfl ⟨rfl, ?_⟩
   exact zE HI.out.below (by omega) _
theorem wmk (w : World) : (Instr.makeSlice 134 (.int .i64 64) (.int .i64 64)).run Tryz.prog w = .ok (.slice (some ⟨w.heap.size, 0, none⟩) 64 64) (w.alloc (.cells (wa 64 fun _ => 0#32) 135)) := by unfold wa; kernel_rfl
structure PtInv (w : World) (h : Wf) (W : Wf) (p : Nat) (S : Wf) (wr : World) : Prop where
 ps : Below w.heap.size w wr ∧ row wr w.heap.size = some (wa 8 h) ∧ row wr (w.heap.size + 1) = some (wa 8 fun _ => 0#32) ∧ row wr (w.heap.size + 1 + 1) = some (wa 64 W)
 hp : w.heap.size + 2 < p
 rp : row wr p = some (wa 8 S)
theorem PtInv.drewN {w : World} {h W : Wf} {p : Nat} {S : Wf} {wr : World} (i : PtInv w h W p S wr) (n : Nat) : PtInv w h W p S (wr.drewN n) :=
 ⟨⟨zL i.ps.1 n, by rw [zQ]; exact i.ps.2.1, by rw [zQ]; exact i.ps.2.2.1, by rw [zQ]; exact i.ps.2.2.2⟩, i.hp, by rw [zQ]; exact i.rp⟩
theorem PtInv.put {w : World} {h W : Wf} {p : Nat} {S : Wf} {wr : World} (i : PtInv w h W p S wr) (S' : Wf) : PtInv w h W p S' (wr.setRow p (wa 8 S')) := by
 have hp := i.hp
 exact ⟨⟨zE i.ps.1 (by omega) _, by rw [zB _ _ _ _ (by omega)]; exact i.ps.2.1, by rw [zB _ _ _ _ (by omega)]; exact i.ps.2.2.1, by rw [zB _ _ _ _ (by omega)]; exact i.ps.2.2.2⟩, hp, zD i.rp _⟩
theorem PtInv.set {w : World} {h W : Wf} {p : Nat} {S : Wf} {wr : World} (i : PtInv w h W p S wr) (k : Nat) (v : BitVec 32) : PtInv w h W p (updA S k v) (wr.setCell ⟨p, k, none⟩ (.int .u32 (M v))) := by
 have hp := i.hp
 exact ⟨⟨i.ps.1.setCell (by simp; omega) _, by rw [zU _ _ _ _ (by simp; omega)]; exact i.ps.2.1, by rw [zU _ _ _ _ (by simp; omega)]; exact i.ps.2.2.1, by rw [zU _ _ _ _ (by simp; omega)]; exact i.ps.2.2.2⟩, hp, row_setCellW i.rp _ _⟩
theorem PtInv.at_ {w : World} {h W : Wf} {p : Nat} {S : Wf} {wr : World} (i : PtInv w h W p S wr) (k : Nat) (hk : k < 8) : wr.cell? ⟨p, k, none⟩ = some (.int .u32 (M (S k))) := by rw [zF i.rp, wa_get _ _ _ hk]
structure PsInv (w : World) (h : Wf) (W : Wf) (wr : World) : Prop where
 below : Below w.heap.size w wr
 h0 : row wr w.heap.size = some (wa 8 h)
 h1 : row wr (w.heap.size + 1) = some (wa 8 fun _ => 0#32)
 h2 : row wr (w.heap.size + 1 + 1) = some (wa 64 W)
theorem PsInv.drewN {w : World} {h W : Wf} {wr : World} (i : PsInv w h W wr) (n : Nat) : PsInv w h W (wr.drewN n) :=
 ⟨zL i.below n, by rw [zQ]; exact i.h0, by rw [zQ]; exact i.h1, by rw [zQ]; exact i.h2⟩
theorem PsInv.set {w : World} {h W : Wf} {wr : World} (i : PsInv w h W wr) (t : Nat) (v : BitVec 32) : PsInv w h (updA W t v) (wr.setCell ⟨w.heap.size + 1 + 1, t, none⟩ (.int .u32 (M v))) :=
 ⟨i.below.setCell (by simp; omega) _, by rw [zU _ _ _ _ (by simp; omega)]; exact i.h0, by rw [zU _ _ _ _ (by simp)]; exact i.h1, row_setCellW i.h2 _ _⟩
theorem PsInv.cell {w : World} {h W : Wf} {wr : World} (i : PsInv w h W wr) (t : Nat) (ht : t < 64) : wr.cell? ⟨w.heap.size + 1 + 1, t, none⟩ = some (.int .u32 (M (W t))) := by rw [zF i.h2, wa_get _ _ _ ht]
theorem sch_lo (m : Bf) (t : Nat) (h : t < 16) : updA (sch m t) t (wrd m t) = sch m (t + 1) := by
 simp only [sch]; rw [if_pos h]
theorem sch_hi (m : Bf) (t : Nat) (h : ¬ t < 16) : updA (sch m t) t (sm1 (sch m t (t - 2)) + sch m t (t - 7) + sm0 (sch m t (t - 15)) + sch m t (t - 16)) = sch m (t + 1) := by
 simp only [sch]; rw [if_neg h]; rfl
theorem M_add4 (a b c d : BitVec 32) : (M a + M b + M c + M d) % 4294967296 = M (a + b + c + d) := by
 unfold M; rw [BitVec.toNat_add, BitVec.toNat_add, BitVec.toNat_add]; omega
theorem I_m24 (a : BitVec 8) : I a * (16777216 : Int) = M (a.setWidth 32 <<< 24) := by
 have h : I a * (16777216 : Int) % 4294967296 = M (a.setWidth 32 <<< 24) := I_shlm a 24
 have := I_bd a; omega
theorem I_m16 (a : BitVec 8) : I a * (65536 : Int) = M (a.setWidth 32 <<< 16) := by
 have h : I a * (65536 : Int) % 4294967296 = M (a.setWidth 32 <<< 16) := I_shlm a 16
 have := I_bd a; omega
theorem I_m8 (a : BitVec 8) : I a * (256 : Int) = M (a.setWidth 32 <<< 8) := by
 have h : I a * (256 : Int) % 4294967296 = M (a.setWidth 32 <<< 8) := I_shlm a 8
 have := I_bd a; omega
theorem wrd_eq (m : Bf) (t : Nat) : bits .or .u32 (bits .or .u32 (bits .or .u32 (I (m (4 * t)) * (16777216 : Int)) (I (m (4 * t + 1)) * (65536 : Int))) (I (m (4 * t + 2)) * (256 : Int))) (I (m (4 * t + 3))) = M (wrd m t) := by
 rw [I_m24, I_m16, I_m8, M_or, M_or, M_orI]; rfl
theorem presses_any (h : Wf) (m : Bf) (c nK cK : Nat) (A AK : Option Addr) (nm : Nat) (w : World) (hs : Sl w w.heap.size A nm c m) (hnm : 64 ≤ nm) (hK : SlG w w.heap.size AK 64 cK kV) :
  Calls Tryz.prog 174 #[.agg (wa 8 h), .slice A nm c, .slice AK 64 cK] w fun e w' => e = .returned (.agg (wa 8 (prF kF h m))) ∧ Below w.heap.size w w' := by
 have I0 : PsInv w h (sch m 0) (((w.alloc (.cells (wa 8 h) 136)).alloc (.cells (wa 8 fun _ => 0#32) 136)).alloc (.cells (wa 64 fun _ => 0#32) 135)) :=
  ⟨(((Below.refl _ _).alloc (by simp) _).alloc (by simp) _).alloc (by simp; omega) _, by simp [go_sem], by simp [go_sem], by simp [go_sem]; rfl⟩
 have HI0 := Lib.hid I0
 have HS := Lib.hid hs
 have HKK := Lib.hid hK
 obtain ⟨g, o, hA, hg, -⟩ := hs.at_ (by omega)
 obtain ⟨gk, ok, hAK, hgk, -⟩ := hK.at_ (by omega)
 subst hA; subst hAK
 have hmk := wmk
 clear I0 hs hK
 go_enter Tryz.func174, Tryz.ntmps174
 go_wp2_with fail
 clear hmk
 go_loopw [8, 9, 10] (fun iv _ _ wr => ∃ t : Nat, t ≤ 64 ∧ iv = .int .i64 t ∧ PsInv w h (sch m t) wr) (fun iv _ _ _ => 64 - (intOf iv).toNat)
 case atStart => exact ⟨0, by omega, rfl, HI0.out⟩
 case round =>
  clear HI0
  obtain ⟨t, ht, rfl, hI⟩ := hrel
  obtain ⟨wo, rfl⟩ : ∃ wo : World, wo = wr := ⟨_, rfl⟩
  have HI := Lib.hid hI
  by_cases hlt : t < 64
  ·have hd : decide ((t : Int) < 64) = true := by simp; omega
   by_cases hlo : t < 16
   ·have hdl : decide ((t : Int) < 16) = true := by simp; omega
    obtain ⟨g', o', e, -, hcell⟩ := (HS.out.below hI.below).at_ (by omega)
    obtain ⟨rfl, rfl⟩ : g = g' ∧ o = o' := by injection e with e; injection e with e1 e2; exact ⟨e1, e2⟩
    have hc0 := hcell (4 * t) (by omega)
    have hc1 := hcell (4 * t + 1) (by omega)
    have hc2 := hcell (4 * t + 2) (by omega)
    have hc3 := hcell (4 * t + 3) (by omega)
    have b0 : 4 * t < nm := by omega
    have b1 : 4 * t + 1 < nm := by omega
    have b2 : 4 * t + 2 < nm := by omega
    have b3 : 4 * t + 3 < nm := by omega
    obtain ⟨u0, u1⟩ := I_bd (m (4 * t))
    obtain ⟨u2, u3⟩ := I_bd (m (4 * t + 1))
    obtain ⟨u4, u5⟩ := I_bd (m (4 * t + 2))
    obtain ⟨u6, u7⟩ := I_bd (m (4 * t + 3))
    have hcl := hI.cell t hlt
    have hfz := zW hI.h2 t
    have HW := Lib.hid (sch_lo m t hlo)
    clear hI hcell e
    go_wp2_with fail
    refine yQ 36 (by kernel_rfl) (by kernel_rfl) (fun _ _ _ _ _ h => h) ?_
    simp only [List.take_succ_cons, List.take_zero, List.drop_succ_cons, List.drop_zero]
    repeat (go_big_quiet_step (fail))
    refine wpQuiet_nil ?_
    rintro _ ⟨nq, rfl⟩
    go_wp2_with fail
    rw [wrd_eq]
    go_roundw
    case rel => exact ⟨t + 1, by omega, by go_num, by rw [← HW.out]; exact (HI.out.set t (wrd m t)).drewN nq⟩
    case measure => simp [intOf]; omega
   ·have hdl : decide ((t : Int) < 16) = false := by simp; omega
    have HW := Lib.hid (sch_hi m t hlo)
    have c2 : ((t : Int) - 2).toNat = t - 2 := by omega
    have c7 : ((t : Int) - 7).toNat = t - 7 := by omega
    have c15 : ((t : Int) - 15).toNat = t - 15 := by omega
    have c16 : ((t : Int) - 16).toNat = t - 16 := by omega
    have f2 : t - 2 < 64 := by omega
    have f7 : t - 7 < 64 := by omega
    have f15 : t - 15 < 64 := by omega
    have f16 : t - 16 < 64 := by omega
    have d2 : (0 : Int) ≤ (t : Int) - 2 ∧ (t : Int) - 2 < 64 := by omega
    have d7 : (0 : Int) ≤ (t : Int) - 7 ∧ (t : Int) - 7 < 64 := by omega
    have d15 : (0 : Int) ≤ (t : Int) - 15 ∧ (t : Int) - 15 < 64 := by omega
    have d16 : (0 : Int) ≤ (t : Int) - 16 ∧ (t : Int) - 16 < 64 := by omega
    have k2 := hI.cell (t - 2) f2
    have k7 := hI.cell (t - 7) f7
    have k15 := hI.cell (t - 15) f15
    have k16 := hI.cell (t - 16) f16
    have hcl := hI.cell t hlt
    have hfz := zW hI.h2 t
    clear hI
    go_wp2_with fail
    refine yQ 32 (by kernel_rfl) (by kernel_rfl) (fun _ _ _ _ _ h => h) ?_
    simp only [List.take_succ_cons, List.take_zero, List.drop_succ_cons, List.drop_zero]
    iterate 4 (go_big_quiet_step (exact Calls.quiet_of (rt17 _ _)))
    iterate 2 (go_big_quiet_step (exact Calls.quiet_of (rt19 _ _)))
    iterate 12 (go_big_quiet_step (exact Calls.quiet_of (rt7 _ _)))
    iterate 2 (go_big_quiet_step (exact Calls.quiet_of (rt18 _ _)))
    repeat (go_big_quiet_step (fail))
    refine wpQuiet_nil ?_
    rintro _ ⟨nq, rfl⟩
    go_wp2_with fail
    go_roundw
    case rel => exact ⟨t + 1, by omega, by go_num, by rw [← HW.out]; exact (HI.out.set t _).drewN nq⟩
    case measure => simp [intOf]; omega
  ·obtain rfl : t = 64 := by omega
   have h0 := hI.h0
   have J0 := Lib.hid (show PtInv w h (sch m 64) wo.heap.size h (wo.alloc (.cells (wa 8 h) 136)) from
    ⟨⟨hI.below.alloc (by have := hI.below.size; omega) _, zI hI.h0 _, zI hI.h1 _, zI hI.h2 _⟩, by have := zK hI.h2; omega, zA _ _ _ _ rfl⟩)
   clear hI HI
   go_wp2_with fail
   clear h0
   obtain ⟨p, hp⟩ : ∃ p, p = wo.heap.size := ⟨_, rfl⟩
   rw [← hp] at J0 ⊢
   obtain ⟨w2, hw2⟩ : ∃ w2, w2 = wo.alloc (.cells (wa 8 h) 136) := ⟨_, rfl⟩
   rw [← hw2] at J0 ⊢
   clear hw2 hp
   go_loopw [12, 13, 14, 15, 16] (fun iv _ _ _ _ wr => ∃ t : Nat, ∃ S : Wf, t ≤ 64 ∧ S = rds kF (sch m 64) h t ∧ iv = .int .i64 t ∧ PtInv w h (sch m 64) p S wr) (fun iv _ _ _ _ _ => 64 - (intOf iv).toNat)
   case atStart => exact ⟨0, h, by omega, rfl, rfl, J0.out⟩
   case round =>
    clear J0
    obtain ⟨t, S, ht, hS, rfl, hI⟩ := hrel
    obtain ⟨wo, rfl⟩ : ∃ wo : World, wo = wr := ⟨_, rfl⟩
    have HI := Lib.hid hI
    have HSS := Lib.hid hS
    clear hS
    by_cases hlt : t < 64
    ·have hd : decide ((t : Int) < 64) = true := by simp; omega
     have k0 := hI.at_ 0 (by omega)
     have k1 := hI.at_ 1 (by omega)
     have k2 := hI.at_ 2 (by omega)
     have k3 := hI.at_ 3 (by omega)
     have k4 := hI.at_ 4 (by omega)
     have k5 := hI.at_ 5 (by omega)
     have k6 := hI.at_ 6 (by omega)
     have k7 := hI.at_ 7 (by omega)
     have kw : wo.cell? ⟨w.heap.size + 1 + 1, t, none⟩ = some (.int .u32 (M (sch m 64 t))) := by rw [zF hI.ps.2.2.2, wa_get _ _ _ hlt]
     obtain ⟨gk', ok', e, -, hcell⟩ := (HKK.out.below hI.ps.1).at_ (by omega)
     obtain ⟨rfl, rfl⟩ : gk = gk' ∧ ok = ok' := by injection e with e; injection e with e1 e2; exact ⟨e1, e2⟩
     have kk : wo.cell? ⟨gk, ok + t, none⟩ = some (.int .u32 (M (kF t))) := hcell t hlt
     have rp := hI.rp
     have hsg : IntKind.u32.signed = false := rfl
     clear hI hcell e
     go_wp2_with fail
     refine wp_region_quiet_lit (by kernel_rfl) (by kernel_rfl) ?_
     iterate 4 (go_big_quiet_step (exact Calls.quiet_of (rt6 _ _)))
     iterate 2 (go_big_quiet_step (exact Calls.quiet_of (rt11 _ _)))
     iterate 3 (go_big_quiet_step (exact Calls.quiet_of (rt25 _ _)))
     repeat (go_big_quiet_step (fail))
     refine wpQuiet_nil ?_
     rintro _ ⟨nq, rfl⟩
     try rw [M_add4]
     have hI3 := HI.out.drewN nq
     clear k0 k1 k2 k3 k4 k5 k6 k7 kw kk rp
     obtain ⟨w3, hw3⟩ : ∃ w3, w3 = wo.drewN nq := ⟨_, rfl⟩
     rw [← hw3] at hI3 ⊢
     clear hw3
     have k0 := hI3.at_ 0 (by omega)
     have k1 := hI3.at_ 1 (by omega)
     have k2 := hI3.at_ 2 (by omega)
     have k3 := hI3.at_ 3 (by omega)
     have k4 := hI3.at_ 4 (by omega)
     have k5 := hI3.at_ 5 (by omega)
     have k6 := hI3.at_ 6 (by omega)
     have rp := hI3.rp
     have HI3 := Lib.hid hI3
     clear hI3
     go_wp2_with fail
     refine wp_region_quiet_lit (by kernel_rfl) (by kernel_rfl) ?_
     iterate 2 (go_big_quiet_step (exact Calls.quiet_of (rt2 _ _)))
     iterate 2 (go_big_quiet_step (exact Calls.quiet_of (rt13 _ _)))
     iterate 3 (go_big_quiet_step (exact Calls.quiet_of (rt22 _ _)))
     repeat (go_big_quiet_step (fail))
     refine wpQuiet_nil ?_
     rintro _ ⟨nq2, rfl⟩
     go_wp2_with fail
     have HV := Lib.hid (show wa 8 (oct8 (t1F (kF t) (sch m 64 t) S + t2F S) (S 0) (S 1) (S 2) (S 3 + t1F (kF t) (sch m 64 t) S) (S 4) (S 5) (S 6)) = wa 8 (rnd (kF t) (sch m 64 t) S) from wa_ext fun i hi => oct8_eq _ _ _ _ _ _ _ _ i hi)
     go_roundw
     case rel =>
      refine ⟨t + 1, rnd (kF t) (sch m 64 t) S, by omega, by rw [HSS.out]; rfl, by go_num, ?_⟩
      have hf := (HI3.out.drewN nq2).put (rnd (kF t) (sch m 64 t) S)
      rw [← HV.out] at hf
      exact hf
     case measure => simp [intOf]; omega
    ·obtain rfl : t = 64 := by omega
     clear hI
     have HA := Lib.hid (show PtInv w h (sch m 64) p (uptoA 0 (fun k => S k + h k) S) wo by rw [uptoA_zero]; exact HI.out)
     clear HI
     go_wp2_with fail
     go_loopw [17] (fun iv wr => ∃ i : Nat, i ≤ 8 ∧ iv = .int .i64 i ∧ PtInv w h (sch m 64) p (uptoA i (fun k => S k + h k) S) wr) (fun iv _ => 8 - (intOf iv).toNat)
     case atStart => exact ⟨0, by omega, rfl, HA.out⟩
     case round =>
      clear HA
      obtain ⟨i, hi, rfl, hI⟩ := hrel
      obtain ⟨wo, rfl⟩ : ∃ wo : World, wo = wr := ⟨_, rfl⟩
      have HI := Lib.hid hI
      by_cases hli : i < 8
      ·have hdi : decide ((i : Int) < 8) = true := by simp; omega
       have kp := hI.at_ i hli
       rw [uptoA_at] at kp
       have kh : wo.cell? ⟨w.heap.size, i, none⟩ = some (.int .u32 (M (h i))) := by rw [zF hI.ps.2.1, wa_get _ _ _ hli]
       have hfz := zW hI.rp i
       have HN := Lib.hid (uptoA_step i (fun k => S k + h k) S)
       clear hI
       go_wp2_with fail
       refine yQ 9 (by kernel_rfl) (by kernel_rfl) (fun _ _ _ _ _ h => h) ?_
       simp only [List.take_succ_cons, List.take_zero, List.drop_succ_cons, List.drop_zero]
       repeat (go_big_quiet_step (fail))
       refine wpQuiet_nil ?_
       rintro _ ⟨nq, rfl⟩
       go_wp2_with fail
       go_roundw
       case rel => exact ⟨i + 1, by omega, by go_num, by rw [← HN.out]; exact (HI.out.set i _).drewN nq⟩
       case measure => simp [intOf]; omega
      ·obtain rfl : i = 8 := by omega
       have HV := Lib.hid (show wa 8 (uptoA 8 (fun k => S k + h k) S) = wa 8 (prF kF h m) from wa_ext fun k hk => by
        unfold uptoA
        rw [if_pos hk, HSS.out]
        rfl)
       have rp := hI.rp
       have r1 := hI.ps.2.2.1
       rw [HV.out] at rp
       clear hI
       go_wp2_with fail
       refine bodyPost_ret (v := .agg (wa 8 (prF kF h m))) (zS rfl _ _ (w.heap.size + 1) _ _ _ rfl (zD r1 _) s8_u (by rw [xE]; exact s8_i)) rfl ⟨rfl, ?_⟩
       exact zE HI.out.ps.1 (by omega) _
@[irreducible] def tbA (v : Value) (H : Wf) : Array Value := #[v] ++ wa 8 H
@[go_sem] theorem yH (v : Value) (H : Wf) : (tbA v H).size = 9 := by unfold tbA; rw [Array.size_append, xE]; rfl
theorem tb_get0 (v : Value) (H : Wf) : (tbA v H)[0]? = some v := by unfold tbA; rw [Array.getElem?_append_left (by simp)]; rfl
@[go_sem] theorem tb_ne (v : Value) (H : Wf) : (tbA v H = #[]) = False := eq_false fun e => by have := congrArg Array.size e; rw [yH] at this; simp at this
theorem tb_ones {A : Option Addr} {n c : Nat} (H : Wf) : Ones (tbA (.slice A n c) H) := by
 unfold Ones tbA
 rw [Array.all_append, wa_one]
 simp [Value.oneCell']
@[go_sem] theorem ldR_tb (P : Program) (t : Nat) (w : World) (b : Nat) (v : Value) (H : Wf) : ldR P t 9 w b 0 (some (tbA v H)) = .ok (.agg (tbA v H)) w := by
 unfold ldR
 simp only [yH]
 rw [if_pos (by omega)]
 congr 2
 rw [show 0 + 9 = (tbA v H).size by rw [yH], Array.extract_size]
@[go_sem] theorem ldR_tbH (P : Program) (t : Nat) (w : World) (b : Nat) (v : Value) (H : Wf) : ldR P t 8 w b 1 (some (tbA v H)) = .ok (.agg (wa 8 H)) w := by
 unfold ldR
 simp only [yH]
 rw [if_pos (by omega)]
 congr 2
 unfold tbA
 apply Array.ext_getElem?
 intro i
 rw [Array.getElem?_extract]
 by_cases hi : i < 8
 ·rw [if_pos (by simp [xE]; omega), Array.getElem?_append_right (by simp)]
  simp
 ·rw [if_neg (by simp [xE]; omega), wa_none _ _ _ hi]
@[go_sem] theorem stR_tb (P : Program) (t : Nat) (w : World) (b : Nat) (A : Option Addr) (n c : Nat) (H : Wf) (v : Value) (H' : Wf) : stR P t 9 w b 0 (.agg (tbA (.slice A n c) H)) (some (tbA v H')) = .ok () (w.setRow b (tbA (.slice A n c) H)) := by
 have e : 0 + 9 ≤ (tbA v H').size ∧ (Value.agg (tbA (.slice A n c) H)).cells.size = 9 ∧ Ones (Value.agg (tbA (.slice A n c) H)).cells := ⟨by rw [yH]; omega, yH _ _, tb_ones H⟩
 unfold stR
 simp only [if_pos e]
 congr 2
 apply Array.ext_getElem?
 intro k
 rw [xJ _ _ _ _ (by simp [yH, Value.cells])]
 simp only [Value.cells, Array.length_toList, yH, Nat.zero_le, Nat.zero_add, true_and, Nat.sub_zero, Array.getElem?_toList]
 by_cases hk : k < 9
 ·rw [if_pos hk]
 ·rw [if_neg hk, Array.getElem?_eq_none (by rw [yH]; omega), Array.getElem?_eq_none (by rw [yH]; omega)]
theorem ld_rule_d {P : Program} (t : TypeId) (d : TypeDesc) (hu : P.underlying t = some d) (hd : d.isRow = true) (m : Nat) (hi : (P.info? t).map (·.size) = some m) (w : World) (b o : Nat) :
  (ldA t (.pointer (some ⟨b, o, none⟩))).run P w = ldR P t m w b o (row w b) := by
 unfold ldR
 split
 ·rename_i c hr
  split
  ·rename_i hc
   obtain ⟨t', ht⟩ := xC hr
   have hx := run_loadAt_mid (P := P) w b o t (c.extract o (o + m)).toList _ (World.rangeAt_of_block ht o m) hu hd (by rw [hi]; simp; omega)
   rw [Array.toArray_toList] at hx
   exact hx
  ·rfl
 ·rfl
theorem tab_i : (Tryz.prog.info? 138).map (·.size) = some 9 := by kernel_rfl
@[go_sem ↓] theorem tab_l (p : Value) : Instr.loadAt 138 p = ldA 138 p := rfl
@[go_sem ↓] theorem tab_s (p v : Value) : Instr.storeAt 138 p v = stA 138 p v := rfl
theorem tab_u : ∃ d, Tryz.prog.underlying 138 = some d ∧ d.isRow = true := by
 have h : (Tryz.prog.underlying 138).map TypeDesc.isRow = some true := by kernel_rfl
 cases hq : Tryz.prog.underlying 138 with
 | none => rw [hq] at h; cases h
 | some d => rw [hq] at h; exact ⟨d, rfl, Option.some.inj h⟩
@[go_sem] theorem tab_ld (w : World) (b o : Nat) : (ldA 138 (.pointer (some ⟨b, o, none⟩))).run Tryz.prog w = ldR Tryz.prog 138 9 w b o (row w b) := by
 obtain ⟨d, hu, hd⟩ := tab_u
 exact ld_rule_d _ d hu hd 9 tab_i w b o
@[go_sem] theorem tab_st (w : World) (b o : Nat) (c : Array Value) : (stA 138 (.pointer (some ⟨b, o, none⟩)) (.agg c)).run Tryz.prog w = stR Tryz.prog 138 9 w b o (.agg c) (row w b) := yO _ 9 tab_i w b o c
theorem tab_z : (Tryz.prog.info? 138).map (·.zero) = some (some (.agg (tbA (.slice none 0 0) fun _ => 0#32))) := by unfold tbA wa; kernel_rfl
@[go_sem ↓] theorem tab_zero (w : World) : (zeroValue 138).run Tryz.prog w = .ok (.agg (tbA (.slice none 0 0) fun _ => 0#32)) w := yC _ _ tab_z w
theorem tab_lit (A : Option Addr) (n c : Nat) (H : Wf) : Array.foldl (fun cs x => cs.setIfInBounds (1 + x.2) x.1) ((tbA (.slice none 0 0) fun _ => 0#32).setIfInBounds 0 (.slice A n c)) (wa 8 H).zipIdx 0 8 = tbA (.slice A n c) H := by
 unfold tbA wa; kernel_rfl
theorem msg_more (b : Bf) (N k : Nat) : (ba k (msg b N)).toList ++ [.int .u8 (I (msg b N k))] = (ba (k + 1) (msg b N)).toList := by
 have h := cat_ba k 1 (msg b N) (fun _ => msg b N k)
 rw [← ba_1] at h
 rw [show [Value.int .u8 (I (msg b N k))] = (#[.int .u8 (I (msg b N k))] : Array Value).toList from rfl, h]
 congr 1
 refine yT fun i hi => ?_
 unfold catF
 by_cases hk : i < k
 ·rw [if_pos hk]
 ·rw [if_neg hk, show k = i by omega]
theorem msg_head (b : Bf) (N : Nat) : ba N b = ba N (msg b N) := yT fun i hi => by unfold msg; rw [if_pos hi]
theorem msg_mark (b : Bf) (N : Nat) : msg b N N = 128#8 := by unfold msg; rw [if_neg (by omega), if_pos rfl]
theorem msg_zero (b : Bf) (N k : Nat) (h1 : N < k) (h2 : k < 64 * nbk N - 8) : msg b N k = 0#8 := by unfold msg; rw [if_neg (by omega), if_neg (by omega), if_pos h2]
theorem msg_len (b : Bf) (N i : Nat) (h : i < 8) : msg b N (64 * nbk N - (i + 1)) = BitVec.ofNat 8 (8 * N / 256 ^ i) := by
 have := nbk_bd N
 unfold msg lenB
 rw [if_neg (by omega), if_neg (by omega), if_neg (by omega), show 7 - (64 * nbk N - (i + 1) - (64 * nbk N - 8)) = i by omega]
theorem msg_sl {w : World} {base k : Nat} {u : TypeId} {v : Value} {b : Bf} {N : Nat} (h : w.ownsRow base u 1 v k (ba k (msg b N)).toList) : ∃ A c, v = .slice A k c ∧ Sl w w.heap.size A k c (msg b N) ∧ c ≤ maxLen := by
 obtain ⟨A, c, e, hs, hc, _⟩ := Own.sl (show Own w base u v k (msg b N) from h)
 exact ⟨A, c, e, hs, hc⟩
theorem len_byte (N s : Nat) : (8 * (N : Int)) / (2 : Int) ^ (8 * s) % 256 = I (BitVec.ofNat 8 (8 * N / 256 ^ s)) := by
 rw [← I_ofN]
 congr 1
 rw [Int.natCast_ediv, Int.natCast_mul, show (256 : Nat) ^ s = 2 ^ (8 * s) by rw [Nat.pow_mul], Int.natCast_pow]
 rfl
theorem run_lh {P : Program} {t u : TypeId} (ht : P.underlying t = some (.slice u)) (hz : (P.info? u).map (·.size) = some 1) (A : Option Addr) (n c k m : Nat) (x y : Int) (hx : x = (k : Int)) (hy : y = ((k + m : Nat) : Int)) (hk : k + m ≤ c) (w : World) : (Instr.slice t (.slice A n c) (some (.int .i64 x)) (some (.int .i64 y)) none).run P w = .ok (.slice (cutA A c k) m (c - k)) w := by
 subst hx; subst hy
 have he : P.elem t = u := by simp [Program.elem, ht]
 rw [run_slice_lh w t A n c (by rw [he]; exact ht) .i64 .i64 (k : Int) ((k + m : Nat) : Int) (by omega) (by omega) (by omega), he, run_size1 hz, Result.andThen_ok]
 simp only [sliced, cutA, Int.toNat_natCast, Nat.add_sub_cancel_left, Nat.mul_one]
structure SmInv (w : World) (v : Value) (wr : World) : Prop where
 below : Below w.heap.size w wr
 rt : row wr w.heap.size = some (tbA v iF)
 r0 : row wr (w.heap.size + 1) = some (ba 32 fun _ => 0#8)
theorem SmInv.call {w : World} {v : Value} {wr w' : World} (h : SmInv w v wr) (hb : Below wr.heap.size wr w') : SmInv w v w' :=
 ⟨onto h.below (by have := zK h.r0; omega) hb, zC hb h.rt, zC hb h.r0⟩
theorem rsum_any (b : Bf) (N c0 cK : Nat) (A0 AK : Option Addr) (w : World) (hs : Sl w w.heap.size A0 N c0 b) (hN : N ≤ 90000) (hK : SlG w w.heap.size AK 64 cK kV) :
  Calls Tryz.prog 128 #[.agg (tbA (.slice AK 64 cK) iF), .slice A0 N c0] w fun e w' => e = .returned (.agg (ba 32 (shaF kF iF b N))) ∧ Below w.heap.size w w' := by
 have hzl : ((w.alloc (.cells (tbA (.slice AK 64 cK) iF) 138)).alloc (.cells (ba 32 fun _ => 0#8) 66)).heap.size = w.heap.size + 1 + 1 := by simp
 have I0 : SmInv w (.slice AK 64 cK) ((w.alloc (.cells (tbA (.slice AK 64 cK) iF) 138)).alloc (.cells (ba 32 fun _ => 0#8) 66)) :=
  ⟨((Below.refl _ _).alloc (by simp) _).alloc (by simp) _, by rw [row_alloc_past _ _ _ (by simp)]; exact zA _ _ _ _ rfl, zA _ _ _ _ (by simp)⟩
 have HOE0 := Own.empty ((w.alloc (.cells (tbA (.slice AK 64 cK) iF) 138)).alloc (.cells (ba 32 fun _ => 0#8) 66)) _ 5 nF (Nat.le_refl _)
 rw [hzl] at HOE0
 have HOE := Lib.hid HOE0
 have HSA := Lib.hid ((hs.below I0.below).below ((Below.refl w.heap.size _).alloc (by rw [hzl]; omega) (.cells #[] 5)))
 have HS1 := Lib.hid (hs.below I0.below)
 have HI0 := Lib.hid I0
 have HKS := Lib.hid (hK.below I0.below)
 have HZ := Lib.hid hzl
 clear I0 hs hK HOE0 hzl
 go_enter Tryz.func128, Tryz.ntmps128
 go_wp2_with (at_builtin; first | (refine yN rfl (.tmp 11) (.tmp 12) rfl zZ yG HOE.out HSA.out (by omega) (by simp <;> omega) rfl rfl ?_; intro v' w2 ho hg ht; rw [xF, Nat.zero_add] at ho; unfold Own at ho; rw [msg_head] at ho; have B2 := Lib.hid (HOE.out.after hg ((Below.refl _ _).alloc (Nat.le_refl _) _) (by simp) (Nat.le_of_eq HZ.out)); have HO2 := Lib.hid ho; clear ho hg ht) | (refine wpl_appOne rfl (.tmp 13) (.tmp 14) rfl zZ yG rfl (by decide) HO2.out rfl (by omega) (by have := B2.out.size; have := HZ.out; omega) rfl rfl ?_; intro v2 w3 ho3 hg3))
 rw [show (Value.int .u8 128) = .int .u8 (I (msg b N N)) by rw [msg_mark]; rfl] at ho3 hg3
 rw [msg_more] at ho3
 obtain ⟨w1, hw1⟩ : ∃ w1, w1 = (w.alloc (.cells (tbA (.slice AK 64 cK) iF) 138)).alloc (.cells (ba 32 fun _ => 0#8) 66) := ⟨_, rfl⟩
 rw [← hw1] at B2 HZ HI0 HS1 HKS
 rw [← HZ.out] at HO2 ho3
 clear hw1 HOE HSA
 have B3 := Lib.hid (xH (HO2.out.alloc (.cells #[.int .u8 (I (msg b N N))] 5)) hg3 (B2.out.alloc B2.out.size _) (by have := B2.out.size; simp; omega) (Nat.le_refl _))
 have HO3 := Lib.hid ho3
 clear ho3 hg3 HO2 B2
 have hnb := nbk_bd N
 go_loopw [5] (fun mv wr => ∃ k : Nat, N + 1 ≤ k ∧ k ≤ 64 * nbk N - 8 ∧ wr.ownsRow w1.heap.size 5 1 mv k (ba k (msg b N)).toList ∧ Below w1.heap.size w1 wr) (fun mv _ => 64 * nbk N - slN mv)
 case atStart => exact ⟨N + 1, by omega, by omega, HO3.out, B3.out⟩
 case round =>
  clear HO3 B3
  obtain ⟨k, hk1, hk2, hO, hB⟩ := hrel
  obtain ⟨A, c, hv, hsl, -⟩ := msg_sl hO
  subst hv
  have HO := Lib.hid hO
  have HB := Lib.hid hB
  have HSL := Lib.hid hsl
  clear hO hB hsl
  by_cases h56 : k % 64 = 56
  ·have hq : (k : Int) % 64 = 56 := by omega
   have HKK := Lib.hid (show k = 64 * nbk N - 8 by omega)
   go_wp2_with fail
   have HO5 := Lib.hid (show wr.ownsRow w1.heap.size 5 1 (.slice A k c) (64 * nbk N - 8) (ba (64 * nbk N - 8) (msg b N)).toList by have h := HO.out; rw [HKK.out] at h ⊢; exact h)
   clear HSL HO hq h56
   go_loopw [5, 6] (fun mv iv wr => ∃ i : Nat, i ≤ 8 ∧ iv = .int .i64 ((i : Int) - 1) ∧ wr.ownsRow w1.heap.size 5 1 mv (64 * nbk N - i) (ba (64 * nbk N - i) (msg b N)).toList ∧ Below w1.heap.size w1 wr) (fun _ iv _ => (intOf iv + 1).toNat)
   case atStart => exact ⟨8, by omega, rfl, HO5.out, HB.out⟩
   case round =>
    clear HO5 HB
    obtain ⟨i, hi, rfl, hO, hB⟩ := hrel
    obtain ⟨A, c, hv, hsl, -⟩ := msg_sl hO
    subst hv
    have HO := Lib.hid hO
    have HB := Lib.hid hB
    have HSL := Lib.hid hsl
    clear hO hB hsl
    rcases i with _ | s
    ·have hd : decide ((0 : Int) ≤ -1) = false := by decide
     rw [show ((0 : Nat) : Int) - 1 = (-1 : Int) from rfl]
     rw [Nat.sub_zero] at HO HSL ⊢
     obtain ⟨L, hL⟩ : ∃ L, L = 64 * nbk N := ⟨_, rfl⟩
     rw [← hL] at HO HSL ⊢
     have hI := HI0.out.call HB.out
     have rt := hI.rt
     have HJ := Lib.hid hI
     have HK5 := Lib.hid (((HKS.out.more (by have := HZ.out; omega : w.heap.size ≤ w1.heap.size)).below HB.out).more HB.out.size)
     have J0 := Lib.hid (show Below wr.heap.size wr (wr.alloc (.cells (wa 8 iF) 136)) ∧ row (wr.alloc (.cells (wa 8 iF) 136)) wr.heap.size = some (wa 8 (hst kF iF (msg b N) 0)) from ⟨(Below.refl _ _).alloc (Nat.le_refl _) _, zA _ _ _ _ rfl⟩)
     have HLL := Lib.hid hL
     have hLb : L ≤ 91000 := by omega
     have hws : w.heap.size + 1 < wr.heap.size := zK hI.r0
     clear hI hL hd HO
     go_wp2_with fail
     clear rt
     obtain ⟨w6, hw6⟩ : ∃ w6, w6 = wr.alloc (.cells (wa 8 iF) 136) := ⟨_, rfl⟩
     rw [← hw6] at J0 ⊢
     clear hw6
     obtain ⟨w5, hw5⟩ : ∃ w5, w5 = wr := ⟨_, rfl⟩
     rw [← hw5] at J0 HJ HK5 HSL HB hws ⊢
     clear hw5
     go_loopw [8] (fun iv wq => ∃ j i : Nat, i = 64 * j ∧ i ≤ L ∧ iv = .int .i64 i ∧ Below w5.heap.size w5 wq ∧ row wq w5.heap.size = some (wa 8 (hst kF iF (msg b N) j))) (fun iv _ => L - (intOf iv).toNat)
     case atStart => exact ⟨0, 0, rfl, by omega, rfl, J0.out.1, J0.out.2⟩
     case round =>
      clear J0
      obtain ⟨j, i, hij, hiL, rfl, hb5, rp⟩ := hrel
      obtain ⟨wq, rfl⟩ : ∃ wq : World, wq = wr := ⟨_, rfl⟩
      have HIJ := Lib.hid hij
      have HB5 := Lib.hid hb5
      have hJq := HJ.out.call hb5
      have HJq := Lib.hid hJq
      obtain ⟨S, hS⟩ : ∃ S, S = hst kF iF (msg b N) j := ⟨_, rfl⟩
      rw [← hS] at rp
      have HSS := Lib.hid hS
      have hps : w5.heap.size < wq.heap.size := zK rp
      clear hS hij
      by_cases hlt2 : i < L
      ·have hd : decide ((i : Int) < (L : Int)) = true := by simp; omega
       have hiL2 : i + 64 ≤ L := by have := HLL.out; have := HIJ.out; omega
       have hlh := run_lh zZ u8_i A L c i 64 (i : Int) ((i : Int) + 64) rfl (by omega) (by have := HSL.out.le; omega)
       have kt : wq.cell? ⟨w.heap.size, 0, none⟩ = some (.slice AK 64 cK) := by rw [zF hJq.rt, tb_get0]
       have HSX := Lib.hid (((HSL.out.below hb5).from_ i (by omega)).upto 64 (by omega))
       clear hJq hb5
       go_wp2_with fail
       refine yQ 8 (by kernel_rfl) (by kernel_rfl) (fun _ _ _ _ _ h => h) ?_
       simp only [List.take_succ_cons, List.take_zero, List.drop_succ_cons, List.drop_zero]
       repeat (go_big_quiet_step (fail))
       refine wpQuiet_nil ?_
       rintro _ ⟨nq, rfl⟩
       clear hlh kt
       go_wp2_with fail
       refine (presses_any S (offF (msg b N) i) (c - i) 0 cK _ _ 64 _ ((HSX.out.drewN nq).more (by simp; omega)) (Nat.le_refl _) (((HK5.out.below HB5.out).drewN nq).more (by simp; omega))).mono ?_
       rintro e w7 ⟨rfl, hb7⟩
       have hbx := (zL (Below.refl wq.heap.size wq) nq).trans hb7
       have rp7 := zC hb7 (by rw [zQ]; exact rp)
       have b7 := Lib.hid (zE (onto HB5.out HB5.out.size hbx) (Nat.le_refl _) (wa 8 (hst kF iF (msg b N) (j + 1))))
       have r7 := Lib.hid (zD rp7 (wa 8 (hst kF iF (msg b N) (j + 1))))
       have HV := Lib.hid (show prF kF S (offF (msg b N) i) = hst kF iF (msg b N) (j + 1) by rw [HSS.out, HIJ.out]; rfl)
       clear hb7 hbx rp
       go_wp2_with fail
       rw [HV.out]
       go_roundw
       case rel => exact ⟨j + 1, i + 64, by have := HIJ.out; omega, hiL2, by go_num, b7.out, r7.out⟩
       case measure => simp [intOf]; omega
      ·have hd : decide ((i : Int) < (L : Int)) = false := by simp; omega
       have hjn : j = nbk N := by have := HLL.out; have := HIJ.out; omega
       have RP := Lib.hid rp
       clear rp hJq hb5
       go_wp2_with fail
       go_loopw [10] (fun kv wz => ∃ k : Nat, k ≤ 32 ∧ kv = .int .i64 k ∧ wz = wq.alloc (.cells (ba 32 (upto k (outF S) fun _ => 0#8)) 66)) (fun kv _ => 32 - (intOf kv).toNat)
       case atStart => exact ⟨0, by omega, rfl, by rw [yI]⟩
       case round =>
        obtain ⟨k, hk, rfl, rfl⟩ := hrel
        by_cases hlk : k < 32
        ·have hdk : decide ((k : Int) < 32) = true := by simp; omega
         have hc : wq.cell? ⟨w5.heap.size, k / 4, none⟩ = some (.int .u32 (M (S (k / 4)))) := by rw [zF RP.out, wa_get _ _ _ (by omega)]
         obtain ⟨s0, hs0⟩ : ∃ s0, s0 = 24 - 8 * (k % 4) := ⟨_, rfl⟩
         have hs1 : (24 : Int) - 8 * ((k : Int) % 4) = (s0 : Int) := by omega
         have hby : M (S (k / 4) >>> s0) % 256 = I (outF S k) := by
          unfold outF
          rw [← hs0]
          unfold M I
          rw [BitVec.toNat_setWidth]
          omega
         have hk4 : k / 4 < 8 := by omega
         have HST := Lib.hid (yK k (outF S) fun _ => 0#8)
         clear hs0
         go_wp2_with fail
         go_roundw
         case rel => exact ⟨k + 1, by omega, by go_num, by rw [HST.out]⟩
         case measure => simp [intOf]; omega
        ·obtain rfl : k = 32 := by omega
         rw [yP]
         obtain ⟨D, hD⟩ : ∃ D, D = outF S := ⟨_, rfl⟩
         rw [← hD]
         have HD := Lib.hid (show D = shaF kF iF b N by rw [hD, HSS.out, hjn]; rfl)
         have r0 := zI HJq.out.r0 (.cells (ba 32 D) 66)
         have B9 := Lib.hid (HJq.out.below.alloc (by omega) (.cells (ba 32 D) 66))
         clear hD hps
         have hws2 : w.heap.size + 1 < wq.heap.size := zK HJq.out.r0
         go_wp2_with fail
         refine bodyPost_ret (v := .agg (ba 32 D)) (zS rfl _ _ (w.heap.size + 1) _ _ _ rfl (zI (zD HJq.out.r0 (ba 32 D)) _) sum_u (by rw [zG]; exact sum_i)) rfl ⟨by rw [HD.out], ?_⟩
         exact (zE HJq.out.below (by omega) _).alloc (by simp; omega) _
    ·rw [show ((s + 1 : Nat) : Int) - 1 = (s : Int) by omega]
     have hd : decide ((0 : Int) ≤ (s : Int)) = true := by simp
     have hkb : 64 * nbk N - (s + 1) ≤ 91000 := by omega
     have hk1 : 64 * nbk N - (s + 1) + 1 = 64 * nbk N - s := by omega
     have hml := Lib.hid (msg_len b N s (by omega))
     obtain ⟨K, hK⟩ : ∃ K, K = 64 * nbk N - (s + 1) := ⟨_, rfl⟩
     rw [← hK] at HO HSL hkb hk1 hml ⊢
     clear hK
     have hs8 : s ≤ 7 := by omega
     go_wp2_with (at_builtin; refine wpl_appOne rfl (.tmp 27) (.tmp 35) rfl zZ yG rfl (by decide) HO.out rfl (by omega) HB.out.size rfl rfl ?_; intro v4 w4 ho4 hg4)
     rw [len_byte, ← hml.out] at ho4 hg4
     rw [msg_more] at ho4
     have B4 := Lib.hid (xH (HO.out.alloc (.cells #[.int .u8 (I (msg b N K))] 5)) hg4 (HB.out.alloc HB.out.size _) (by have := HB.out.size; simp; omega) (Nat.le_refl _))
     rw [hk1] at ho4
     have HO4 := Lib.hid ho4
     obtain ⟨A', c', hv', -, -⟩ := msg_sl ho4
     subst hv'
     clear ho4 hg4
     go_wp2_with fail
     go_roundw
     case rel => exact ⟨s, by omega, rfl, HO4.out, B4.out⟩
     case measure => simp [intOf]
  ·have hq : ¬ (k : Int) % 64 = 56 := by omega
   go_wp2_with (at_builtin; refine wpl_appOne rfl (.tmp 20) (.tmp 21) rfl zZ yG rfl (by decide) HO.out rfl (by omega) HB.out.size rfl rfl ?_; intro v4 w4 ho4 hg4)
   rw [show (Value.int .u8 0) = .int .u8 (I (msg b N k)) by rw [msg_zero b N k (by omega) (by omega)]; rfl] at ho4 hg4
   rw [msg_more] at ho4
   have B4 := Lib.hid (xH (HO.out.alloc (.cells #[.int .u8 (I (msg b N k))] 5)) hg4 (HB.out.alloc HB.out.size _) (by have := HB.out.size; simp; omega) (Nat.le_refl _))
   have HO4 := Lib.hid ho4
   obtain ⟨A', c', hv', -, -⟩ := msg_sl ho4
   subst hv'
   clear ho4 hg4
   go_wp2_with fail
   go_roundw
   case rel => exact ⟨k + 1, by omega, by omega, HO4.out, B4.out⟩
   case measure => simp only [slN]; omega
end Go.Proofs.YteffjpdcghlnlaaGreatDoor.Oct
