/- Contracts of the reference's times, above and root. -/
import Derived.Test.YtjebkokkgkkogaaDoorShaA
import Derived.Test.YtjebkokkgkkogaaDoorDig
import Derived.StillTailTactics
namespace Go.Proofs.YtjebkokkgkkogaaDoor.Oct
open Go.ChangeShapes Go.WideShapes Go.ChangeAt Go.RowKit
set_option linter.unusedVariables false

/-- the world of times: the product so far is O -/
def tmW (w : World) (a b O : Nf) : World := (((w.alloc (.cells (qa 8 a) 59)).alloc (.cells (qa 4 b) 56)).alloc (.cells (qa 12 fun _ => 0) 57)).alloc (.cells (qa 12 O) 57)
/-- what is known of the product once i digits of a, and k of b for the next one, are done -/
structure TmInv (a b : Nf) (i k r : Nat) (O : Nf) : Prop where
  lt : ∀ j, j < 12 → O j < 65536
  rl : r < 65536
  zero : ∀ j, i + 4 ≤ j → j < 12 → O j = 0
  sum : dv 12 O + r * 65536 ^ (i + k) = dv i a * dv 4 b + a i * 65536 ^ i * dv k b
theorem TmInv.step {a b : Nf} {i k r : Nat} {O : Nf} (h : TmInv a b i k r O) (ha : ∀ j, j < 8 → a j < 65536) (hb : ∀ j, j < 4 → b j < 65536) (hi : i < 8) (hk : k < 4) :
    TmInv a b i (k + 1) ((r + O (i + k) + a i * b k) / 65536) (updA O (i + k) ((r + O (i + k) + a i * b k) % 65536)) := by
  have hl := rest_lt r (O (i + k)) (a i) (b k) h.rl (h.lt _ (by omega)) (ha i hi) (hb k hk)
  refine ⟨fun j hj => ?_, by omega, fun j h1 h2 => ?_, dv_step O a b i k r _ (by omega) h.sum⟩
  · unfold updA; split
    · exact Nat.mod_lt _ (by omega)
    · exact h.lt j hj
  · unfold updA; rw [if_neg (by omega)]; exact h.zero j h1 h2
theorem TmInv.next {a b : Nf} {i r : Nat} {O : Nf} (h : TmInv a b i 4 r O) (hi : i < 8) : TmInv a b (i + 1) 0 0 (updA O (i + 4) r) := by
  refine ⟨fun j hj => ?_, by omega, fun j h1 h2 => ?_, ?_⟩
  · unfold updA; split
    · exact h.rl
    · exact h.lt j hj
  · unfold updA; rw [if_neg (by omega)]; exact h.zero j (by omega) h2
  · have h1 := dv_upd O (i + 4) r 12 (by omega)
    rw [h.zero (i + 4) (by omega) (by omega)] at h1
    have h2 := h.sum
    rw [show dv (i + 1) a = dv i a + a i * 65536 ^ i from rfl, show dv 0 b = 0 from rfl, Nat.add_mul, Nat.mul_zero, Nat.zero_mul]
    generalize dv 12 O = v at h1 h2 ⊢
    generalize dv 12 (updA O (i + 4) r) = v' at h1 ⊢
    omega

set_option maxRecDepth 20000 in
set_option maxHeartbeats 4000000 in
theorem times_any (a b : Nf) (ha : ∀ j, j < 8 → a j < 65536) (hb : ∀ j, j < 4 → b j < 65536) (w : World) :
    Calls Tryd.prog 35 #[.agg (qa 8 a), .agg (qa 4 b)] w fun e w' => e = .returned (.agg (qa 12 (dg (dv 8 a * dv 4 b)))) ∧ Below w.heap.size w w' := by
  have HA := Lib.hid ha
  have HB := Lib.hid hb
  clear ha hb
  go_enter Tryd.func35, Tryd.ntmps35
  go_wp2_with fail
  go_loopw [6, 7, 8] (fun iv _ _ wr => ∃ i m : Nat, ∃ O : Nf, i ≤ 8 ∧ iv = .int .i64 i ∧ TmInv a b i 0 0 O ∧ wr = ((((w.alloc (.cells (qa 8 a) 59)).alloc (.cells (qa 4 b) 56)).alloc (.cells (qa 12 fun _ => 0) 57)).alloc (.cells (qa 12 O) 57)).drewN m) (fun iv _ _ _ => 8 - (intOf iv).toNat)
  case atStart => exact ⟨0, 0, fun _ => 0, by omega, rfl, ⟨fun _ _ => by omega, by omega, fun _ _ _ => rfl, by rw [dv_zero]; simp [dv]⟩, rfl⟩
  case round =>
    obtain ⟨i, m, O, hi, rfl, hI, rfl⟩ := hrel
    have HI := Lib.hid hI
    clear hI
    by_cases hlt : i < 8
    · have hd : decide ((i : Int) < 8) = true := by simp; omega
      go_wp2_with fail
      go_loopw [7, 8] (fun rv kv wr => ∃ k r m : Nat, ∃ O : Nf, k ≤ 4 ∧ kv = .int .i64 k ∧ rv = .int .u64 r ∧ TmInv a b i k r O ∧ wr = ((((w.alloc (.cells (qa 8 a) 59)).alloc (.cells (qa 4 b) 56)).alloc (.cells (qa 12 fun _ => 0) 57)).alloc (.cells (qa 12 O) 57)).drewN m) (fun _ kv _ => 4 - (intOf kv).toNat)
      case atStart => exact ⟨0, 0, m, O, by omega, rfl, rfl, HI.out, rfl⟩
      case round =>
        clear HI
        obtain ⟨k, r, m, O, hk, rfl, rfl, hI, rfl⟩ := hrel
        have HI := Lib.hid hI
        by_cases hlk : k < 4
        · have hdk : decide ((k : Int) < 4) = true := by simp; omega
          have hb12 : i + k < 12 := by omega
          have hl := rest_lt r (O (i + k)) (a i) (b k) hI.rl (hI.lt _ (by omega)) (HA.out i hlt) (HB.out k hlk)
          have hr := hI.rl
          have ho := hI.lt (i + k) hb12
          have HN := Lib.hid (hI.step HA.out HB.out hlt hlk)
          obtain ⟨P, hP⟩ : ∃ P, P = a i * b k := ⟨_, rfl⟩
          have hP2 : ((a i : Nat) : Int) * ((b k : Nat) : Int) = (P : Int) := by rw [hP, Int.natCast_mul]
          obtain ⟨s, hs⟩ : ∃ s, s = r + O (i + k) + P := ⟨_, rfl⟩
          obtain ⟨x, hx⟩ : ∃ x, x = s % 65536 := ⟨_, rfl⟩
          obtain ⟨y, hy⟩ : ∃ y, y = s / 65536 := ⟨_, rfl⟩
          rw [← hP, ← hs, ← hx, ← hy] at HN
          rw [← hP, ← hs] at hl
          have hs2 : (r : Int) + ((O (i + k) : Nat) : Int) + (P : Int) = (s : Int) := by omega
          have hx2 : (s : Int) % 65536 = (x : Int) := by omega
          have hy2 : (s : Int) / 65536 = (y : Int) := by omega
          have hPb : P < 4294967296 := by omega
          clear hx hy hs hP hI HI
          go_wp2_with fail
          go_quiet (fail)
          go_wp2_with fail
          go_roundw
          case rel => exact ⟨k + 1, y, _, _, by omega, by go_num, rfl, HN.out, rfl⟩
          case measure => simp [intOf]; omega
        · obtain rfl : k = 4 := by omega
          have HN := Lib.hid (hI.next hlt)
          have hb4 : i + 4 < 12 := by omega
          clear hI HI
          go_wp2_with fail
          go_roundw
          case rel => exact ⟨i + 1, _, _, by omega, by go_num, HN.out, rfl⟩
          case measure => simp [intOf]; omega
    · obtain rfl : i = 8 := by omega
      have HV := Lib.hid (show qa 12 O = qa 12 (dg (dv 8 a * dv 4 b)) from qa_ext fun j hj => by
        rw [← dg_dv 12 HI.out.lt j hj]
        have h2 := HI.out.sum
        rw [show dv 0 b = 0 from rfl, Nat.mul_zero, Nat.zero_mul, Nat.add_zero, Nat.add_zero] at h2
        rw [h2])
      rw [HV.out]
      go_wp2_with fail
      refine bodyPost_ret (v := .agg (qa 12 (dg (dv 8 a * dv 4 b)))) (res_row rfl _ _ (w.heap.size + 1 + 1) _ _ _ rfl (by simp [go_sem]) q12_u (by rw [qa_size]; exact q12_i)) rfl ⟨rfl, ?_⟩
      exact below_drewN (((((Below.refl _ _).alloc (by simp) _).alloc (by simp) _).alloc (by simp; omega) _).alloc (by simp; omega) _) _

/-- the digits of x, as the eight words that 'above' builds -/
theorem dg_lit4 (x : Nat) (hx : x < 18446744073709551616) : qa 4 (updA (updA (updA (updA (fun _ => 0) 0 (x % 65536)) 1 (x / 65536 % 65536)) 2 (x / 4294967296 % 65536)) 3 (x / 281474976710656)) = qa 4 (dg x) := qa_ext fun i hi => by
  match i, hi with
  | 0, _ => show x % 65536 = x / 65536 ^ 0 % 65536; rw [Nat.pow_zero, Nat.div_one]
  | 1, _ => rfl
  | 2, _ => rfl
  | 3, _ => show x / 281474976710656 = x / 281474976710656 % 65536; omega
theorem dg_hi (x n i : Nat) (h : x < 65536 ^ n) (hi : n ≤ i) : dg x i = 0 := by
  unfold dg
  rw [Nat.div_eq_of_lt (Nat.lt_of_lt_of_le h (Nat.pow_le_pow_right (by omega) hi))]
def up4 (f : Nf) : Nf := updA (updA (updA (updA (fun _ => 0) 0 (f 0)) 1 (f 1)) 2 (f 2)) 3 (f 3)
def up8 (f : Nf) : Nf := updA (updA (updA (updA (updA (updA (updA (updA (fun _ => 0) 0 (f 0)) 1 (f 1)) 2 (f 2)) 3 (f 3)) 4 (f 4)) 5 (f 5)) 6 (f 6)) 7 (f 7)
theorem up4_8 (x : Nat) (h : x < 65536 ^ 4) (i : Nat) (hi : i < 8) : up4 (dg x) i = dg x i := by
  match i, hi with
  | 0, _ => rfl
  | 1, _ => rfl
  | 2, _ => rfl
  | 3, _ => rfl
  | 4, _ => exact (dg_hi x 4 4 h (by omega)).symm
  | 5, _ => exact (dg_hi x 4 5 h (by omega)).symm
  | 6, _ => exact (dg_hi x 4 6 h (by omega)).symm
  | 7, _ => exact (dg_hi x 4 7 h (by omega)).symm
theorem up8_8 (f : Nf) (i : Nat) (hi : i < 8) : up8 f i = f i := by
  match i, hi with
  | 0, _ => rfl
  | 1, _ => rfl
  | 2, _ => rfl
  | 3, _ => rfl
  | 4, _ => rfl
  | 5, _ => rfl
  | 6, _ => rfl
  | 7, _ => rfl
theorem times_dg (x y : Nat) (f g : Nf) (hf : ∀ i, i < 8 → f i = dg x i) (hg : ∀ i, i < 4 → g i = dg y i) (hx : x < 65536 ^ 8) (hy : y < 65536 ^ 4) (w : World) :
    Calls Tryd.prog 35 #[.agg (qa 8 f), .agg (qa 4 g)] w fun e w' => e = .returned (.agg (qa 12 (dg (x * y)))) ∧ Below w.heap.size w w' := by
  have e1 : dv 8 f = x := by rw [dv_congr 8 hf, dv_dg, Nat.mod_eq_of_lt hx]
  have e2 : dv 4 g = y := by rw [dv_congr 4 hg, dv_dg, Nat.mod_eq_of_lt hy]
  have h := times_any f g (fun j hj => by rw [hf j hj]; exact dg_lt _ _) (fun j hj => by rw [hg j hj]; exact dg_lt _ _) w
  rw [e1, e2] at h
  exact h
end Go.Proofs.YtjebkokkgkkogaaDoor.Oct
