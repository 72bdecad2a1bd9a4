/- Contracts of block's small functions, and the reference's: Xor, Next, one bit. -/
import Derived.Test.YtokhldihfbaeoaaTyK
import Derived.Test.YtokhldihfbaeoaaBlkMath
import Derived.WalkKit
import Derived.ProofKit
import Derived.Lib.Hide
import Derived.Outline
import Derived.BigQuiet
import Derived.Deep.QuietTactic
import Derived.OwnWalk
namespace Go.Proofs.Ytokhldihfbaeoaa.Oct
open Go.ChangeShapes Go.WideShapes Go.ChangeAt Go.RowKit

set_option maxHeartbeats 400000 in
theorem bxor_any (f g : Bf) (w : World) :
    Calls Try.prog 21 #[.agg (ba 16 f), .agg (ba 16 g)] w fun e w' => e = .returned (.agg (ba 16 (xorF f g))) ∧ Below w.heap.size w w' := by
  go_enter Try.func21, Try.ntmps21
  go_wp2
  go_loopw [5, 6] (fun _ i wr => ∃ k : Nat, k ≤ 16 ∧ i = .int .i64 k ∧ ∃ n, wr = (((w.alloc (.cells (ba 16 (upto k (xorF f g) f)) 35)).alloc (.cells (ba 16 g) 35)).alloc (.cells (ba 16 fun _ => 0#8) 35)).drewN n) (fun _ i _ => 16 - (intOf i).toNat)
  case atStart =>
    refine ⟨0, by omega, rfl, 0, ?_⟩
    rw [upto_zero]; rfl
  case round =>
    obtain ⟨k, hk, rfl, n, rfl⟩ := hrel
    by_cases hlt : k < 16
    · have H := Lib.hid (upto_step k (xorF f g) f)
      go_wp2
      refine quiet_tail 8 (by kernel_rfl) (by kernel_rfl) (fun _ _ _ _ _ h => h) ?_
      simp only [List.take_succ_cons, List.take_zero, List.drop_succ_cons, List.drop_zero]
      repeat (go_big_quiet_step (fail))
      refine wpQuiet_nil ?_
      rintro _ ⟨m, rfl⟩
      go_wp2
      go_roundw
      case rel => exact ⟨k + 1, by omega, by go_num, n + m, by rw [← H.out]; rfl⟩
      case measure => simp [intOf]; omega
    · obtain rfl : k = 16 := by omega
      rw [upto_all]
      go_wp2
      refine bodyPost_ret (v := .agg (ba 16 (xorF f g))) (res_row rfl _ _ (w.heap.size + 1 + 1) _ _ _ rfl (by simp [go_sem]) blk_u (by rw [ba_size]; exact blk_i)) rfl ⟨rfl, ?_⟩
      exact below_drewN ((((Below.refl _ _).alloc (by simp) _).alloc (by simp) _).alloc (by simp; omega) _) _

set_option maxHeartbeats 400000 in
theorem rbxor_any (f g : Bf) (w : World) :
    Calls Try.prog 35 #[.agg (ba 16 f), .agg (ba 16 g)] w fun e w' => e = .returned (.agg (ba 16 (xorF f g))) ∧ Below w.heap.size w w' := by
  go_enter Try.func35, Try.ntmps35
  go_wp2
  go_loopw [5] (fun i wr => ∃ k : Nat, k ≤ 16 ∧ i = .int .i64 k ∧ ∃ n, wr = (((w.alloc (.cells (ba 16 (upto k (xorF f g) f)) 35)).alloc (.cells (ba 16 g) 35)).alloc (.cells (ba 16 fun _ => 0#8) 35)).drewN n) (fun i _ => 16 - (intOf i).toNat)
  case atStart =>
    refine ⟨0, by omega, rfl, 0, ?_⟩
    rw [upto_zero]; rfl
  case round =>
    obtain ⟨k, hk, rfl, n, rfl⟩ := hrel
    by_cases hlt : k < 16
    · have H := Lib.hid (upto_step k (xorF f g) f)
      go_wp2
      refine quiet_tail 9 (by kernel_rfl) (by kernel_rfl) (fun _ _ _ _ _ h => h) ?_
      simp only [List.take_succ_cons, List.take_zero, List.drop_succ_cons, List.drop_zero]
      repeat (go_big_quiet_step (fail))
      refine wpQuiet_nil ?_
      rintro _ ⟨m, rfl⟩
      go_wp2
      go_roundw
      case rel => exact ⟨k + 1, by omega, by go_num, n + m, by rw [← H.out]; rfl⟩
      case measure => simp [intOf]; omega
    · obtain rfl : k = 16 := by omega
      rw [upto_all]
      go_wp2
      refine bodyPost_ret (v := .agg (ba 16 (xorF f g))) (res_row rfl _ _ (w.heap.size + 1 + 1) _ _ _ rfl (by simp [go_sem]) blk_u (by rw [ba_size]; exact blk_i)) rfl ⟨rfl, ?_⟩
      exact below_drewN ((((Below.refl _ _).alloc (by simp) _).alloc (by simp) _).alloc (by simp; omega) _) _

/- one bit -/
def b1 (c : Bool) : BitVec 8 := if c then 1#8 else 0#8
theorem bit_val : ∀ (k : Fin 8) (b : BitVec 8), bits .and .u8 (I b / 2 ^ k.val) 1 = I (b1 (b.getLsbD k.val)) := by decide +kernel
set_option maxHeartbeats 400000 in
theorem coef_any (f : Bf) (k : Nat) (hk : k < 128) (w : World) :
    Calls Try.prog 57 #[.agg (ba 16 f), .int .i64 k] w fun e w' => e = .returned (.int .u8 (I (b1 (fbit f k)))) ∧ Below w.heap.size w w' := by
  have h8 : k / 8 < 16 := by omega
  obtain ⟨hb0, hb1⟩ := I_bd (f (k / 8))
  go_enter Try.func57, Try.ntmps57
  go_wp2
  go_ret
  refine ⟨ret_u8 ?_, (Below.refl _ _).alloc (by simp) _⟩
  exact bit_val ⟨7 - k % 8, by omega⟩ (f (k / 8))
set_option maxHeartbeats 400000 in
theorem rbit_any (f : Bf) (k : Nat) (hk : k < 128) (w : World) :
    Calls Try.prog 60 #[.agg (ba 16 f), .int .i64 k] w fun e w' => e = .returned (.int .u8 (I (b1 (fbit f k)))) ∧ Below w.heap.size w w' := by
  have h8 : k / 8 < 16 := by omega
  obtain ⟨hb0, hb1⟩ := I_bd (f (k / 8))
  go_enter Try.func60, Try.ntmps60
  go_wp2
  go_ret
  refine ⟨ret_u8 ?_, (Below.refl _ _).alloc (by simp) _⟩
  exact bit_val ⟨7 - k % 8, by omega⟩ (f (k / 8))

/- the next one -/
def nxF : Nat → Bf → Bf
  | 0, f => f
  | n + 1, f => if f (12 + n) + 1#8 = 0#8 then nxF n (upd f (12 + n) (f (12 + n) + 1#8)) else upd f (12 + n) (f (12 + n) + 1#8)
def nextF (f : Bf) : Bf := nxF 4 f
theorem nxF_low (n : Nat) (f : Bf) (i : Nat) (hi : i < 12) : nxF n f i = f i := by
  induction n generalizing f with
  | zero => rfl
  | succ n ih =>
    unfold nxF
    split
    · rw [ih]; unfold upd; rw [if_neg (by omega)]
    · unfold upd; rw [if_neg (by omega)]
theorem nextF_low (f : Bf) (i : Nat) (hi : i < 12) : nextF f i = f i := nxF_low 4 f i hi
theorem I_inc : ∀ a : BitVec 8, (I a + 1) % 256 = I (a + 1#8) := by decide +kernel
theorem I_nz : ∀ v : BitVec 8, v ≠ 0#8 → (I v != 0) = true := by decide +kernel
@[go_sem] theorem upd_same (f : Bf) (k : Nat) (v : BitVec 8) : upd f k v k = v := by simp [upd]
theorem nxF_stop {n : Nat} {g : Bf} {v : BitVec 8} (hv : v = g (12 + n) + 1#8) (h : v ≠ 0#8) : nxF (n + 1) g = upd g (12 + n) v := by
  subst hv; unfold nxF; rw [if_neg h]
theorem nxF_on {n : Nat} {g : Bf} {v : BitVec 8} (hv : v = g (12 + n) + 1#8) (h : v = 0#8) : nxF (n + 1) g = nxF n (upd g (12 + n) v) := by
  subst hv; conv => lhs; unfold nxF
  rw [if_pos h]
set_option maxHeartbeats 400000 in
theorem bnext_any (f : Bf) (w : World) :
    Calls Try.prog 23 #[.agg (ba 16 f)] w fun e w' => e = .returned (.agg (ba 16 (nextF f))) ∧ Below w.heap.size w w' := by
  go_enter Try.func23, Try.ntmps23
  go_wp2
  go_loopw [3] (fun i wr => ∃ n : Nat, ∃ g : Bf, n ≤ 4 ∧ i = .int .i64 (11 + (n : Int)) ∧ nxF n g = nextF f ∧ wr = (w.alloc (.cells (ba 16 g) 35)).alloc (.cells (ba 16 fun _ => 0#8) 35)) (fun i _ => (intOf i).toNat)
  case atStart => exact ⟨4, f, by omega, rfl, rfl, rfl⟩
  case round =>
    obtain ⟨n, g, hn, rfl, hg, rfl⟩ := hrel
    have HG := Lib.hid hg
    clear hg
    rcases n with _ | n
    · go_wp2
      have e := HG.out
      unfold nxF at e
      rw [e]
      refine bodyPost_ret (v := .agg (ba 16 (nextF f))) (res_row rfl _ _ (w.heap.size + 1) _ _ _ rfl (by simp [go_sem]) blk_u (by rw [ba_size]; exact blk_i)) rfl ⟨rfl, ?_⟩
      exact ((Below.refl _ _).alloc (by simp) _).alloc (by simp) _
    · have e1 : (11 + ((n + 1 : Nat) : Int)) = 12 + (n : Int) := by omega
      rw [e1]
      obtain ⟨hb0, hb1⟩ := I_bd (g (12 + n))
      obtain ⟨v, hv⟩ : ∃ v, v = g (12 + n) + 1#8 := ⟨_, rfl⟩
      have hi := I_inc (g (12 + n))
      rw [← hv] at hi
      have HV := Lib.hid hv
      have b16 : 12 + n < 16 := by omega
      have b12 : (12 : Int) ≤ 12 + (n : Int) := by omega
      clear hv e1
      by_cases hz : v = 0#8
      · have q1 : (I v != 0) = false := by rw [hz]; rfl
        have HZ := Lib.hid hz
        clear hz
        go_wp2
        go_roundw
        case rel => exact ⟨n, _, by omega, by congr 1; omega, by rw [← HG.out, nxF_on HV.out HZ.out], rfl⟩
        case measure => simp [intOf]; omega
      · have q1 : (I v != 0) = true := I_nz v hz
        have HN := Lib.hid hz
        clear hz
        go_wp2
        rw [← nxF_stop HV.out HN.out, HG.out]
        refine bodyPost_ret (v := .agg (ba 16 (nextF f))) (res_row rfl _ _ (w.heap.size + 1) _ _ _ rfl (by simp [go_sem]) blk_u (by rw [ba_size]; exact blk_i)) rfl ⟨rfl, ?_⟩
        exact ((Below.refl _ _).alloc (by simp) _).alloc (by simp) _
set_option maxHeartbeats 400000 in
theorem rbnext_any (f : Bf) (w : World) :
    Calls Try.prog 28 #[.agg (ba 16 f)] w fun e w' => e = .returned (.agg (ba 16 (nextF f))) ∧ Below w.heap.size w w' := by
  go_enter Try.func28, Try.ntmps28
  go_wp2
  go_loopw [3] (fun i wr => ∃ n : Nat, ∃ g : Bf, n ≤ 4 ∧ i = .int .i64 (11 + (n : Int)) ∧ nxF n g = nextF f ∧ wr = (w.alloc (.cells (ba 16 g) 35)).alloc (.cells (ba 16 fun _ => 0#8) 35)) (fun i _ => (intOf i).toNat)
  case atStart => exact ⟨4, f, by omega, rfl, rfl, rfl⟩
  case round =>
    obtain ⟨n, g, hn, rfl, hg, rfl⟩ := hrel
    have HG := Lib.hid hg
    clear hg
    rcases n with _ | n
    · go_wp2
      have e := HG.out
      unfold nxF at e
      rw [e]
      refine bodyPost_ret (v := .agg (ba 16 (nextF f))) (res_row rfl _ _ (w.heap.size + 1) _ _ _ rfl (by simp [go_sem]) blk_u (by rw [ba_size]; exact blk_i)) rfl ⟨rfl, ?_⟩
      exact ((Below.refl _ _).alloc (by simp) _).alloc (by simp) _
    · have e1 : (11 + ((n + 1 : Nat) : Int)) = 12 + (n : Int) := by omega
      rw [e1]
      obtain ⟨hb0, hb1⟩ := I_bd (g (12 + n))
      obtain ⟨v, hv⟩ : ∃ v, v = g (12 + n) + 1#8 := ⟨_, rfl⟩
      have hi := I_inc (g (12 + n))
      rw [← hv] at hi
      have HV := Lib.hid hv
      have b16 : 12 + n < 16 := by omega
      have b12 : (12 : Int) ≤ 12 + (n : Int) := by omega
      clear hv e1
      by_cases hz : v = 0#8
      · have q1 : (I v != 0) = false := by rw [hz]; rfl
        have HZ := Lib.hid hz
        clear hz
        go_wp2
        go_roundw
        case rel => exact ⟨n, _, by omega, by congr 1; omega, by rw [← HG.out, nxF_on HV.out HZ.out], rfl⟩
        case measure => simp [intOf]; omega
      · have q1 : (I v != 0) = true := I_nz v hz
        have HN := Lib.hid hz
        clear hz
        go_wp2
        rw [← nxF_stop HV.out HN.out, HG.out]
        refine bodyPost_ret (v := .agg (ba 16 (nextF f))) (res_row rfl _ _ (w.heap.size + 1) _ _ _ rfl (by simp [go_sem]) blk_u (by rw [ba_size]; exact blk_i)) rfl ⟨rfl, ?_⟩
        exact ((Below.refl _ _).alloc (by simp) _).alloc (by simp) _
end Go.Proofs.Ytokhldihfbaeoaa.Oct
