import Derived.Test.YtamemjldafoolaaGreatRows
import Derived.Test.YtamemjldafoolaaGreatAlg
import Derived.Test.YtamemjldafoolaaGreatLib
import Derived.WalkKit
import Derived.ProofKit
import Derived.OpenShut
import Derived.Lib.Hide
import Derived.Outline
import Derived.BigQuiet
import Derived.Deep.QuietTactic

/-! ## OctWalks -/
/- The contracts of the functions of octet and of its reference: each returns what the plain mathematics says, and leaves the world as it is. -/
namespace Go.Proofs.YtamemjldafoolaaGreat.Oct
open Go.ChangeShapes Go.WideShapes Go.ChangeAt Go.RowKit

theorem t2_hi : ∀ a : BitVec 8, a.msb = true → (I a / 128 == 1) = true ∧ bits .xor .u8 (I a * 2 % 256) 27 = I (t2 a) := by decide +kernel
theorem t2_lo : ∀ a : BitVec 8, a.msb = false → (I a / 128 == 1) = false ∧ I a * 2 % 256 = I (t2 a) := by decide +kernel

set_option maxHeartbeats 400000 in
theorem t2_any {x : Int} (a : BitVec 8) (hx : x = I a) (w : World) :
    Calls Tryz.prog 95 #[.int .u8 x] w fun e w' => e = .returned (.int .u8 (I (t2 a))) ∧ w = w' := by
  subst hx
  have hb := I_bd a
  obtain ⟨hb0, hb1⟩ := hb
  cases hm : a.msb
  · obtain ⟨h1, h2⟩ := t2_lo a hm
    have H := Lib.hid h2; clear h2 hm
    go_enter Tryz.func95, Tryz.ntmps95
    go_wp2
    go_ret
    exact ⟨ret_u8 H.out, rfl⟩
  · obtain ⟨h1, h2⟩ := t2_hi a hm
    have H := Lib.hid h2; clear h2 hm
    go_enter Tryz.func95, Tryz.ntmps95
    go_wp2
    go_ret
    exact ⟨ret_u8 H.out, rfl⟩

set_option maxHeartbeats 400000 in
theorem mul_any {x y : Int} (a b : BitVec 8) (hx : x = I a) (hy : y = I b) (w : World) :
    Calls Tryz.prog 110 #[.int .u8 x, .int .u8 y] w fun e w' => e = .returned (.int .u8 (I (mul a b))) ∧ w = w' := by
  subst hx; subst hy
  obtain ⟨hb0, hb1⟩ := I_bd b
  go_enter Tryz.func110, Tryz.ntmps110
  go_wp2
  go_loop [0, 5, 7] (fun c p j => ∃ k : Nat, k ≤ 8 ∧ j = .int .i64 k ∧ c = .int .u8 (I (dbl k a)) ∧ p = .int .u8 (I (mulTo a b k))) (fun _ _ j => 8 - (intOf j).toNat)
  case atStart => exact ⟨0, by omega, rfl, rfl, rfl⟩
  case round =>
    obtain ⟨k, hk, rfl, rfl, rfl⟩ := hrel
    by_cases hlt : k < 8
    · obtain ⟨hc0, hc1⟩ := I_bd (dbl k a)
      obtain ⟨hd0, hd1⟩ := I_bd (mulTo a b k)
      cases hbit : b.getLsbD k
      · have ht := bit_test' k hlt b false hbit
        have H : Hid (mulTo a b (k + 1) = mulTo a b k) := Lib.hid (by simp [mulTo, hbit])
        clear hbit
        go_wp2_with (go_at_call 95; refine (t2_any _ rfl _).mono ?_; rintro e w' ⟨rfl, rfl⟩)
        go_round
        case rel => exact ⟨k + 1, by omega, by go_num, rfl, by rw [H.out]⟩
        case measure => simp [intOf]; omega
      · have ht := bit_test' k hlt b true hbit
        have H : Hid (mulTo a b (k + 1) = mulTo a b k ^^^ dbl k a) := Lib.hid (by simp [mulTo, hbit])
        clear hbit
        go_wp2_with (go_at_call 95; refine (t2_any _ rfl _).mono ?_; rintro e w' ⟨rfl, rfl⟩)
        go_round
        case rel => exact ⟨k + 1, by omega, by go_num, rfl, by first | rw [H.out, I_xor] | rw [H.out]⟩
        case measure => simp [intOf]; omega
    · obtain rfl : k = 8 := by omega
      go_wp2
      go_ret
      exact ⟨rfl, rfl⟩

/- the reference's product -/
theorem J_xor (a b : BitVec 16) : bits .xor .i64 (J a) (J b) = J (a ^^^ b) := by
  unfold J; rw [Bits.i64_xor _ _ (by omega) (by omega), BitVec.toNat_xor]
theorem J_of (a : BitVec 8) (k : Nat) (hk : k < 8) : wrap64 (I a * 2 ^ k) = J ((a.zeroExtend 16) <<< k) := by
  have h : a.toNat * 2 ^ k < 65536 := by
    have := Nat.pow_le_pow_right (n := 2) (by omega) (show k ≤ 7 by omega)
    have h2 := Nat.mul_le_mul (show a.toNat ≤ 255 by omega) this
    omega
  have e : I a * 2 ^ k = ((a.toNat * 2 ^ k : Nat) : Int) := by unfold I; norm_cast
  rw [e, IntWalk.wrap64_in _ (by omega)]
  unfold J
  rw [BitVec.toNat_shiftLeft, BitVec.toNat_setWidth, Nat.shiftLeft_eq, Nat.mod_eq_of_lt (show a.toNat < 2 ^ 16 by omega), Nat.mod_eq_of_lt h]
theorem J_poly : ∀ k : Fin 7, wrap64 (283 * 2 ^ (14 - k.val - 8)) = J (283#16 <<< (14 - k.val - 8)) := by
  unfold wrap64 J; decide +kernel
theorem J_bit (t : BitVec 16) (i : Nat) (c : Bool) (e : t.getLsbD i = c) : (bits .and .i64 (J t / 2 ^ i) 1 == 1) = c := by
  unfold J; rw [Bits.i64_bit _ _ (by omega)]; exact e

set_option maxHeartbeats 1000000 in
theorem rmul_any {x y : Int} (a b : BitVec 8) (hx : x = I a) (hy : y = I b) (w : World) :
    Calls Tryz.prog 87 #[.int .u8 x, .int .u8 y] w fun e w' => e = .returned (.int .u8 (I (mul a b))) ∧ w = w' := by
  subst hx; subst hy
  obtain ⟨ha0, ha1⟩ := I_bd a
  obtain ⟨hb0, hb1⟩ := I_bd b
  go_enter Tryz.func87, Tryz.ntmps87
  go_wp2
  go_loop [5, 6] (fun t j => ∃ k : Nat, k ≤ 8 ∧ j = .int .i64 k ∧ t = .int .i64 (J (rT a b k))) (fun _ j => 8 - (intOf j).toNat)
  case atStart => exact ⟨0, by omega, rfl, rfl⟩
  case round =>
    obtain ⟨k, hk, rfl, rfl⟩ := hrel
    by_cases hlt : k < 8
    · obtain ⟨hd0, hd1⟩ := J_bd (rT a b k)
      cases hbit : b.getLsbD k
      · have ht := bit_test' k hlt b false hbit
        have H : Hid (rT a b (k + 1) = rT a b k) := Lib.hid (by simp [rT, hbit])
        clear hbit
        go_wp2
        go_round
        case rel => exact ⟨k + 1, by omega, by go_num, by rw [H.out]⟩
        case measure => simp [intOf]; omega
      · have ht := bit_test' k hlt b true hbit
        have H : Hid (rT a b (k + 1) = rT a b k ^^^ (a.zeroExtend 16) <<< k) := Lib.hid (by simp [rT, hbit])
        clear hbit
        go_wp2
        go_round
        case rel => exact ⟨k + 1, by omega, by go_num, by rw [H.out, J_of a k hlt, J_xor]⟩
        case measure => simp [intOf]; omega
    · obtain rfl : k = 8 := by omega
      clear hk hlt
      obtain ⟨r, hr⟩ : ∃ r, r = rT a b 8 := ⟨_, rfl⟩
      rw [← hr]
      have HR := Lib.hid hr; clear hr
      go_wp2
      go_loop [5, 7] (fun t j => ∃ k : Nat, k ≤ 7 ∧ j = .int .i64 (14 - (k : Int)) ∧ t = .int .i64 (J (rDown r k))) (fun _ j => (intOf j).toNat)
      case atStart => exact ⟨0, by omega, rfl, rfl⟩
      case round =>
        obtain ⟨k, hk, rfl, rfl⟩ := hrel
        by_cases hlt : k < 7
        · obtain ⟨hd0, hd1⟩ := J_bd (rDown r k)
          cases hbit : (rDown r k).getLsbD (14 - k)
          · have ht := J_bit (rDown r k) (14 - k) false hbit
            have H : Hid (rDown r (k + 1) = rDown r k) := Lib.hid (by simp [rDown, rStep, hbit])
            clear hbit
            go_wp2
            go_round
            case rel => exact ⟨k + 1, by omega, by congr 1; omega, by rw [H.out]⟩
            case measure => simp [intOf]; omega
          · have ht := J_bit (rDown r k) (14 - k) true hbit
            have H : Hid (rDown r (k + 1) = rDown r k ^^^ (283#16 <<< (14 - k - 8))) := Lib.hid (by simp [rDown, rStep, hbit])
            clear hbit
            go_wp2
            go_round
            case rel => exact ⟨k + 1, by omega, by congr 1; omega, by rw [H.out, J_poly ⟨k, hlt⟩, J_xor]⟩
            case measure => simp [intOf]; omega
        · obtain rfl : k = 7 := by omega
          obtain ⟨hd0, hd1⟩ := J_bd (rDown r 7)
          go_wp2
          go_ret
          refine ⟨ret_u8 ?_, rfl⟩
          rw [← rMul_eq, rMul, ← HR.out]
          unfold I J
          rw [BitVec.toNat_setWidth]
          omega

/- the inverse -/
set_option maxHeartbeats 400000 in
theorem inv_any {x : Int} (a : BitVec 8) (hx : x = I a) (w : World) :
    Calls Tryz.prog 114 #[.int .u8 x] w fun e w' => e = .returned (.int .u8 (I (inv a))) ∧ w = w' := by
  subst hx
  go_enter Tryz.func114, Tryz.ntmps114
  go_wp2
  go_loop [3, 4, 6] (fun p o j => ∃ k : Nat, k ≤ 7 ∧ j = .int .i64 k ∧ p = .int .u8 (I (invP a k)) ∧ o = .int .u8 (I (invO a k))) (fun _ _ j => 7 - (intOf j).toNat)
  case atStart => exact ⟨0, by omega, rfl, rfl, rfl⟩
  case round =>
    obtain ⟨k, hk, rfl, rfl, rfl⟩ := hrel
    by_cases hlt : k < 7
    · go_wp2_with (go_at_call 110; (with_reducible refine (mul_any _ _ rfl rfl _).mono ?_); rintro e w' ⟨rfl, rfl⟩)
      go_round
      case rel => exact ⟨k + 1, by omega, by go_num, rfl, rfl⟩
      case measure => simp [intOf]; omega
    · obtain rfl : k = 7 := by omega
      go_wp2
      go_ret
      exact ⟨rfl, rfl⟩
set_option maxHeartbeats 400000 in
theorem rinv_any {x : Int} (a : BitVec 8) (hx : x = I a) (w : World) :
    Calls Tryz.prog 105 #[.int .u8 x] w fun e w' => e = .returned (.int .u8 (I (inv a))) ∧ w = w' := by
  subst hx
  go_enter Tryz.func105, Tryz.ntmps105
  go_wp2
  go_loop [3, 4, 5] (fun o p j => ∃ k : Nat, k ≤ 7 ∧ j = .int .i64 (1 + (k : Int)) ∧ p = .int .u8 (I (invP a k)) ∧ o = .int .u8 (I (invO a k))) (fun _ _ j => 8 - (intOf j).toNat)
  case atStart => exact ⟨0, by omega, rfl, rfl, rfl⟩
  case round =>
    obtain ⟨k, hk, rfl, rfl, rfl⟩ := hrel
    by_cases hlt : k < 7
    · go_wp2_with (go_at_call 87; (with_reducible refine (rmul_any _ _ rfl rfl _).mono ?_); rintro e w' ⟨rfl, rfl⟩)
      go_round
      case rel => exact ⟨k + 1, by omega, by congr 1 <;> omega, rfl, rfl⟩
      case measure => simp [intOf]; omega
    · obtain rfl : k = 7 := by omega
      go_wp2
      go_ret
      exact ⟨rfl, rfl⟩

/- the box -/
set_option maxHeartbeats 400000 in
theorem orot_any {x : Int} (a : BitVec 8) (k : Nat) (hk : k ≤ 4) (hx : x = I a) (w : World) :
    Calls Tryz.prog 115 #[.int .u8 x, .int .i64 k] w fun e w' => e = .returned (.int .u8 (I (a.rotateLeft k))) ∧ w = w' := by
  subst hx
  obtain ⟨ha0, ha1⟩ := I_bd a
  have hs : k = 0 ∨ k = 1 ∨ k = 2 ∨ k = 3 ∨ k = 4 := by omega
  clear hk
  have q0 : bits .and .u64 0 7 = 0 := by decide +kernel
  have q1 : bits .and .u64 1 7 = 1 := by decide +kernel
  have q2 : bits .and .u64 2 7 = 2 := by decide +kernel
  have q3 : bits .and .u64 3 7 = 3 := by decide +kernel
  have q4 : bits .and .u64 4 7 = 4 := by decide +kernel
  rcases hs with rfl | rfl | rfl | rfl | rfl
  all_goals
    go_enter Tryz.func115, Tryz.ntmps115
    go_wp2
    go_ret
    refine ⟨ret_u8 ?_, rfl⟩
    clear ha0 ha1
    revert a
    decide +kernel
set_option maxHeartbeats 400000 in
theorem box_any {x : Int} (a : BitVec 8) (hx : x = I a) (w : World) :
    Calls Tryz.prog 109 #[.int .u8 x] w fun e w' => e = .returned (.int .u8 (I (box a))) ∧ w = w' := by
  subst hx
  go_enter Tryz.func109, Tryz.ntmps109
  go_wp2_with (go_at_call 114; (with_reducible refine (inv_any _ rfl _).mono ?_); rintro e w' ⟨rfl, rfl⟩)
  go_loop [4, 8] (fun o j => ∃ k : Nat, k ≤ 5 ∧ j = .int .i64 k ∧ o = .int .u8 (I (boxTo (inv a) k))) (fun _ j => 5 - (intOf j).toNat)
  case atStart => exact ⟨0, by omega, rfl, rfl⟩
  case round =>
    obtain ⟨k, hk, rfl, rfl⟩ := hrel
    by_cases hlt : k < 5
    · obtain ⟨hd0, hd1⟩ := I_bd (boxTo (inv a) k)
      go_wp2_with (go_at_call 115; (with_reducible refine (orot_any _ _ (by omega) rfl _).mono ?_); rintro e w' ⟨rfl, rfl⟩)
      go_round
      case rel => exact ⟨k + 1, by omega, by go_num, by first | (rw [I_xor]; rfl) | rfl⟩
      case measure => simp [intOf]; omega
    · obtain rfl : k = 5 := by omega
      go_wp2
      go_ret
      exact ⟨rfl, rfl⟩
end Go.Proofs.YtamemjldafoolaaGreat.Oct

/-! ## OctRb -/
/- The reference's box: its contract, over those of OctWalks. -/
namespace Go.Proofs.YtamemjldafoolaaGreat.Oct
open Go.ChangeShapes Go.WideShapes Go.ChangeAt Go.RowKit

theorem I_oshl (a : BitVec 8) (k : Nat) : I a * 2 ^ k % 256 = I (a <<< k) := by
  unfold I; rw [BitVec.toNat_shiftLeft, Nat.shiftLeft_eq, Int.natCast_emod, Int.natCast_mul, Int.natCast_pow]; rfl
theorem rbit_one : ∀ v : BitVec 8, bits .and .u8 (I v) 1 = I (v &&& 1#8) := by decide +kernel
theorem rbit_step (b : BitVec 8) (k : Nat) :
    bits .or .u8 (I (rBoxTo b k)) (bits .and .u8 (bits .xor .u8 (bits .xor .u8 (bits .xor .u8 (bits .xor .u8 (bits .xor .u8 (99 / 2 ^ k) (I b / 2 ^ k)) (I b / 2 ^ ((k + 4) % 8))) (I b / 2 ^ ((k + 5) % 8))) (I b / 2 ^ ((k + 6) % 8))) (I b / 2 ^ ((k + 7) % 8))) 1 * 2 ^ k % 256) = I (rBoxTo b (k + 1)) := by
  rw [show (99 : Int) = I 99#8 from rfl]
  simp only [I_shr, I_xor]
  rw [rbit_one, I_oshl, I_or]
  rfl

set_option maxHeartbeats 1000000 in
theorem rbox_any {x : Int} (a : BitVec 8) (hx : x = I a) (w : World) :
    Calls Tryz.prog 86 #[.int .u8 x] w fun e w' => e = .returned (.int .u8 (I (box a))) ∧ ∃ n, w' = w.drewN n := by
  subst hx
  obtain ⟨b, hb⟩ : ∃ b, b = inv a := ⟨_, rfl⟩
  have HB := Lib.hid hb; clear hb
  obtain ⟨hb0, hb1⟩ := I_bd b
  go_enter Tryz.func86, Tryz.ntmps86
  go_wp2_with (go_at_call 105; (with_reducible refine (rinv_any _ rfl _).mono ?_); rw [← HB.out]; rintro e w' ⟨rfl, rfl⟩)
  go_loopw [4, 5] (fun o j wr => ∃ k : Nat, k ≤ 8 ∧ j = .int .i64 k ∧ o = .int .u8 (I (rBoxTo b k)) ∧ ∃ n, wr = w.drewN n) (fun _ j _ => 8 - (intOf j).toNat)
  case atStart => exact ⟨0, by omega, rfl, rfl, 0, rfl⟩
  case round =>
    obtain ⟨k, hk, rfl, rfl, n, rfl⟩ := hrel
    by_cases hlt : k < 8
    · obtain ⟨hd0, hd1⟩ := I_bd (rBoxTo b k)
      go_wp2
      go_quiet (fail)
      go_wp2
      go_roundw
      case rel => exact ⟨k + 1, by omega, by go_num, by rw [← rbit_step], _, rfl⟩
      case measure => simp [intOf]; omega
    · obtain rfl : k = 8 := by omega
      go_wp2
      go_ret
      exact ⟨ret_u8 (by rw [rBox_eq, HB.out]; rfl), n, rfl⟩

end Go.Proofs.YtamemjldafoolaaGreat.Oct
