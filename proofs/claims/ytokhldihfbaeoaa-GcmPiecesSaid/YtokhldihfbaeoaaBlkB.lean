/- Polynomials as two words of 64 bits: the cells of such a pair; contracts of block's conversions and of the product with x. -/
import Derived.Test.YtokhldihfbaeoaaBlkA
namespace Go.Proofs.Ytokhldihfbaeoaa.Oct
open Go.ChangeShapes Go.WideShapes Go.ChangeAt Go.RowKit

def L (v : BitVec 64) : Int := (v.toNat : Int)
theorem L_bd (v : BitVec 64) : 0 ≤ L v ∧ L v ≤ 18446744073709551615 := by unfold L; omega
theorem L_inj {a b : BitVec 64} (h : L a = L b) : a = b := BitVec.eq_of_toNat_eq (by unfold L at h; omega)
@[go_sem] theorem L_xor (a b : BitVec 64) : bits .xor .u64 (L a) (L b) = L (a ^^^ b) := by unfold L; rw [u64_xor_nat _ _ a.isLt b.isLt, BitVec.toNat_xor]
@[go_sem] theorem L_or (a b : BitVec 64) : bits .or .u64 (L a) (L b) = L (a ||| b) := by unfold L; rw [u64_or_nat _ _ a.isLt b.isLt, BitVec.toNat_or]
@[go_sem] theorem L_orI (a : BitVec 64) (v : BitVec 8) : bits .or .u64 (L a) (I v) = L (a ||| v.setWidth 64) := by
  unfold L I; rw [u64_or_nat _ _ a.isLt (by omega), BitVec.toNat_or, BitVec.toNat_setWidth, Nat.mod_eq_of_lt (show v.toNat < 2 ^ 64 by omega)]
theorem u64_wrap_nat (n : Nat) : IntKind.u64.wrap (n : Int) = ((n % 18446744073709551616 : Nat) : Int) := by
  show (n : Int) % 18446744073709551616 = _
  rw [Int.natCast_emod]; rfl
@[go_sem] theorem L_shl8 (a : BitVec 64) : IntKind.u64.wrap (L a * 256) = L (a <<< 8) := by
  unfold L
  rw [show (a.toNat : Int) * 256 = ((a.toNat * 256 : Nat) : Int) by rw [Int.natCast_mul]; rfl, u64_wrap_nat, BitVec.toNat_shiftLeft, Nat.shiftLeft_eq]
@[go_sem] theorem L_shl63 (a : BitVec 64) : IntKind.u64.wrap (L a * 9223372036854775808) = L (a <<< 63) := by
  unfold L
  rw [show (a.toNat : Int) * 9223372036854775808 = ((a.toNat * 9223372036854775808 : Nat) : Int) by rw [Int.natCast_mul]; rfl, u64_wrap_nat, BitVec.toNat_shiftLeft, Nat.shiftLeft_eq]
@[go_sem] theorem L_shr1 (a : BitVec 64) : L a / (2 : Int) = L (a >>> 1) := by
  unfold L; rw [BitVec.toNat_ushiftRight, Nat.shiftRight_eq_div_pow, Int.natCast_ediv]; rfl
/-- the cells of a pair of words -/
@[irreducible] def pq (x y : BitVec 64) : Array Value := #[.int .u64 (L x), .int .u64 (L y)]
@[go_sem] theorem pq_size (x y : BitVec 64) : (pq x y).size = 2 := by unfold pq; rfl
@[go_sem] theorem pq_0 (x y : BitVec 64) (h : 0 < (pq x y).size) : (pq x y)[0] = .int .u64 (L x) := by unfold pq; rfl
@[go_sem] theorem pq_1 (x y : BitVec 64) (h : 1 < (pq x y).size) : (pq x y)[1] = .int .u64 (L y) := by unfold pq; rfl
@[go_sem] theorem pq_get0 (x y : BitVec 64) : (pq x y)[0]? = some (.int .u64 (L x)) := by unfold pq; rfl
@[go_sem] theorem pq_get1 (x y : BitVec 64) : (pq x y)[1]? = some (.int .u64 (L y)) := by unfold pq; rfl
@[go_sem] theorem pq_set0 (x y z : BitVec 64) : (pq x y).setIfInBounds 0 (.int .u64 (L z)) = pq z y := by unfold pq; rfl
@[go_sem] theorem pq_set1 (x y z : BitVec 64) : (pq x y).setIfInBounds 1 (.int .u64 (L z)) = pq x z := by unfold pq; rfl
@[go_sem] theorem ones_pq (x y : BitVec 64) : Ones (pq x y) := by unfold Ones pq; simp [Value.oneCell']
@[go_sem] theorem pq_ne (x y : BitVec 64) : (pq x y = #[]) = False := eq_false fun e => by have := congrArg Array.size e; rw [pq_size] at this; simp at this
@[go_sem] theorem ldR_pq (P : Program) (t : Nat) (w : World) (b : Nat) (x y : BitVec 64) : ldR P t 2 w b 0 (some (pq x y)) = .ok (.agg (pq x y)) w := by
  unfold ldR
  simp only [pq_size]
  rw [if_pos (by omega)]
  congr 2
  unfold pq; rfl
@[go_sem] theorem stR_pq (P : Program) (t : Nat) (w : World) (b : Nat) (x y u v : BitVec 64) : stR P t 2 w b 0 (.agg (pq x y)) (some (pq u v)) = .ok () (w.setRow b (pq x y)) := by
  have e : 0 + 2 ≤ (pq u v).size ∧ (Value.agg (pq x y)).cells.size = 2 ∧ Ones (Value.agg (pq x y)).cells := ⟨by rw [pq_size]; omega, pq_size x y, ones_pq x y⟩
  unfold stR
  simp only [if_pos e]
  congr 2
  unfold pq; rfl

/- 76 -/
theorem ply_u : Try.prog.underlying 76 = some (.array 2 61) := by kernel_rfl
theorem ply_i : (Try.prog.info? 76).map (·.size) = some 2 := by kernel_rfl
@[go_sem ↓] theorem ply_l (p : Value) : Instr.loadAt 76 p = ldA 76 p := rfl
@[go_sem ↓] theorem ply_s (p v : Value) : Instr.storeAt 76 p v = stA 76 p v := rfl
@[go_sem] theorem ply_ld (w : World) (b o : Nat) : (ldA 76 (.pointer (some ⟨b, o, none⟩))).run Try.prog w = ldR Try.prog 76 2 w b o (row w b) := ld_rule _ _ _ ply_u 2 ply_i w b o
@[go_sem] theorem ply_st (w : World) (b o : Nat) (c : Array Value) : (stA 76 (.pointer (some ⟨b, o, none⟩)) (.agg c)).run Try.prog w = stR Try.prog 76 2 w b o (.agg c) (row w b) := st_rule _ 2 ply_i w b o c
theorem ply_z : (Try.prog.info? 76).map (·.zero) = some (some (.agg (pq 0#64 0#64))) := by unfold pq; kernel_rfl
@[go_sem ↓] theorem ply_zero (w : World) : (zeroValue 76).run Try.prog w = .ok (.agg (pq 0#64 0#64)) w := zero_rule _ _ ply_z w

/-- k bytes from place s on, as one number -/
def wd (f : Bf) (s : Nat) : Nat → BitVec 64
  | 0 => 0#64
  | k + 1 => (wd f s k <<< 8) ||| (f (s + k)).setWidth 64

set_option maxHeartbeats 400000 in
theorem polyOf_any (f : Bf) (w : World) :
    Calls Try.prog 56 #[.agg (ba 16 f)] w fun e w' => e = .returned (.agg (pq (wd f 0 8) (wd f 8 8))) ∧ Below w.heap.size w w' := by
  go_enter Try.func56, Try.ntmps56
  go_wp2
  go_loopw [4, 5, 7] (fun _ _ i wr => ∃ k : Nat, k ≤ 16 ∧ i = .int .i64 k ∧ wr = ((w.alloc (.cells (ba 16 f) 35)).alloc (.cells (pq 0#64 0#64) 76)).alloc (.cells (pq (wd f 0 (min k 8)) (wd f 8 (k - 8))) 76)) (fun _ _ i _ => 16 - (intOf i).toNat)
  case atStart => exact ⟨0, by omega, rfl, rfl⟩
  case round =>
    obtain ⟨k, hk, rfl, rfl⟩ := hrel
    by_cases hlt : k < 16
    · obtain ⟨hb0, hb1⟩ := I_bd (f k)
      by_cases h8 : k < 8
      · have q : (k : Int) / 8 = 0 := by omega
        obtain ⟨x, hx⟩ : ∃ x, x = wd f 0 (min k 8) := ⟨_, rfl⟩
        obtain ⟨y, hy⟩ : ∃ x, x = wd f 8 (k - 8) := ⟨_, rfl⟩
        rw [← hx, ← hy]
        have HX := Lib.hid hx
        have HY := Lib.hid hy
        obtain ⟨hx0, hx1⟩ := L_bd x
        clear hx hy
        go_wp2
        go_roundw
        case rel =>
          refine ⟨k + 1, by omega, by go_num, ?_⟩
          rw [HX.out, HY.out, show min (k + 1) 8 = min k 8 + 1 by omega, show k - 8 = 0 by omega, show k + 1 - 8 = 0 by omega]
          simp only [wd]
          rw [show 0 + min k 8 = k by omega]
        case measure => simp [intOf]; omega
      · have q : (k : Int) / 8 = 1 := by omega
        obtain ⟨x, hx⟩ : ∃ x, x = wd f 0 (min k 8) := ⟨_, rfl⟩
        obtain ⟨y, hy⟩ : ∃ x, x = wd f 8 (k - 8) := ⟨_, rfl⟩
        rw [← hx, ← hy]
        have HX := Lib.hid hx
        have HY := Lib.hid hy
        obtain ⟨hy0, hy1⟩ := L_bd y
        clear hx hy
        go_wp2
        go_roundw
        case rel =>
          refine ⟨k + 1, by omega, by go_num, ?_⟩
          rw [HX.out, HY.out, show min (k + 1) 8 = 8 by omega, show min k 8 = 8 by omega, show k + 1 - 8 = (k - 8) + 1 by omega]
          simp only [wd]
          rw [show 8 + (k - 8) = k by omega]
        case measure => simp [intOf]; omega
    · obtain rfl : k = 16 := by omega
      go_wp2
      refine bodyPost_ret (v := .agg (pq (wd f 0 8) (wd f 8 8))) (res_row rfl _ _ (w.heap.size + 1) _ _ _ rfl (by simp [go_sem]) ply_u (by rw [pq_size]; exact ply_i)) rfl ⟨rfl, ?_⟩
      exact (((Below.refl _ _).alloc (by simp) _).alloc (by simp) _).alloc (by simp; omega) _

/- the product with x -/
def tx0 (x y : BitVec 64) : BitVec 64 := (x >>> 1) ^^^ (if y.getLsbD 0 then 16212958658533785600#64 else 0#64)
def tx1 (x y : BitVec 64) : BitVec 64 := (x <<< 63) ||| (y >>> 1)
@[go_sem] theorem L_xorR (a : BitVec 64) : bits .xor .u64 (L a) 16212958658533785600 = L (a ^^^ 16212958658533785600#64) :=
  L_xor a 16212958658533785600#64
theorem L_odd (y : BitVec 64) (c : Bool) (h : y.getLsbD 0 = c) : (bits .and .u64 (L y) 1 == 1) = c := by
  unfold L
  have e := u64_and_nat y.toNat 1 y.isLt (by omega)
  rw [show ((1 : Nat) : Int) = 1 from rfl] at e
  rw [e, Nat.and_one_is_mod, ← h, ← BitVec.testBit_toNat, Nat.testBit_zero]
  rw [Bool.eq_iff_iff]
  simp
  omega
set_option maxHeartbeats 400000 in
theorem timesX_any (x y : BitVec 64) (w : World) :
    Calls Try.prog 58 #[.agg (pq x y)] w fun e w' => e = .returned (.agg (pq (tx0 x y) (tx1 x y))) ∧ Below w.heap.size w w' := by
  obtain ⟨hx0, hx1⟩ := L_bd x
  obtain ⟨hy0, hy1⟩ := L_bd y
  cases hc : y.getLsbD 0
  · have ht := L_odd y false hc
    have HV := Lib.hid (show pq (x >>> 1) (x <<< 63 ||| y >>> 1) = pq (tx0 x y) (tx1 x y) by unfold tx0 tx1; rw [hc]; simp)
    clear hc
    go_enter Try.func58, Try.ntmps58
    go_wp2
    rw [HV.out]
    refine bodyPost_ret (v := .agg (pq (tx0 x y) (tx1 x y))) (res_row rfl _ _ (w.heap.size + 1) _ _ _ rfl (by simp [go_sem]) ply_u (by rw [pq_size]; exact ply_i)) rfl ⟨rfl, ?_⟩
    exact (((Below.refl _ _).alloc (by simp) _).alloc (by simp) _).alloc (by simp; omega) _
  · have ht := L_odd y true hc
    have HV := Lib.hid (show pq (x >>> 1 ^^^ 16212958658533785600#64) (x <<< 63 ||| y >>> 1) = pq (tx0 x y) (tx1 x y) by unfold tx0 tx1; rw [hc]; simp)
    clear hc
    go_enter Try.func58, Try.ntmps58
    go_wp2
    rw [HV.out]
    refine bodyPost_ret (v := .agg (pq (tx0 x y) (tx1 x y))) (res_row rfl _ _ (w.heap.size + 1) _ _ _ rfl (by simp [go_sem]) ply_u (by rw [pq_size]; exact ply_i)) rfl ⟨rfl, ?_⟩
    exact (((Below.refl _ _).alloc (by simp) _).alloc (by simp) _).alloc (by simp; omega) _

/- a block's bytes out of its words -/
theorem L_byte (x : BitVec 64) (s : Nat) : L x / (2 : Int) ^ s % 256 = I ((x >>> s).setWidth 8) := by
  unfold L I
  rw [BitVec.toNat_setWidth, BitVec.toNat_ushiftRight, Nat.shiftRight_eq_div_pow, Int.natCast_emod, Int.natCast_ediv, Int.natCast_pow]
  rfl
theorem byt_hi (x y : BitVec 64) (k : Nat) (h : k < 8) : (x >>> (56 - k % 8 * 8)).setWidth 8 = byt (x ++ y) k := by
  apply BitVec.eq_of_getLsbD_eq
  intro j hj
  unfold byt
  rw [BitVec.getLsbD_setWidth, BitVec.getLsbD_ushiftRight, BitVec.getLsbD_extractLsb', BitVec.getLsbD_append]
  rw [if_neg (by omega), show 120 - 8 * k + j - 64 = 56 - k % 8 * 8 + j by omega]
theorem byt_lo (x y : BitVec 64) (k : Nat) (h : 8 ≤ k) (h' : k < 16) : (y >>> (56 - k % 8 * 8)).setWidth 8 = byt (x ++ y) k := by
  apply BitVec.eq_of_getLsbD_eq
  intro j hj
  unfold byt
  rw [BitVec.getLsbD_setWidth, BitVec.getLsbD_ushiftRight, BitVec.getLsbD_extractLsb', BitVec.getLsbD_append]
  rw [if_pos (by omega), show 120 - 8 * k + j = 56 - k % 8 * 8 + j by omega]
set_option maxHeartbeats 400000 in
theorem blockOf_any (x y : BitVec 64) (w : World) :
    Calls Try.prog 59 #[.agg (pq x y)] w fun e w' => e = .returned (.agg (ba 16 (byt (x ++ y)))) ∧ Below w.heap.size w w' := by
  go_enter Try.func59, Try.ntmps59
  go_wp2
  go_loopw [4, 5] (fun _ i wr => ∃ k : Nat, k ≤ 16 ∧ i = .int .i64 k ∧ wr = ((w.alloc (.cells (pq x y) 76)).alloc (.cells (ba 16 fun _ => 0#8) 35)).alloc (.cells (ba 16 (upto k (byt (x ++ y)) fun _ => 0#8)) 35)) (fun _ i _ => 16 - (intOf i).toNat)
  case atStart => exact ⟨0, by omega, rfl, by rw [upto_zero]⟩
  case round =>
    obtain ⟨k, hk, rfl, rfl⟩ := hrel
    by_cases hlt : k < 16
    · obtain ⟨hx0, hx1⟩ := L_bd x
      obtain ⟨hy0, hy1⟩ := L_bd y
      have HS := Lib.hid (upto_step k (byt (x ++ y)) fun _ => 0#8)
      by_cases h8 : k < 8
      · have q : (k : Int) / 8 = 0 := by omega
        have HB := Lib.hid (byt_hi x y k h8)
        go_wp2
        go_roundw
        case rel => exact ⟨k + 1, by omega, by go_num, by rw [L_byte, HB.out, ba_set, HS.out]⟩
        case measure => simp [intOf]; omega
      · have q : (k : Int) / 8 = 1 := by omega
        have HB := Lib.hid (byt_lo x y k (by omega) hlt)
        go_wp2
        go_roundw
        case rel => exact ⟨k + 1, by omega, by go_num, by rw [L_byte, HB.out, ba_set, HS.out]⟩
        case measure => simp [intOf]; omega
    · obtain rfl : k = 16 := by omega
      rw [upto_all]
      go_wp2
      refine bodyPost_ret (v := .agg (ba 16 (byt (x ++ y)))) (res_row rfl _ _ (w.heap.size + 1) _ _ _ rfl (by simp [go_sem]) blk_u (by rw [ba_size]; exact blk_i)) rfl ⟨rfl, ?_⟩
      exact (((Below.refl _ _).alloc (by simp) _).alloc (by simp) _).alloc (by simp; omega) _

/- words and polynomials -/
theorem wd_bit (f : Bf) (s : Nat) : ∀ k j, j < 64 → (wd f s k).getLsbD j = (decide (j < 8 * k) && (f (s + k - 1 - j / 8)).getLsbD (j % 8)) := by
  intro k
  induction k with
  | zero => intro j _; simp [wd]
  | succ k ih =>
    intro j hj
    simp only [wd]
    rw [BitVec.getLsbD_or, BitVec.getLsbD_shiftLeft, BitVec.getLsbD_setWidth]
    by_cases h : j < 8
    · rw [show j / 8 = 0 by omega, show j % 8 = j by omega, show s + (k + 1) - 1 - 0 = s + k by omega]
      simp [h, hj]
      omega
    · rw [ih (j - 8) (by omega), BitVec.getLsbD_of_ge (f (s + k)) j (by omega), Bool.and_false, Bool.or_false, show (j - 8) % 8 = j % 8 by omega, show s + (k + 1) - 1 - j / 8 = s + k - 1 - (j - 8) / 8 by omega]
      simp only [hj, h, decide_true, decide_false, Bool.not_false, Bool.true_and]
      congr 1
      rw [Bool.eq_iff_iff]; simp; omega
theorem pol_words (f : Bf) : pol f = wd f 0 8 ++ wd f 8 8 := bt_ext fun i hi => by
  rw [bt_pol f i hi]
  unfold bt fbit
  rw [BitVec.getLsbD_append]
  by_cases h : i < 64
  · rw [if_neg (by omega), wd_bit _ _ _ _ (by omega), decide_eq_true (by omega), Bool.true_and, show 0 + 8 - 1 - (127 - i - 64) / 8 = i / 8 by omega, show (127 - i - 64) % 8 = 7 - i % 8 by omega]
  · rw [if_pos (by omega), wd_bit _ _ _ _ (by omega), decide_eq_true (by omega), Bool.true_and, show 8 + 8 - 1 - (127 - i) / 8 = i / 8 by omega, show (127 - i) % 8 = 7 - i % 8 by omega]
theorem gx_words (x y : BitVec 64) : gx (x ++ y) = tx0 x y ++ tx1 x y := by
  have hR : gR = 16212958658533785600#64 ++ 0#64 := by decide
  have h0 : (x ++ y).getLsbD 0 = y.getLsbD 0 := by rw [BitVec.getLsbD_append, if_pos (by omega)]
  have hs : (x ++ y) >>> 1 = (x >>> 1) ++ ((x <<< 63) ||| (y >>> 1)) := by
    apply BitVec.eq_of_getLsbD_eq
    intro j hj
    rw [BitVec.getLsbD_ushiftRight, BitVec.getLsbD_append, BitVec.getLsbD_append]
    by_cases h : j < 63
    · rw [if_pos (by omega), if_pos (by omega), BitVec.getLsbD_or, BitVec.getLsbD_shiftLeft, BitVec.getLsbD_ushiftRight]
      simp [show j < 63 from h]
    · by_cases h2 : j = 63
      · subst h2
        rw [if_neg (by omega), if_pos (by omega), BitVec.getLsbD_or, BitVec.getLsbD_shiftLeft, BitVec.getLsbD_ushiftRight]
        simp
      · rw [if_neg (by omega), if_neg (by omega), BitVec.getLsbD_ushiftRight]
        congr 1; omega
  have hz : ∀ a b c d : BitVec 64, (a ++ b) ^^^ (c ++ d) = (a ^^^ c) ++ (b ^^^ d) := fun a b c d => by
    apply BitVec.eq_of_getLsbD_eq
    intro j hj
    rw [BitVec.getLsbD_xor, BitVec.getLsbD_append, BitVec.getLsbD_append, BitVec.getLsbD_append]
    by_cases h : j < 64
    · simp [h]
    · simp [h]
  unfold gx tx0 tx1
  rw [h0, hs, hR]
  cases y.getLsbD 0
  · simp
  · simp only [if_true]
    rw [hz, BitVec.xor_zero]
theorem add_words (a b c d : BitVec 64) : (a ++ b) ^^^ (c ++ d) = (a ^^^ c) ++ (b ^^^ d) := by
  apply BitVec.eq_of_getLsbD_eq
  intro j hj
  rw [BitVec.getLsbD_xor, BitVec.getLsbD_append, BitVec.getLsbD_append, BitVec.getLsbD_append]
  by_cases h : j < 64
  · simp [h]
  · simp [h]
end Go.Proofs.Ytokhldihfbaeoaa.Oct
