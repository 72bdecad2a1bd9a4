import Derived.Test.YteffjpdcghlnlaaGreatDoorZcAa
import Derived.WalkKit
import Derived.ProofKit
import Derived.Lib.Hide
import Derived.Outline
import Derived.BigQuiet
import Derived.Deep.QuietTactic
import Derived.OwnWalk
import Derived.Test.YteffjpdcghlnlaaGreatDoorZcLib
set_option linter.unusedVariables false
set_option linter.unusedSimpArgs false
set_option maxHeartbeats 4000000
set_option maxRecDepth 20000
namespace Go.Proofs.YteffjpdcghlnlaaGreatDoor.Oct
open Go.ChangeShapes Go.WideShapes Go.ChangeAt Go.RowKit
theorem bxor_any (f g : Bf) (w : World) :
  Calls Tryz.prog 246 #[.agg (ba 16 f), .agg (ba 16 g)] w fun e w' => e = .returned (.agg (ba 16 (xorF f g))) ∧ Below w.heap.size w w' := by
 go_enter Tryz.func246, Tryz.ntmps246
 go_wp2
 go_loopw [5, 6] (fun _ i wr => ∃ k : Nat, k ≤ 16 ∧ i = .int .i64 k ∧ ∃ n, wr = (((w.alloc (.cells (ba 16 (upto k (xorF f g) f)) 266)).alloc (.cells (ba 16 g) 266)).alloc (.cells (ba 16 fun _ => 0#8) 266)).drewN n) (fun _ i _ => 16 - (intOf i).toNat)
 case atStart =>
  refine ⟨0, by omega, rfl, 0, ?_⟩
  rw [yI]; rfl
 case round =>
  obtain ⟨k, hk, rfl, n, rfl⟩ := hrel
  by_cases hlt : k < 16
  ·have H := Lib.hid (yK k (xorF f g) f)
   go_wp2
   refine yQ 8 (by kernel_rfl) (by kernel_rfl) (fun _ _ _ _ _ h => h) ?_
   simp only [List.take_succ_cons, List.take_zero, List.drop_succ_cons, List.drop_zero]
   repeat (go_big_quiet_step (fail))
   refine wpQuiet_nil ?_
   rintro _ ⟨m, rfl⟩
   go_wp2
   go_roundw
   case rel => exact ⟨k + 1, by omega, by go_num, n + m, by rw [← H.out]; rfl⟩
   case measure => simp [intOf]; omega
  ·obtain rfl : k = 16 := by omega
   rw [yP]
   go_wp2
   refine bodyPost_ret (v := .agg (ba 16 (xorF f g))) (zS rfl _ _ (w.heap.size + 1 + 1) _ _ _ rfl (by simp [go_sem]) blk_u (by rw [zG]; exact blk_i)) rfl ⟨rfl, ?_⟩
   exact zL ((((Below.refl _ _).alloc (by simp) _).alloc (by simp) _).alloc (by simp; omega) _) _
def b1 (c : Bool) : BitVec 8 := if c then 1#8 else 0#8
theorem bit_val : ∀ (k : Fin 8) (b : BitVec 8), bits .and .u8 (I b / 2 ^ k.val) 1 = I (b1 (b.getLsbD k.val)) := by decide +kernel
theorem coef_any (f : Bf) (k : Nat) (hk : k < 128) (w : World) :
  Calls Tryz.prog 296 #[.agg (ba 16 f), .int .i64 k] w fun e w' => e = .returned (.int .u8 (I (b1 (fbit f k)))) ∧ Below w.heap.size w w' := by
 have h8 : k / 8 < 16 := by omega
 obtain ⟨hb0, hb1⟩ := I_bd (f (k / 8))
 go_enter Tryz.func296, Tryz.ntmps296
 go_wp2
 go_ret
 refine ⟨ret_u8 ?_, (Below.refl _ _).alloc (by simp) _⟩
 exact bit_val ⟨7 - k % 8, by omega⟩ (f (k / 8))
def nxF : Nat → Bf → Bf
 | 0, f => f
 | n + 1, f => if f (12 + n) + 1#8 = 0#8 then nxF n (upd f (12 + n) (f (12 + n) + 1#8)) else upd f (12 + n) (f (12 + n) + 1#8)
def nextF (f : Bf) : Bf := nxF 4 f
theorem nxF_low (n : Nat) (f : Bf) (i : Nat) (hi : i < 12) : nxF n f i = f i := by
 induction n generalizing f with
 | zero => rfl
 | succ n ih =>
  unfold nxF
  split
  ·rw [ih]; unfold upd; rw [if_neg (by omega)]
  ·unfold upd; rw [if_neg (by omega)]
theorem nextF_low (f : Bf) (i : Nat) (hi : i < 12) : nextF f i = f i := nxF_low 4 f i hi
theorem I_inc : ∀ a : BitVec 8, (I a + 1) % 256 = I (a + 1#8) := by decide +kernel
theorem I_nz : ∀ v : BitVec 8, v ≠ 0#8 → (I v != 0) = true := by decide +kernel
@[go_sem] theorem upd_same (f : Bf) (k : Nat) (v : BitVec 8) : upd f k v k = v := by simp [upd]
theorem nxF_stop {n : Nat} {g : Bf} {v : BitVec 8} (hv : v = g (12 + n) + 1#8) (h : v ≠ 0#8) : nxF (n + 1) g = upd g (12 + n) v := by
 subst hv; unfold nxF; rw [if_neg h]
theorem nxF_on {n : Nat} {g : Bf} {v : BitVec 8} (hv : v = g (12 + n) + 1#8) (h : v = 0#8) : nxF (n + 1) g = nxF n (upd g (12 + n) v) := by
 subst hv; conv => lhs; unfold nxF
 rw [if_pos h]
theorem bnext_any (f : Bf) (w : World) :
  Calls Tryz.prog 248 #[.agg (ba 16 f)] w fun e w' => e = .returned (.agg (ba 16 (nextF f))) ∧ Below w.heap.size w w' := by
 go_enter Tryz.func248, Tryz.ntmps248
 go_wp2
 go_loopw [3] (fun i wr => ∃ n : Nat, ∃ g : Bf, n ≤ 4 ∧ i = .int .i64 (11 + (n : Int)) ∧ nxF n g = nextF f ∧ wr = (w.alloc (.cells (ba 16 g) 266)).alloc (.cells (ba 16 fun _ => 0#8) 266)) (fun i _ => (intOf i).toNat)
 case atStart => exact ⟨4, f, by omega, rfl, rfl, rfl⟩
 case round =>
  obtain ⟨n, g, hn, rfl, hg, rfl⟩ := hrel
  have HG := Lib.hid hg
  clear hg
  rcases n with _ | n
  ·go_wp2
   have e := HG.out
   unfold nxF at e
   rw [e]
   refine bodyPost_ret (v := .agg (ba 16 (nextF f))) (zS rfl _ _ (w.heap.size + 1) _ _ _ rfl (by simp [go_sem]) blk_u (by rw [zG]; exact blk_i)) rfl ⟨rfl, ?_⟩
   exact ((Below.refl _ _).alloc (by simp) _).alloc (by simp) _
  ·have e1 : (11 + ((n + 1 : Nat) : Int)) = 12 + (n : Int) := by omega
   rw [e1]
   obtain ⟨hb0, hb1⟩ := I_bd (g (12 + n))
   obtain ⟨v, hv⟩ : ∃ v, v = g (12 + n) + 1#8 := ⟨_, rfl⟩
   have hi := I_inc (g (12 + n))
   rw [← hv] at hi
   have HV := Lib.hid hv
   have b16 : 12 + n < 16 := by omega
   have b12 : (12 : Int) ≤ 12 + (n : Int) := by omega
   clear hv e1
   by_cases hz : v = 0#8
   ·have q1 : (I v != 0) = false := by rw [hz]; rfl
    have HZ := Lib.hid hz
    clear hz
    go_wp2
    go_roundw
    case rel => exact ⟨n, _, by omega, by congr 1; omega, by rw [← HG.out, nxF_on HV.out HZ.out], rfl⟩
    case measure => simp [intOf]; omega
   ·have q1 : (I v != 0) = true := I_nz v hz
    have HN := Lib.hid hz
    clear hz
    go_wp2
    rw [← nxF_stop HV.out HN.out, HG.out]
    refine bodyPost_ret (v := .agg (ba 16 (nextF f))) (zS rfl _ _ (w.heap.size + 1) _ _ _ rfl (by simp [go_sem]) blk_u (by rw [zG]; exact blk_i)) rfl ⟨rfl, ?_⟩
    exact ((Below.refl _ _).alloc (by simp) _).alloc (by simp) _
def L (v : BitVec 64) : Int := (v.toNat : Int)
theorem L_bd (v : BitVec 64) : 0 ≤ L v ∧ L v ≤ 18446744073709551615 := by unfold L; omega
@[go_sem] theorem L_xor (a b : BitVec 64) : bits .xor .u64 (L a) (L b) = L (a ^^^ b) := by unfold L; rw [u64_xor_nat _ _ a.isLt b.isLt, BitVec.toNat_xor]
@[go_sem] theorem L_or (a b : BitVec 64) : bits .or .u64 (L a) (L b) = L (a ||| b) := by unfold L; rw [u64_or_nat _ _ a.isLt b.isLt, BitVec.toNat_or]
@[go_sem] theorem L_orI (a : BitVec 64) (v : BitVec 8) : bits .or .u64 (L a) (I v) = L (a ||| v.setWidth 64) := by
 unfold L I; rw [u64_or_nat _ _ a.isLt (by omega), BitVec.toNat_or, BitVec.toNat_setWidth, Nat.mod_eq_of_lt (show v.toNat < 2 ^ 64 by omega)]
theorem u64_wrap_nat (n : Nat) : IntKind.u64.wrap (n : Int) = ((n % 18446744073709551616 : Nat) : Int) := by
 show (n : Int) % 18446744073709551616 = _
 rw [Int.natCast_emod]; rfl
@[go_sem] theorem L_shl8 (a : BitVec 64) : IntKind.u64.wrap (L a * 256) = L (a <<< 8) := by
 unfold L
 rw [show (a.toNat : Int) * 256 = ((a.toNat * 256 : Nat) : Int) by rw [Int.natCast_mul]; rfl, u64_wrap_nat, BitVec.toNat_shiftLeft, Nat.shiftLeft_eq]
@[go_sem] theorem L_shl63 (a : BitVec 64) : IntKind.u64.wrap (L a * 9223372036854775808) = L (a <<< 63) := by
 unfold L
 rw [show (a.toNat : Int) * 9223372036854775808 = ((a.toNat * 9223372036854775808 : Nat) : Int) by rw [Int.natCast_mul]; rfl, u64_wrap_nat, BitVec.toNat_shiftLeft, Nat.shiftLeft_eq]
@[go_sem] theorem L_shr1 (a : BitVec 64) : L a / (2 : Int) = L (a >>> 1) := by
 unfold L; rw [BitVec.toNat_ushiftRight, Nat.shiftRight_eq_div_pow, Int.natCast_ediv]; rfl
@[irreducible] def pq (x y : BitVec 64) : Array Value := #[.int .u64 (L x), .int .u64 (L y)]
@[go_sem] theorem pq_size (x y : BitVec 64) : (pq x y).size = 2 := by unfold pq; rfl
@[go_sem] theorem pq_0 (x y : BitVec 64) (h : 0 < (pq x y).size) : (pq x y)[0] = .int .u64 (L x) := by unfold pq; rfl
@[go_sem] theorem pq_1 (x y : BitVec 64) (h : 1 < (pq x y).size) : (pq x y)[1] = .int .u64 (L y) := by unfold pq; rfl
@[go_sem] theorem pq_set0 (x y z : BitVec 64) : (pq x y).setIfInBounds 0 (.int .u64 (L z)) = pq z y := by unfold pq; rfl
@[go_sem] theorem pq_set1 (x y z : BitVec 64) : (pq x y).setIfInBounds 1 (.int .u64 (L z)) = pq x z := by unfold pq; rfl
@[go_sem] theorem ones_pq (x y : BitVec 64) : Ones (pq x y) := by unfold Ones pq; simp [Value.oneCell']
@[go_sem] theorem pq_ne (x y : BitVec 64) : (pq x y = #[]) = False := eq_false fun e => by have := congrArg Array.size e; rw [pq_size] at this; simp at this
@[go_sem] theorem ldR_pq (P : Program) (t : Nat) (w : World) (b : Nat) (x y : BitVec 64) : ldR P t 2 w b 0 (some (pq x y)) = .ok (.agg (pq x y)) w := by
 unfold ldR
 simp only [pq_size]
 rw [if_pos (by omega)]
 congr 2
 unfold pq; rfl
@[go_sem] theorem stR_pq (P : Program) (t : Nat) (w : World) (b : Nat) (x y u v : BitVec 64) : stR P t 2 w b 0 (.agg (pq x y)) (some (pq u v)) = .ok () (w.setRow b (pq x y)) := by
 have e : 0 + 2 ≤ (pq u v).size ∧ (Value.agg (pq x y)).cells.size = 2 ∧ Ones (Value.agg (pq x y)).cells := ⟨by rw [pq_size]; omega, pq_size x y, ones_pq x y⟩
 unfold stR
 simp only [if_pos e]
 congr 2
 unfold pq; rfl
theorem ply_u : Tryz.prog.underlying 347 = some (.array 2 253) := by kernel_rfl
theorem ply_i : (Tryz.prog.info? 347).map (·.size) = some 2 := by kernel_rfl
@[go_sem ↓] theorem ply_l (p : Value) : Instr.loadAt 347 p = ldA 347 p := rfl
@[go_sem ↓] theorem ply_s (p v : Value) : Instr.storeAt 347 p v = stA 347 p v := rfl
@[go_sem] theorem ply_ld (w : World) (b o : Nat) : (ldA 347 (.pointer (some ⟨b, o, none⟩))).run Tryz.prog w = ldR Tryz.prog 347 2 w b o (row w b) := yU _ _ _ ply_u 2 ply_i w b o
@[go_sem] theorem ply_st (w : World) (b o : Nat) (c : Array Value) : (stA 347 (.pointer (some ⟨b, o, none⟩)) (.agg c)).run Tryz.prog w = stR Tryz.prog 347 2 w b o (.agg c) (row w b) := yO _ 2 ply_i w b o c
theorem ply_z : (Tryz.prog.info? 347).map (·.zero) = some (some (.agg (pq 0#64 0#64))) := by unfold pq; kernel_rfl
@[go_sem ↓] theorem ply_zero (w : World) : (zeroValue 347).run Tryz.prog w = .ok (.agg (pq 0#64 0#64)) w := yC _ _ ply_z w
def wd (f : Bf) (s : Nat) : Nat → BitVec 64
 | 0 => 0#64
 | k + 1 => (wd f s k <<< 8) ||| (f (s + k)).setWidth 64
theorem polyOf_any (f : Bf) (w : World) :
  Calls Tryz.prog 295 #[.agg (ba 16 f)] w fun e w' => e = .returned (.agg (pq (wd f 0 8) (wd f 8 8))) ∧ Below w.heap.size w w' := by
 go_enter Tryz.func295, Tryz.ntmps295
 go_wp2
 go_loopw [4, 5, 7] (fun _ _ i wr => ∃ k : Nat, k ≤ 16 ∧ i = .int .i64 k ∧ wr = ((w.alloc (.cells (ba 16 f) 266)).alloc (.cells (pq 0#64 0#64) 347)).alloc (.cells (pq (wd f 0 (min k 8)) (wd f 8 (k - 8))) 347)) (fun _ _ i _ => 16 - (intOf i).toNat)
 case atStart => exact ⟨0, by omega, rfl, rfl⟩
 case round =>
  obtain ⟨k, hk, rfl, rfl⟩ := hrel
  by_cases hlt : k < 16
  ·obtain ⟨hb0, hb1⟩ := I_bd (f k)
   by_cases h8 : k < 8
   ·have q : (k : Int) / 8 = 0 := by omega
    obtain ⟨x, hx⟩ : ∃ x, x = wd f 0 (min k 8) := ⟨_, rfl⟩
    obtain ⟨y, hy⟩ : ∃ x, x = wd f 8 (k - 8) := ⟨_, rfl⟩
    rw [← hx, ← hy]
    have HX := Lib.hid hx
    have HY := Lib.hid hy
    obtain ⟨hx0, hx1⟩ := L_bd x
    clear hx hy
    go_wp2
    go_roundw
    case rel =>
     refine ⟨k + 1, by omega, by go_num, ?_⟩
     rw [HX.out, HY.out, show min (k + 1) 8 = min k 8 + 1 by omega, show k - 8 = 0 by omega, show k + 1 - 8 = 0 by omega]
     simp only [wd]
     rw [show 0 + min k 8 = k by omega]
    case measure => simp [intOf]; omega
   ·have q : (k : Int) / 8 = 1 := by omega
    obtain ⟨x, hx⟩ : ∃ x, x = wd f 0 (min k 8) := ⟨_, rfl⟩
    obtain ⟨y, hy⟩ : ∃ x, x = wd f 8 (k - 8) := ⟨_, rfl⟩
    rw [← hx, ← hy]
    have HX := Lib.hid hx
    have HY := Lib.hid hy
    obtain ⟨hy0, hy1⟩ := L_bd y
    clear hx hy
    go_wp2
    go_roundw
    case rel =>
     refine ⟨k + 1, by omega, by go_num, ?_⟩
     rw [HX.out, HY.out, show min (k + 1) 8 = 8 by omega, show min k 8 = 8 by omega, show k + 1 - 8 = (k - 8) + 1 by omega]
     simp only [wd]
     rw [show 8 + (k - 8) = k by omega]
    case measure => simp [intOf]; omega
  ·obtain rfl : k = 16 := by omega
   go_wp2
   refine bodyPost_ret (v := .agg (pq (wd f 0 8) (wd f 8 8))) (zS rfl _ _ (w.heap.size + 1) _ _ _ rfl (by simp [go_sem]) ply_u (by rw [pq_size]; exact ply_i)) rfl ⟨rfl, ?_⟩
   exact (((Below.refl _ _).alloc (by simp) _).alloc (by simp) _).alloc (by simp; omega) _
def tx0 (x y : BitVec 64) : BitVec 64 := (x >>> 1) ^^^ (if y.getLsbD 0 then 16212958658533785600#64 else 0#64)
def tx1 (x y : BitVec 64) : BitVec 64 := (x <<< 63) ||| (y >>> 1)
@[go_sem] theorem L_xorR (a : BitVec 64) : bits .xor .u64 (L a) 16212958658533785600 = L (a ^^^ 16212958658533785600#64) :=
 L_xor a 16212958658533785600#64
theorem L_odd (y : BitVec 64) (c : Bool) (h : y.getLsbD 0 = c) : (bits .and .u64 (L y) 1 == 1) = c := by
 unfold L
 have e := u64_and_nat y.toNat 1 y.isLt (by omega)
 rw [show ((1 : Nat) : Int) = 1 from rfl] at e
 rw [e, Nat.and_one_is_mod, ← h, ← BitVec.testBit_toNat, Nat.testBit_zero]
 rw [Bool.eq_iff_iff]
 simp
 omega
theorem timesX_any (x y : BitVec 64) (w : World) :
  Calls Tryz.prog 297 #[.agg (pq x y)] w fun e w' => e = .returned (.agg (pq (tx0 x y) (tx1 x y))) ∧ Below w.heap.size w w' := by
 obtain ⟨hx0, hx1⟩ := L_bd x
 obtain ⟨hy0, hy1⟩ := L_bd y
 cases hc : y.getLsbD 0
 ·have ht := L_odd y false hc
  have HV := Lib.hid (show pq (x >>> 1) (x <<< 63 ||| y >>> 1) = pq (tx0 x y) (tx1 x y) by unfold tx0 tx1; rw [hc]; simp)
  clear hc
  go_enter Tryz.func297, Tryz.ntmps297
  go_wp2
  rw [HV.out]
  refine bodyPost_ret (v := .agg (pq (tx0 x y) (tx1 x y))) (zS rfl _ _ (w.heap.size + 1) _ _ _ rfl (by simp [go_sem]) ply_u (by rw [pq_size]; exact ply_i)) rfl ⟨rfl, ?_⟩
  exact (((Below.refl _ _).alloc (by simp) _).alloc (by simp) _).alloc (by simp; omega) _
 ·have ht := L_odd y true hc
  have HV := Lib.hid (show pq (x >>> 1 ^^^ 16212958658533785600#64) (x <<< 63 ||| y >>> 1) = pq (tx0 x y) (tx1 x y) by unfold tx0 tx1; rw [hc]; simp)
  clear hc
  go_enter Tryz.func297, Tryz.ntmps297
  go_wp2
  rw [HV.out]
  refine bodyPost_ret (v := .agg (pq (tx0 x y) (tx1 x y))) (zS rfl _ _ (w.heap.size + 1) _ _ _ rfl (by simp [go_sem]) ply_u (by rw [pq_size]; exact ply_i)) rfl ⟨rfl, ?_⟩
  exact (((Below.refl _ _).alloc (by simp) _).alloc (by simp) _).alloc (by simp; omega) _
theorem L_byte (x : BitVec 64) (s : Nat) : L x / (2 : Int) ^ s % 256 = I ((x >>> s).setWidth 8) := by
 unfold L I
 rw [BitVec.toNat_setWidth, BitVec.toNat_ushiftRight, Nat.shiftRight_eq_div_pow, Int.natCast_emod, Int.natCast_ediv, Int.natCast_pow]
 rfl
theorem byt_hi (x y : BitVec 64) (k : Nat) (h : k < 8) : (x >>> (56 - k % 8 * 8)).setWidth 8 = byt (x ++ y) k := by
 apply BitVec.eq_of_getLsbD_eq
 intro j hj
 unfold byt
 rw [BitVec.getLsbD_setWidth, BitVec.getLsbD_ushiftRight, BitVec.getLsbD_extractLsb', BitVec.getLsbD_append]
 rw [if_neg (by omega), show 120 - 8 * k + j - 64 = 56 - k % 8 * 8 + j by omega]
theorem byt_lo (x y : BitVec 64) (k : Nat) (h : 8 ≤ k) (h' : k < 16) : (y >>> (56 - k % 8 * 8)).setWidth 8 = byt (x ++ y) k := by
 apply BitVec.eq_of_getLsbD_eq
 intro j hj
 unfold byt
 rw [BitVec.getLsbD_setWidth, BitVec.getLsbD_ushiftRight, BitVec.getLsbD_extractLsb', BitVec.getLsbD_append]
 rw [if_pos (by omega), show 120 - 8 * k + j = 56 - k % 8 * 8 + j by omega]
theorem blockOf_any (x y : BitVec 64) (w : World) :
  Calls Tryz.prog 298 #[.agg (pq x y)] w fun e w' => e = .returned (.agg (ba 16 (byt (x ++ y)))) ∧ Below w.heap.size w w' := by
 go_enter Tryz.func298, Tryz.ntmps298
 go_wp2
 go_loopw [4, 5] (fun _ i wr => ∃ k : Nat, k ≤ 16 ∧ i = .int .i64 k ∧ wr = ((w.alloc (.cells (pq x y) 347)).alloc (.cells (ba 16 fun _ => 0#8) 266)).alloc (.cells (ba 16 (upto k (byt (x ++ y)) fun _ => 0#8)) 266)) (fun _ i _ => 16 - (intOf i).toNat)
 case atStart => exact ⟨0, by omega, rfl, by rw [yI]⟩
 case round =>
  obtain ⟨k, hk, rfl, rfl⟩ := hrel
  by_cases hlt : k < 16
  ·obtain ⟨hx0, hx1⟩ := L_bd x
   obtain ⟨hy0, hy1⟩ := L_bd y
   have HS := Lib.hid (yK k (byt (x ++ y)) fun _ => 0#8)
   by_cases h8 : k < 8
   ·have q : (k : Int) / 8 = 0 := by omega
    have HB := Lib.hid (byt_hi x y k h8)
    go_wp2
    go_roundw
    case rel => exact ⟨k + 1, by omega, by go_num, by rw [L_byte, HB.out, ba_set, HS.out]⟩
    case measure => simp [intOf]; omega
   ·have q : (k : Int) / 8 = 1 := by omega
    have HB := Lib.hid (byt_lo x y k (by omega) hlt)
    go_wp2
    go_roundw
    case rel => exact ⟨k + 1, by omega, by go_num, by rw [L_byte, HB.out, ba_set, HS.out]⟩
    case measure => simp [intOf]; omega
  ·obtain rfl : k = 16 := by omega
   rw [yP]
   go_wp2
   refine bodyPost_ret (v := .agg (ba 16 (byt (x ++ y)))) (zS rfl _ _ (w.heap.size + 1) _ _ _ rfl (by simp [go_sem]) blk_u (by rw [zG]; exact blk_i)) rfl ⟨rfl, ?_⟩
   exact (((Below.refl _ _).alloc (by simp) _).alloc (by simp) _).alloc (by simp; omega) _
theorem wd_bit (f : Bf) (s : Nat) : ∀ k j, j < 64 → (wd f s k).getLsbD j = (decide (j < 8 * k) && (f (s + k - 1 - j / 8)).getLsbD (j % 8)) := by
 intro k
 induction k with
 | zero => intro j _; simp [wd]
 | succ k ih =>
  intro j hj
  simp only [wd]
  rw [BitVec.getLsbD_or, BitVec.getLsbD_shiftLeft, BitVec.getLsbD_setWidth]
  by_cases h : j < 8
  ·rw [show j / 8 = 0 by omega, show j % 8 = j by omega, show s + (k + 1) - 1 - 0 = s + k by omega]
   simp [h, hj]
   omega
  ·rw [ih (j - 8) (by omega), BitVec.getLsbD_of_ge (f (s + k)) j (by omega), Bool.and_false, Bool.or_false, show (j - 8) % 8 = j % 8 by omega, show s + (k + 1) - 1 - j / 8 = s + k - 1 - (j - 8) / 8 by omega]
   simp only [hj, h, decide_true, decide_false, Bool.not_false, Bool.true_and]
   congr 1
   rw [Bool.eq_iff_iff]; simp; omega
theorem pol_words (f : Bf) : pol f = wd f 0 8 ++ wd f 8 8 := bt_ext fun i hi => by
 rw [bt_pol f i hi]
 unfold bt fbit
 rw [BitVec.getLsbD_append]
 by_cases h : i < 64
 ·rw [if_neg (by omega), wd_bit _ _ _ _ (by omega), decide_eq_true (by omega), Bool.true_and, show 0 + 8 - 1 - (127 - i - 64) / 8 = i / 8 by omega, show (127 - i - 64) % 8 = 7 - i % 8 by omega]
 ·rw [if_pos (by omega), wd_bit _ _ _ _ (by omega), decide_eq_true (by omega), Bool.true_and, show 8 + 8 - 1 - (127 - i) / 8 = i / 8 by omega, show (127 - i) % 8 = 7 - i % 8 by omega]
theorem gx_words (x y : BitVec 64) : gx (x ++ y) = tx0 x y ++ tx1 x y := by
 have hR : gR = 16212958658533785600#64 ++ 0#64 := by decide
 have h0 : (x ++ y).getLsbD 0 = y.getLsbD 0 := by rw [BitVec.getLsbD_append, if_pos (by omega)]
 have hs : (x ++ y) >>> 1 = (x >>> 1) ++ ((x <<< 63) ||| (y >>> 1)) := by
  apply BitVec.eq_of_getLsbD_eq
  intro j hj
  rw [BitVec.getLsbD_ushiftRight, BitVec.getLsbD_append, BitVec.getLsbD_append]
  by_cases h : j < 63
  ·rw [if_pos (by omega), if_pos (by omega), BitVec.getLsbD_or, BitVec.getLsbD_shiftLeft, BitVec.getLsbD_ushiftRight]
   simp [show j < 63 from h]
  ·by_cases h2 : j = 63
   ·subst h2
    rw [if_neg (by omega), if_pos (by omega), BitVec.getLsbD_or, BitVec.getLsbD_shiftLeft, BitVec.getLsbD_ushiftRight]
    simp
   ·rw [if_neg (by omega), if_neg (by omega), BitVec.getLsbD_ushiftRight]
    congr 1; omega
 have hz : ∀ a b c d : BitVec 64, (a ++ b) ^^^ (c ++ d) = (a ^^^ c) ++ (b ^^^ d) := fun a b c d => by
  apply BitVec.eq_of_getLsbD_eq
  intro j hj
  rw [BitVec.getLsbD_xor, BitVec.getLsbD_append, BitVec.getLsbD_append, BitVec.getLsbD_append]
  by_cases h : j < 64
  ·simp [h]
  ·simp [h]
 unfold gx tx0 tx1
 rw [h0, hs, hR]
 cases y.getLsbD 0
 ·simp
 ·simp only [if_true]
  rw [hz, BitVec.xor_zero]
theorem add_words (a b c d : BitVec 64) : (a ++ b) ^^^ (c ++ d) = (a ^^^ c) ++ (b ^^^ d) := by
 apply BitVec.eq_of_getLsbD_eq
 intro j hj
 rw [BitVec.getLsbD_xor, BitVec.getLsbD_append, BitVec.getLsbD_append, BitVec.getLsbD_append]
 by_cases h : j < 64
 ·simp [h]
 ·simp [h]
theorem gmF_words {x y : BitVec 64} {f g : Bf} (h : x ++ y = gmA (pol f) (pol g) 128) : byt (x ++ y) = gmF f g := by rw [h]; rfl
theorem mul_on {x y u v : BitVec 64} {f g : Bf} {k : Nat} (hk : k < 128) (h1 : x ++ y = gmA (pol f) (pol g) k) (h2 : u ++ v = gxn k (pol g)) (hb : fbit f k = true) :
  (x ^^^ u) ++ (y ^^^ v) = gmA (pol f) (pol g) (k + 1) := by
 rw [← add_words, h1, h2]
 show _ = gmA _ _ k ^^^ sel (bt (pol f) k) (gxn k (pol g))
 rw [bt_pol f k hk, hb]; rfl
theorem mul_off {x y : BitVec 64} {f g : Bf} {k : Nat} (hk : k < 128) (h1 : x ++ y = gmA (pol f) (pol g) k) (hb : fbit f k = false) :
  x ++ y = gmA (pol f) (pol g) (k + 1) := by
 rw [h1]
 show _ = gmA _ _ k ^^^ sel (bt (pol f) k) (gxn k (pol g))
 rw [bt_pol f k hk, hb]; simp [sel]
theorem mul_x {u v : BitVec 64} {g : Bf} {k : Nat} (h2 : u ++ v = gxn k (pol g)) : tx0 u v ++ tx1 u v = gxn (k + 1) (pol g) := by
 rw [← gx_words, h2]; rfl
structure MuInv (w : World) (f : Bf) (q : Nat) (x y u v : BitVec 64) (wr : World) : Prop where
 below : Below w.heap.size w wr
 hq : w.heap.size + 4 ≤ q
 r0 : row wr w.heap.size = some (ba 16 f)
 r2 : row wr (w.heap.size + 1 + 1) = some (ba 16 fun _ => 0#8)
 r3 : row wr (w.heap.size + 1 + 1 + 1) = some (pq x y)
 rq : row wr q = some (pq u v)
theorem MuInv.size {w : World} {f : Bf} {q : Nat} {x y u v : BitVec 64} {wr : World} (h : MuInv w f q x y u v wr) : w.heap.size + 5 ≤ wr.heap.size := by
 have := zK h.rq; have := h.hq; omega
theorem MuInv.call {w : World} {f : Bf} {q : Nat} {x y u v : BitVec 64} {wr w' : World} (h : MuInv w f q x y u v wr) (hb : Below wr.heap.size wr w') : MuInv w f q x y u v w' :=
 ⟨onto h.below (by have := h.size; omega) hb, h.hq, zC hb h.r0, zC hb h.r2, zC hb h.r3, zC hb h.rq⟩
theorem MuInv.setq {w : World} {f : Bf} {q : Nat} {x y u v : BitVec 64} {wr : World} (h : MuInv w f q x y u v wr) (u' v' : BitVec 64) : MuInv w f q x y u' v' (wr.setRow q (pq u' v')) := by
 have hq := h.hq
 exact ⟨zE h.below (by omega) _, hq, by rw [zB _ _ _ _ (by omega)]; exact h.r0, by rw [zB _ _ _ _ (by omega)]; exact h.r2, by rw [zB _ _ _ _ (by omega)]; exact h.r3, zD h.rq _⟩
theorem MuInv.set0 {w : World} {f : Bf} {q : Nat} {x y u v : BitVec 64} {wr : World} (h : MuInv w f q x y u v wr) (z : BitVec 64) : MuInv w f q z y u v (wr.setCell ⟨w.heap.size + 1 + 1 + 1, 0, none⟩ (.int .u64 (L z))) := by
 have hq := h.hq
 rw [zP h.r3, pq_set0]
 exact ⟨zE h.below (by omega) _, hq, by rw [zB _ _ _ _ (by omega)]; exact h.r0, by rw [zB _ _ _ _ (by omega)]; exact h.r2, zD h.r3 _, by rw [zB _ _ _ _ (by omega)]; exact h.rq⟩
theorem MuInv.set1 {w : World} {f : Bf} {q : Nat} {x y u v : BitVec 64} {wr : World} (h : MuInv w f q x y u v wr) (z : BitVec 64) : MuInv w f q x z u v (wr.setCell ⟨w.heap.size + 1 + 1 + 1, 1, none⟩ (.int .u64 (L z))) := by
 have hq := h.hq
 rw [zP h.r3, pq_set1]
 exact ⟨zE h.below (by omega) _, hq, by rw [zB _ _ _ _ (by omega)]; exact h.r0, by rw [zB _ _ _ _ (by omega)]; exact h.r2, zD h.r3 _, by rw [zB _ _ _ _ (by omega)]; exact h.rq⟩
@[go_sem] theorem row_setCell_ne (w : World) (a : Addr) (b : Nat) (v : Value) (h : b ≠ a.block) : row (w.setCell a v) b = row w b := zU w a b v h
theorem bmul_any (f g : Bf) (w : World) :
  Calls Tryz.prog 277 #[.agg (ba 16 f), .agg (ba 16 g)] w fun e w' => e = .returned (.agg (ba 16 (gmF f g))) ∧ Below w.heap.size w w' := by
 have B0 := Lib.hid (((((Below.refl w.heap.size w).alloc (by simp) (.cells (ba 16 f) 266)).alloc (by simp) (.cells (ba 16 g) 266)).alloc (by simp; omega) (.cells (ba 16 fun _ => 0#8) 266)).alloc (by simp; omega) (.cells (pq 0#64 0#64) 347))
 go_enter Tryz.func277, Tryz.ntmps277
 go_wp2_with fail
 refine (polyOf_any g _).mono ?_
 rintro e w1 ⟨rfl, hb1⟩
 have I0 : MuInv w f w1.heap.size 0#64 0#64 (wd g 0 8) (wd g 8 8) (w1.alloc (.cells (pq (wd g 0 8) (wd g 8 8)) 347)) := by
  have s1 : w.heap.size + 4 ≤ w1.heap.size := by have := hb1.size; simp at this; omega
  exact ⟨(onto B0.out (by simp; omega) hb1).alloc (by omega) _, by omega, zI (zC hb1 (by simp [go_sem])) _, zI (zC hb1 (by simp [go_sem])) _, zI (zC hb1 (by simp [go_sem])) _, by simp [go_sem]⟩
 have HI0 := Lib.hid I0
 clear I0 hb1 B0
 go_wp2_with fail
 go_loopw [7, 10] (fun _ i wr => ∃ k : Nat, k ≤ 128 ∧ i = .int .i64 k ∧ ∃ x y u v, x ++ y = gmA (pol f) (pol g) k ∧ u ++ v = gxn k (pol g) ∧ MuInv w f w1.heap.size x y u v wr) (fun _ i _ => 128 - (intOf i).toNat)
 case atStart => exact ⟨0, by omega, rfl, _, _, _, _, rfl, (pol_words g).symm, HI0.out⟩
 case round =>
  clear HI0
  obtain ⟨k, hk, rfl, x, y, u, v, hxy, huv, hI⟩ := hrel
  have HXY := Lib.hid hxy
  have HUV := Lib.hid huv
  have r0 := hI.r0
  have HI := Lib.hid hI
  clear hI hxy huv
  by_cases hlt : k < 128
  ·go_wp2_with fail
   refine (coef_any f k hlt _).mono ?_
   rintro e w2 ⟨rfl, hb2⟩
   have I2 := HI.out.call hb2
   clear hb2 r0 HI
   have rq := I2.rq
   have cq := zF rq
   have H2 := Lib.hid I2
   cases hb : fbit f k
   ·have HX := Lib.hid (mul_off hlt HXY.out hb)
    have hd : (I (b1 false) == 1) = false := by decide
    clear hb I2 HXY cq
    go_wp2_with fail
    refine (timesX_any u v _).mono ?_
    rintro e w3 ⟨rfl, hb3⟩
    have I3 := H2.out.call hb3
    have rq3 := I3.rq
    have H4 := Lib.hid (I3.setq (tx0 u v) (tx1 u v))
    clear hb3 I3 rq H2 hd
    go_wp2_with fail
    go_roundw
    case rel => exact ⟨k + 1, by omega, by go_num, _, _, _, _, HX.out, mul_x HUV.out, H4.out⟩
    case measure => simp [intOf]; omega
   ·have HX := Lib.hid (mul_on hlt HXY.out HUV.out hb)
    have hd : (I (b1 true) == 1) = true := by decide
    have c3 := zF I2.r3
    have f3 := zW I2.r3
    have hne : w1.heap.size ≠ w.heap.size + 1 + 1 + 1 := by have := I2.hq; omega
    clear hb I2 HXY
    go_wp2_with fail
    refine (timesX_any u v _).mono ?_
    rintro e w3 ⟨rfl, hb3⟩
    have I3 := ((H2.out.set0 (x ^^^ u)).set1 (y ^^^ v)).call hb3
    have rq3 := I3.rq
    have H4 := Lib.hid (I3.setq (tx0 u v) (tx1 u v))
    clear hb3 I3 rq H2 hd c3 f3 cq hne
    go_wp2_with fail
    go_roundw
    case rel => exact ⟨k + 1, by omega, by go_num, _, _, _, _, HX.out, mul_x HUV.out, H4.out⟩
    case measure => simp [intOf]; omega
  ·obtain rfl : k = 128 := by omega
   have r3 := HI.out.r3
   have HV := Lib.hid (gmF_words HXY.out)
   clear r0
   go_wp2_with fail
   refine (blockOf_any x y _).mono ?_
   rw [HV.out]
   rintro e w2 ⟨rfl, hb2⟩
   have I2 := HI.out.call hb2
   have r2 := I2.r2
   have HB := Lib.hid I2.below
   clear hb2 I2 HI r3
   go_wp2_with fail
   refine bodyPost_ret (v := .agg (ba 16 (gmF f g))) (zS rfl _ _ (w.heap.size + 1 + 1) _ _ _ rfl (zD r2 _) blk_u (by rw [zG]; exact blk_i)) rfl ⟨rfl, ?_⟩
   exact zE HB.out (by omega) _
def grp (b : Bf) (n o : Nat) : Bf := fun i => if o + i < n then b (o + i) else 0#8
def hshT (h b : Bf) (n : Nat) : Nat → Bf
 | 0 => nF
 | j + 1 => gmF (xorF (hshT h b n j) (grp b n (16 * j))) h
def hshF (h b : Bf) (n : Nat) : Bf := hshT h b n ((n + 15) / 16)
theorem grp_ba (b : Bf) (n j m : Nat) (hm : m = min (n - 16 * j) 16) : ba 16 (putF (fun _ => 0#8) 0 m (offF b (16 * j))) = ba 16 (grp b n (16 * j)) := yT fun i hi => by
 unfold putF grp offF
 by_cases h : 16 * j + i < n
 ·rw [if_pos h, if_pos (by omega), Nat.sub_zero]
 ·rw [if_neg h, if_neg (by omega)]
def padF (a : Bf) (N : Nat) : Bf := fun i => if i < N then a i else 0#8
def slLen : Value → Nat
 | .slice _ n _ => n
 | _ => 0
structure HsInv (w : World) (f y : Bf) (wr : World) : Prop where
 below : Below w.heap.size w wr
 size : w.heap.size + 3 ≤ wr.heap.size
 r0 : row wr w.heap.size = some (ba 16 f)
 r1 : row wr (w.heap.size + 1) = some (ba 16 fun _ => 0#8)
 r2 : row wr (w.heap.size + 1 + 1) = some (ba 16 y)
theorem HsInv.call {w : World} {f y : Bf} {wr w' : World} (h : HsInv w f y wr) (hb : Below wr.heap.size wr w') : HsInv w f y w' :=
 ⟨onto h.below (by have := h.size; omega) hb, Nat.le_trans h.size hb.size, zC hb h.r0, zC hb h.r1, zC hb h.r2⟩
theorem HsInv.put {w : World} {f y : Bf} {wr : World} (h : HsInv w f y wr) (y' : Bf) : HsInv w f y' (wr.setRow (w.heap.size + 1 + 1) (ba 16 y')) :=
 ⟨zE h.below (by omega) _, by simpa using h.size, by rw [zB _ _ _ _ (by omega)]; exact h.r0, by rw [zB _ _ _ _ (by omega)]; exact h.r1, zD h.r2 _⟩
theorem bhash_any (f b : Bf) (n c : Nat) (A : Option Addr) (w : World) (hs : Sl w w.heap.size A n c b) :
  Calls Tryz.prog 251 #[.agg (ba 16 f), .slice A n c] w fun e w' => e = .returned (.agg (ba 16 (hshF f b n))) ∧ Below w.heap.size w w' := by
 have X0 : HsInv w f nF (((w.alloc (.cells (ba 16 f) 266)).alloc (.cells (ba 16 fun _ => 0#8) 266)).alloc (.cells (ba 16 fun _ => 0#8) 266)) :=
  ⟨(((Below.refl _ _).alloc (by simp) _).alloc (by simp) _).alloc (by simp; omega) _, by simp, by simp [go_sem], by simp [go_sem], by simp [go_sem]; rfl⟩
 have HX0 := Lib.hid X0
 have HS := Lib.hid hs
 clear X0 hs
 go_enter Tryz.func251, Tryz.ntmps251
 go_wp2
 go_loopw [1] (fun v wr => ∃ j : Nat, ∃ A' : Option Addr, ∃ c' : Nat, j ≤ (n + 15) / 16 ∧ v = .slice A' (n - 16 * j) c' ∧ Sl wr w.heap.size A' (n - 16 * j) c' (offF b (16 * j)) ∧ HsInv w f (hshT f b n j) wr) (fun v _ => slLen v)
 case atStart => exact ⟨0, A, c, by omega, rfl, by rw [Nat.mul_zero, offF_zero]; exact HS.out.below HX0.out.below, HX0.out⟩
 case round =>
  clear HX0 HS
  obtain ⟨j, A', c', hj, rfl, hs, hI⟩ := hrel
  obtain ⟨wo, rfl⟩ : ∃ wo : World, wo = wr := ⟨_, rfl⟩
  obtain ⟨r, hr⟩ : ∃ r, r = n - 16 * j := ⟨_, rfl⟩
  rw [← hr]
  rw [← hr] at hs
  have HR := Lib.hid hr
  have HS := Lib.hid hs
  have HI := Lib.hid hI
  clear hr hs hI
  rcases Nat.eq_zero_or_pos r with rfl | hpos
  ·have r1 := HI.out.r1
   have r2 := HI.out.r2
   have HV := Lib.hid (show hshT f b n j = hshF f b n by unfold hshF; congr 1; have := HR.out; omega)
   rw [HV.out] at r2
   have hd : decide ((0 : Int) < 0) = false := by decide
   go_wp2_with fail
   refine bodyPost_ret (v := .agg (ba 16 (hshF f b n))) (zS rfl _ _ (w.heap.size + 1) _ _ _ rfl (zD r1 _) blk_u (by rw [zG]; exact blk_i)) rfl ⟨rfl, ?_⟩
   exact zE HI.out.below (by omega) _
  ·have hd : decide ((0 : Int) < (r : Int)) = true := by simp; omega
   obtain ⟨m, hm⟩ : ∃ m, m = min r 16 := ⟨_, rfl⟩
   have HM := Lib.hid hm
   have hfrom := run_from zZ u8_i A' r c' m (by omega)
   have H2 := Lib.hid (HI.out.call ((Below.refl _ _).alloc (Nat.le_refl _) (.cells (ba 16 (grp b n (16 * j))) 266)))
   have HC := Lib.hid (HS.out.from_ m (by omega))
   clear hm
   go_wp2_with (refine wpl_copy rfl (.tmp 11) (.tmp 12) 22 22 5 rfl zZ u8_i (zA _ _ _ _ rfl) (HS.out.below ((Below.refl _ _).alloc (by have := HI.out.size; omega) _)) HM.out rfl rfl ?_)
   rw [grp_ba b n j m (by rw [HM.out, HR.out])]
   have rg : row (wo.alloc (.cells (ba 16 (grp b n (16 * j))) 266)) wo.heap.size = some (ba 16 (grp b n (16 * j))) := zA _ _ _ _ rfl
   have HC2 := Lib.hid (HC.out.below ((Below.refl w.heap.size wo).alloc (by have := HI.out.size; omega) (.cells (ba 16 (grp b n (16 * j))) 266)))
   clear HC HS
   generalize wo.alloc (.cells (ba 16 (grp b n (16 * j))) 266) = w1 at H2 rg HC2 ⊢
   have q0 := After.row H2.out.r0
   have q2 := After.row H2.out.r2
   have qg := After.row rg
   clear rg hd
   obtain ⟨y, hy⟩ : ∃ y, y = hshT f b n j := ⟨_, rfl⟩
   obtain ⟨x, hx⟩ : ∃ x, x = grp b n (16 * j) := ⟨_, rfl⟩
   rw [← hy] at q2
   rw [← hx] at qg
   have HY := Lib.hid hy
   have HXX := Lib.hid hx
   clear hy hx
   refine seen_tail 0 5 (by kernel_rfl) (by kernel_rfl) (fun _ _ _ _ _ h => h) ?_
   simp only [List.take_succ_cons, List.take_zero, List.drop_succ_cons, List.drop_zero]
   repeat (go_big_quiet_step ((first | (go_at_call 246; refine After.call _ (bxor_any y x _)) | (go_at_call 277; refine After.call _ (bmul_any (xorF y x) f _)))))
   refine wpQuiet_nil ?_
   rintro _ ⟨z, rfl⟩
   have H3 := Lib.hid ((H2.out.call z.below).put (hshT f b n (j + 1)))
   have HC3 := Lib.hid (HC2.out.below (by have := H2.out.size; exact (z.below.mono (by omega))))
   have HV := Lib.hid (show gmF (xorF y x) f = hshT f b n (j + 1) by rw [HY.out, HXX.out]; rfl)
   clear q0 qg
   go_wp2_with fail
   have e16 : r - m = n - 16 * (j + 1) := by have := HR.out; have := HM.out; omega
   have HE := Lib.hid e16
   have HF := Lib.hid (HC3.out.congr (b' := offF b (16 * (j + 1))) fun i hi => by
    have := HR.out; have := HM.out
    unfold offF; congr 1; omega)
   have HJ := Lib.hid (show j + 1 ≤ (n + 15) / 16 by have := HR.out; omega)
   have hmp : 0 < m := by have := HM.out; omega
   clear e16 hfrom q2
   go_roundw
   case rel =>
    rw [HE.out] at HF ⊢
    rw [HV.out]
    exact ⟨j + 1, _, _, HJ.out, rfl, HF.out.below (zE (Below.refl _ _) (by omega) _), H3.out⟩
   case measure => simp only [slLen]; omega
end Go.Proofs.YteffjpdcghlnlaaGreatDoor.Oct
