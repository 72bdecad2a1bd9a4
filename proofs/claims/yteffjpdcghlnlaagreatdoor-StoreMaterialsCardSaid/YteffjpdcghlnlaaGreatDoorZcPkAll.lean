import Derived.Test.YteffjpdcghlnlaaGreatDoorZcLib
import Derived.Test.YteffjpdcghlnlaaGreatDoorZcAa
import Derived.Lib.Hide
import Derived.Lib.SlBytesConst
import Derived.WalkSpells
set_option linter.unusedVariables false
set_option linter.unusedSimpArgs false
set_option maxHeartbeats 4000000
set_option maxRecDepth 20000
namespace Go.Proofs.YteffjpdcghlnlaaGreatDoor.Oct
def nd (n : Nat) : Nat := if n = 0 then 0 else if n < 256 then 1 else if n < 65536 then 2 else if n < 16777216 then 3 else if n < 4294967296 then 4 else if n < 1099511627776 then 5 else if n < 281474976710656 then 6 else if n < 72057594037927936 then 7 else 8
theorem nd_le (n : Nat) : nd n ≤ 8 := by unfold nd; repeat' split
                                         all_goals omega
theorem nd_lt (n : Nat) (h : n < 18446744073709551616) : n < 256 ^ nd n := by
 unfold nd
 repeat' split
 all_goals (simp; try omega)
theorem nd_ge (n : Nat) (h : 0 < nd n) : 256 ^ (nd n - 1) ≤ n := by
 by_cases h0 : n = 0
 ·subst h0; exact absurd h (by decide)
 unfold nd
 repeat' split
 all_goals (simp; try omega)
def val (f : Bf) : Nat → Nat
 | 0 => 0
 | k + 1 => val f k * 256 + (f k).toNat
theorem val_congr {f g : Bf} : ∀ {k : Nat}, (∀ i, i < k → f i = g i) → val f k = val g k
 | 0, _ => rfl
 | k + 1, h => by simp only [val]; rw [val_congr (k := k) fun i hi => h i (by omega), h k (by omega)]
theorem val_lt (f : Bf) : ∀ k : Nat, val f k < 256 ^ k
 | 0 => by simp [val]
 | k + 1 => by
  have h1 := val_lt f k
  have h2 := (f k).isLt
  simp only [val]
  rw [Nat.pow_succ]
  omega
theorem val_u64 (f : Bf) (k : Nat) (hk : k ≤ 8) : val f k < 18446744073709551616 := by
 have h := val_lt f k
 have : 256 ^ k ≤ 256 ^ 8 := Nat.pow_le_pow_right (by omega) hk
 have e : (256 : Nat) ^ 8 = 18446744073709551616 := by decide
 omega
theorem val_u56 (f : Bf) (k : Nat) (hk : k ≤ 7) : val f k < 72057594037927936 := by
 have h := val_lt f k
 have : 256 ^ k ≤ 256 ^ 7 := Nat.pow_le_pow_right (by omega) hk
 have e : (256 : Nat) ^ 7 = 72057594037927936 := by decide
 omega
def encL (n : Nat) : Nat := nd n + 1
def encF (n : Nat) : Bf := fun i => if i = 0 then BitVec.ofNat 8 (nd n) else BitVec.ofNat 8 (n / 256 ^ (nd n - i))
theorem encL_le (n : Nat) : encL n ≤ 9 := by have := nd_le n; unfold encL; omega
theorem encL_pos (n : Nat) : 0 < encL n := by unfold encL; omega
theorem encF_zero (n : Nat) : (encF n 0).toNat = nd n := by
 have := nd_le n
 unfold encF
 rw [if_pos rfl, BitVec.toNat_ofNat]
 omega
theorem enc_val (n : Nat) (h : n < 18446744073709551616) : ∀ j : Nat, j ≤ nd n → val (offF (encF n) 1) j = n / 256 ^ (nd n - j)
 | 0, _ => by
  have h1 := nd_lt n h
  simp only [val, Nat.sub_zero]
  rw [Nat.div_eq_of_lt h1]
 | j + 1, hj => by
  rw [val, enc_val n h j (by omega)]
  unfold offF encF
  rw [if_neg (by omega), BitVec.toNat_ofNat, show nd n - j = nd n - (j + 1) + 1 by omega, Nat.pow_succ, ← Nat.div_div_eq_div_mul, show nd n - (1 + j) = nd n - (j + 1) by omega]
  omega
theorem enc_all (n : Nat) (h : n < 18446744073709551616) : val (offF (encF n) 1) (nd n) = n := by
 rw [enc_val n h (nd n) (Nat.le_refl _), Nat.sub_self, Nat.pow_zero, Nat.div_one]
theorem enc_one (n : Nat) (h : n < 18446744073709551616) (h0 : 0 < nd n) : encF n 1 ≠ 0#8 := by
 intro e
 have h1 := congrArg BitVec.toNat e
 have h2 := nd_ge n h0
 have h3 := nd_lt n h
 unfold encF at h1
 rw [if_neg (by omega), BitVec.toNat_ofNat] at h1
 have hp : 0 < 256 ^ (nd n - 1) := Nat.pow_pos (by omega)
 have h4 : 1 ≤ n / 256 ^ (nd n - 1) := (Nat.one_le_div_iff hp).2 h2
 have h5 : n / 256 ^ (nd n - 1) < 256 := by
  rw [Nat.div_lt_iff_lt_mul hp, ← Nat.pow_succ', Nat.succ_eq_add_one, show nd n - 1 + 1 = nd n by omega]; exact h3
 have : (0#8).toNat = 0 := rfl
 omega
def tkV (f : Bf) : Nat := val (offF f 1) (f 0).toNat
def tkL (f : Bf) : Nat := (f 0).toNat + 1
def tkE (n : Nat) (f : Bf) : Nat :=
 if n = 0 then 3 else if 8 < (f 0).toNat then 80 else if n ≤ (f 0).toNat then 3
 else if 0 < (f 0).toNat ∧ f 1 = 0#8 then 80 else if 9223372036854775808 ≤ tkV f then 80 else 0
theorem tk_of {n : Nat} {f : Bf} (h0 : (f 0).toNat ≤ 8) (h1 : (f 0).toNat < n) (h2 : 0 < (f 0).toNat → f 1 ≠ 0#8) (h3 : tkV f < 9223372036854775808) : tkE n f = 0 := by
 unfold tkE
 rw [if_neg (by omega), if_neg (by omega), if_neg (by omega), if_neg (fun h => h2 h.1 h.2), if_neg (by omega)]
theorem tk_enc (m : Nat) (hm : m < 9223372036854775808) (n : Nat) (f : Bf) (hn : encL m ≤ n) (hf : ∀ i, i < encL m → f i = encF m i) : tkE n f = 0 ∧ tkV f = m ∧ tkL f = encL m := by
 have h0 : (f 0).toNat = nd m := by rw [hf 0 (encL_pos m)]; exact encF_zero m
 have hv : tkV f = m := by
  unfold tkV
  rw [h0]
  exact (val_congr (f := offF f 1) (g := offF (encF m) 1) fun i hi => hf (1 + i) (by unfold encL; omega)).trans (enc_all m (by omega))
 have := nd_le m
 refine ⟨tk_of (by omega) (by unfold encL at hn; omega) (fun h => ?_) (by omega), hv, by unfold tkL encL; omega⟩
 rw [hf 1 (by unfold encL; omega)]
 exact enc_one m (by omega) (by omega)
open Go.ChangeShapes Go.WideShapes Go.ChangeAt Go.RowKit
abbrev l8T : ByteArray := ⟨#[0, 1, 2, 2, 3, 3, 3, 3, 4, 4, 4, 4, 4, 4, 4, 4, 5, 5, 5, 5, 5, 5, 5, 5, 5, 5, 5, 5, 5, 5, 5, 5, 6, 6, 6, 6, 6, 6, 6, 6, 6, 6, 6, 6, 6, 6, 6, 6, 6, 6, 6, 6, 6, 6, 6, 6, 6, 6, 6, 6, 6, 6, 6, 6, 7, 7, 7, 7, 7, 7, 7, 7, 7, 7, 7, 7, 7, 7, 7, 7, 7, 7, 7, 7, 7, 7, 7, 7, 7, 7, 7, 7, 7, 7, 7, 7, 7, 7, 7, 7, 7, 7, 7, 7, 7, 7, 7, 7, 7, 7, 7, 7, 7, 7, 7, 7, 7, 7, 7, 7, 7, 7, 7, 7, 7, 7, 7, 7, 8, 8, 8, 8, 8, 8, 8, 8, 8, 8, 8, 8, 8, 8, 8, 8, 8, 8, 8, 8, 8, 8, 8, 8, 8, 8, 8, 8, 8, 8, 8, 8, 8, 8, 8, 8, 8, 8, 8, 8, 8, 8, 8, 8, 8, 8, 8, 8, 8, 8, 8, 8, 8, 8, 8, 8, 8, 8, 8, 8, 8, 8, 8, 8, 8, 8, 8, 8, 8, 8, 8, 8, 8, 8, 8, 8, 8, 8, 8, 8, 8, 8, 8, 8, 8, 8, 8, 8, 8, 8, 8, 8, 8, 8, 8, 8, 8, 8, 8, 8, 8, 8, 8, 8, 8, 8, 8, 8, 8, 8, 8, 8, 8, 8, 8, 8, 8, 8, 8, 8, 8, 8, 8, 8, 8, 8, 8, 8]⟩
theorem l8_size : l8T.size = 256 := by decide +kernel
theorem l8_all : ∀ x : Fin 256, ∀ h : x.val < l8T.size, (l8T[x.val]'h).toNat ≤ 8 ∧ ((l8T[x.val]'h).toNat = 0 ↔ x.val = 0) := by decide +kernel
theorem l8_in (B : Nat) (n x : Nat) (h : x < 256) (h' : x < l8T.size) (hB : B ≤ 56) (h8 : B % 8 = 0) (hk : nd n = B / 8 + if x = 0 then 0 else 1) (v : Int) (hv : v = wrap64 ((B : Int) + wrap64 ((l8T[x]'h').toNat : Int))) (w : World) :
  ∃ L : Nat, (Ending.returned (Value.int IntKind.i64 v)) = .returned (.int .i64 L) ∧ L ≤ 64 ∧ (L + 7) / 8 = nd n ∧ w = w := by
 obtain ⟨h1, h2⟩ := l8_all ⟨x, h⟩ h'
 simp only at h1 h2
 obtain ⟨t, ht⟩ : ∃ t, t = (l8T[x]'h').toNat := ⟨_, rfl⟩
 rw [← ht] at h1 h2 hv
 subst hv
 refine ⟨B + t, ?_, by omega, ?_, rfl⟩
 ·rw [IntWalk.wrap64_in (t : Int) (by omega), IntWalk.wrap64_in _ (by omega)]; rfl
 ·rw [hk]
  split
  ·omega
  ·omega
theorem len64_any (n : Nat) (hn : n < 18446744073709551616) (w : World) :
  Calls Tryz.prog 268 #[.int .u64 n] w fun e w' => ∃ L : Nat, e = .returned (.int .i64 L) ∧ L ≤ 64 ∧ (L + 7) / 8 = nd n ∧ w = w' := by
 go_enter Tryz.func268, Tryz.ntmps268
 by_cases h1 : n < 4294967296
 ·have d1 : decide (4294967296 ≤ (n : Int)) = false := by simp; omega
  by_cases h2 : n < 65536
  ·have d2 : decide (65536 ≤ (n : Int)) = false := by simp; omega
   by_cases h3 : n < 256
   ·have d3 : decide (256 ≤ (n : Int)) = false := by simp; omega
    go_wp2_with fail
    go_ret
    exact l8_in 0 n (n) (by omega) (by rw [l8_size]; omega) (by omega) rfl (by unfold nd; (repeat' split) <;> omega) _ (congrArg wrap64 (Int.zero_add _).symm) _
   ·have d3 : decide (256 ≤ (n : Int)) = true := by simp; omega
    go_wp2_with fail
    go_ret
    exact l8_in 8 n (n / 256) (by omega) (by rw [l8_size]; omega) (by omega) rfl (by unfold nd; (repeat' split) <;> omega) _ (by rfl) _
  ·have d2 : decide (65536 ≤ (n : Int)) = true := by simp; omega
   by_cases h3 : n / 65536 < 256
   ·have d3 : decide (256 ≤ (n : Int) / 65536) = false := by simp; omega
    go_wp2_with fail
    go_ret
    exact l8_in 16 n (n / 65536) (by omega) (by rw [l8_size]; omega) (by omega) rfl (by unfold nd; (repeat' split) <;> omega) _ (by rfl) _
   ·have d3 : decide (256 ≤ (n : Int) / 65536) = true := by simp; omega
    go_wp2_with fail
    go_ret
    exact l8_in 24 n (n / 65536 / 256) (by omega) (by rw [l8_size]; omega) (by omega) rfl (by unfold nd; (repeat' split) <;> omega) _ (by rfl) _
 ·have d1 : decide (4294967296 ≤ (n : Int)) = true := by simp; omega
  by_cases h2 : n / 4294967296 < 65536
  ·have d2 : decide (65536 ≤ (n : Int) / 4294967296) = false := by simp; omega
   by_cases h3 : n / 4294967296 < 256
   ·have d3 : decide (256 ≤ (n : Int) / 4294967296) = false := by simp; omega
    go_wp2_with fail
    go_ret
    exact l8_in 32 n (n / 4294967296) (by omega) (by rw [l8_size]; omega) (by omega) rfl (by unfold nd; (repeat' split) <;> omega) _ (by rfl) _
   ·have d3 : decide (256 ≤ (n : Int) / 4294967296) = true := by simp; omega
    go_wp2_with fail
    go_ret
    exact l8_in 40 n (n / 4294967296 / 256) (by omega) (by rw [l8_size]; omega) (by omega) rfl (by unfold nd; (repeat' split) <;> omega) _ (by rfl) _
  ·have d2 : decide (65536 ≤ (n : Int) / 4294967296) = true := by simp; omega
   by_cases h3 : n / 4294967296 / 65536 < 256
   ·have d3 : decide (256 ≤ (n : Int) / 4294967296 / 65536) = false := by simp; omega
    go_wp2_with fail
    go_ret
    exact l8_in 48 n (n / 4294967296 / 65536) (by omega) (by rw [l8_size]; omega) (by omega) rfl (by unfold nd; (repeat' split) <;> omega) _ (by rfl) _
   ·have d3 : decide (256 ≤ (n : Int) / 4294967296 / 65536) = true := by simp; omega
    go_wp2_with fail
    go_ret
    exact l8_in 56 n (n / 4294967296 / 65536 / 256) (by omega) (by rw [l8_size]; omega) (by omega) rfl (by unfold nd; (repeat' split) <;> omega) _ (by rfl) _
theorem blen_any (n : Nat) (hn : n < 9223372036854775808) (w : World) :
  Calls Tryz.prog 235 #[.int .u64 n] w fun e w' => ∃ L : Nat, e = .returned (.int .i64 L) ∧ L ≤ 64 ∧ (L + 7) / 8 = nd n ∧ w = w' := by
 have H := Lib.hid (len64_any n (by omega) w)
 go_enter Tryz.func235, Tryz.ntmps235
 go_wp2_with fail
 refine H.out.mono ?_
 rintro e w' ⟨L, rfl, h1, h2, rfl⟩
 go_wp2_with fail
 go_ret
 exact ⟨L, rfl, h1, h2, rfl⟩
theorem bs0 (w : World) : (Instr.buildSlice 22 0 #[]).run Tryz.prog w = .ok (.slice (some ⟨w.heap.size, 0, none⟩) 0 0) (w.alloc (.cells #[] 5)) := by kernel_rfl
theorem bs1 (x : Int) (w : World) : (Instr.buildSlice 22 1 #[(0, .int .u8 x)]).run Tryz.prog w = .ok (.slice (some ⟨w.heap.size, 0, none⟩) 1 1) (w.alloc (.cells #[.int .u8 x] 5)) := by kernel_rfl
theorem ex_bs0 (ρ : Operand → Value) {o : Oper} (ho : o.op = .buildSlice 22 0 #[]) (w : World) : (execOp ρ o).run Tryz.prog w = .ok (.value (.slice (some ⟨w.heap.size, 0, none⟩) 0 0)) (w.alloc (.cells #[] 5)) := by
 unfold execOp
 simp only [ho, Sem.run_bind, List.map_toArray, List.map_nil]
 rw [bs0]
 rfl
theorem ex_bs1 (ρ : Operand → Value) {o : Oper} (t : Operand) (ho : o.op = .buildSlice 22 1 #[(0, t)]) (x : Int) (hx : ρ t = .int .u8 x) (w : World) : (execOp ρ o).run Tryz.prog w = .ok (.value (.slice (some ⟨w.heap.size, 0, none⟩) 1 1)) (w.alloc (.cells #[.int .u8 x] 5)) := by
 unfold execOp
 simp only [ho, Sem.run_bind, List.map_toArray, List.map_cons, List.map_nil, hx]
 rw [bs1]
 rfl
theorem mk_sl (n : Nat) (hn : n ≤ 140737488355328) (w : World) : (Instr.makeSlice 22 (.int .i64 (n : Int)) (.int .i64 (n : Int))).run Tryz.prog w = .ok (.slice (some ⟨w.heap.size, 0, none⟩) n n) (w.alloc (.cells (ba n fun _ => 0#8) 5)) := by
 obtain ⟨iu, hiu, z0, z1, z2⟩ := info_parts (P := Tryz.prog) yG
 rw [run_make w 22 5 iu (.int .u8 0) zZ hiu z0 .i64 .i64 n n (by omega) (Int.le_refl _) (by rw [z2]; omega) (by omega), Int.toNat_natCast, z1, made_ba]
@[go_sem] theorem conv_lit (w : World) (C : Array Value) (n c p : Nat) (hp : p = w.heap.size) : (convert 22 22 (.slice (some ⟨p, 0, none⟩) n c)).run Tryz.prog (w.alloc (.cells C 5)) = .ok (.slice (some ⟨p, 0, none⟩) n c) (w.alloc (.cells C 5 (C.size, C.size + 1))) := by
 subst hp
 exact Lib.run_convert_bytes_const (P := Tryz.prog) w 22 5 C n c zZ u8_u
theorem Sl.lit (w : World) {C : Array Value} {n : Nat} {f : Bf} (hC : C = ba n f) (u : TypeId) (m : Nat × Nat) (B : Nat) (hB : w.heap.size < B) : Sl (w.alloc (.cells C u m)) B (some ⟨w.heap.size, 0, none⟩) n n f := by
 subst hC
 exact ⟨Nat.le_refl _, fun _ => ⟨w.heap.size, 0, rfl, hB, fun i hi => by rw [Nat.zero_add, cell_of_row _ _ i _ _ _ (heap_alloc_new w _), zY n f i hi]⟩⟩
theorem clone_any (n c : Nat) (A : Option Addr) (b : Bf) (w : World) (hs : Sl w w.heap.size A n c b) (hn : n ≤ 140737488355328) :
  Calls Tryz.prog 196 #[.slice A n c] w fun e w' => ∃ v, e = .returned v ∧ Own w' w.heap.size 5 v n b ∧ Below w.heap.size w w' := by
 have HS := Lib.hid hs
 go_enter Tryz.func196, Tryz.ntmps196
 cases A with
 | none =>
  have h0 := hs.nil_zero rfl
  subst h0
  clear hs
  have qT := fun (w : World) (n c : Nat) => Lib.run_eql_slice_nil (P := Tryz.prog) w 22 5 none n c 0 0 zZ
  go_wp2_with fail
  go_ret
  exact ⟨_, rfl, Own.nil _ _ _ _, Below.refl _ _⟩
 | some a =>
  clear hs
  have qT := fun (w : World) (n c : Nat) => Lib.run_eql_slice_nil (P := Tryz.prog) w 22 5 (some a) n c 0 0 zZ
  have O1 := Lib.hid (show Own (w.alloc (.cells #[] 5)) w.heap.size 5 (.slice (some ⟨w.heap.size, 0, none⟩) 0 0) 0 b from Own.empty w w.heap.size 5 _ (Nat.le_refl _))
  have B1 := (Below.refl w.heap.size w).alloc (Nat.le_refl _) (.cells #[] 5)
  have S1 := HS.out.below B1
  have hb : w.heap.size ≤ (w.alloc (.cells #[] 5)).heap.size := by simp
  go_wp2_with (at_builtin; refine yN rfl (.tmp 5) (.tmp 6) rfl zZ yG O1.out S1 (by omega) hb rfl rfl ?_; intro v4 w4 ho4 hg4 ht4)
  go_ret
  exact ⟨_, rfl, by rw [Nat.zero_add, xF] at ho4; exact ho4, O1.out.after hg4 B1 hb (Nat.le_refl _)⟩
theorem enc_step (n N j : Nat) (f : Bf) (hj : j < nd n) (i : Nat) (hi : i < N + (j + 1) + 1) :
  catF (N + (j + 1)) (catF N f (encF n)) (fun _ => BitVec.ofNat 8 (n / 256 ^ (nd n - (j + 1)))) i = catF N f (encF n) i := by
 unfold catF
 by_cases h : i < N + (j + 1)
 ·rw [if_pos h]
 ·rw [if_neg h, if_neg (by omega), show i - N = j + 1 by omega]
  unfold encF
  rw [if_neg (by omega)]
theorem byt_8 (n s : Nat) : ((n : Int) / 2 ^ (s * 8) % 256) = I (BitVec.ofNat 8 (n / 256 ^ s)) := by
 unfold I
 rw [BitVec.toNat_ofNat, show (256 : Nat) ^ s = 2 ^ (s * 8) by rw [Nat.mul_comm, Nat.pow_mul]]
 rfl
theorem appn_any (n N base : Nat) (v : Value) (f : Bf) (w : World) (ho : Own w base 5 v N f) (hN : N ≤ 140737488355000) (hb : base ≤ w.heap.size) (hn : n < 9223372036854775808) :
  Calls Tryz.prog 206 #[v, .int .i64 n] w fun e w' => ∃ v', e = .returned v' ∧ Own w' base 5 v' (N + encL n) (catF N f (encF n)) ∧ Below base w w' := by
 have HO := Lib.hid ho
 have H1 := Lib.hid (blen_any n hn w)
 have hcv : IntKind.u64.wrap (n : Int) = n := by rw [IntKind.wrap_u64]; omega
 clear ho
 go_enter Tryz.func206, Tryz.ntmps206
 go_wp2_with fail
 refine H1.out.mono ?_
 rintro e w' ⟨L, rfl, hL, hk, rfl⟩
 have hK8 := nd_le n
 obtain ⟨K, hK⟩ : ∃ K, K = nd n := ⟨_, rfl⟩
 rw [← hK] at hk hK8
 have hq : ((L : Int) + 8 - 1) / 8 = (K : Int) := by omega
 have hI : (K : Int) = I (BitVec.ofNat 8 K) := by unfold I; rw [BitVec.toNat_ofNat]; omega
 have HI := Lib.hid hI
 have HK := Lib.hid hK
 have B1 := Lib.hid ((Below.refl base w).alloc hb (.cells #[.int .u8 (K : Int)] 5))
 have S1 := Lib.hid (show Sl (w.alloc (.cells #[.int .u8 (K : Int)] 5)) (w.heap.size + 1) (some ⟨w.heap.size, 0, none⟩) 1 1 (fun _ => BitVec.ofNat 8 K) by rw [hI]; exact Sl.one w _ _ _ (by omega))
 have O1 := Lib.hid (HO.out.alloc (.cells #[.int .u8 (K : Int)] 5))
 have hb1 : base ≤ (w.alloc (.cells #[.int .u8 (K : Int)] 5)).heap.size := by simp; omega
 clear H1 hI hK hk
 go_wp2_with (at_builtin; refine yN rfl (.tmp 13) (.tmp 16) rfl zZ yG O1.out S1.out (by omega) hb1 rfl rfl ?_; intro v2 w2 ho2 hg2 ht2)
 have B2 := Lib.hid (O1.out.after hg2 B1.out hb1 (Nat.le_refl _))
 have hz2 := hg2.size
 have O2 := Lib.hid (show Own w2 base 5 v2 (N + 0 + 1) (catF N f (encF n)) from ho2.congr fun i hi => by
  unfold catF
  by_cases h : i < N
  ·rw [if_pos h, if_pos h]
  ·rw [if_neg h, if_neg h, show i - N = 0 by omega, HK.out]; rfl)
 have hz3 : base ≤ w2.heap.size := by simp at hz2; omega
 clear ho2 hg2 ht2 hz2 B1 S1 O1 hb1
 go_loopw [0, 6] (fun bv iv wr => ∃ r j : Nat, r + j = K ∧ iv = .int .i64 ((r : Int) - 1) ∧ Own wr base 5 bv (N + j + 1) (catF N f (encF n)) ∧ Below base w wr ∧ base ≤ wr.heap.size) (fun _ iv _ => (intOf iv + 1).toNat)
 case atStart => exact ⟨K, 0, by omega, rfl, O2.out, B2.out, hz3⟩
 case round =>
  clear O2 B2 hz3
  obtain ⟨r, j, hrj, rfl, ho, hbl, hz⟩ := hrel
  obtain ⟨wo, rfl⟩ : ∃ wo : World, wo = wr := ⟨_, rfl⟩
  have HOo := Lib.hid ho
  have HB := Lib.hid hbl
  clear ho hbl
  rcases r with _ | s
  ·have hd : decide ((0 : Int) ≤ ((0 : Nat) : Int) - 1) = false := by decide
   have hj : j = K := by omega
   subst hj
   go_wp2_with fail
   go_ret
   exact ⟨_, rfl, by unfold encL; rw [← HK.out]; exact HOo.out, HB.out⟩
  ·have e1 : ((s + 1 : Nat) : Int) - 1 = (s : Int) := by omega
   rw [e1]
   have hd : decide ((0 : Int) ≤ (s : Int)) = true := by simp
   have B3 := Lib.hid (HB.out.alloc hz (.cells #[.int .u8 ((n : Int) / 2 ^ (s * 8) % 256)] 5))
   have S3 := Lib.hid (show Sl (wo.alloc (.cells #[.int .u8 ((n : Int) / 2 ^ (s * 8) % 256)] 5)) (wo.heap.size + 1) (some ⟨wo.heap.size, 0, none⟩) 1 1 (fun _ => BitVec.ofNat 8 (n / 256 ^ s)) by rw [byt_8]; exact Sl.one wo _ _ _ (by omega))
   have O3 := Lib.hid (HOo.out.alloc (.cells #[.int .u8 ((n : Int) / 2 ^ (s * 8) % 256)] 5))
   have hb3 : base ≤ (wo.alloc (.cells #[.int .u8 ((n : Int) / 2 ^ (s * 8) % 256)] 5)).heap.size := by simp; omega
   clear HB HOo
   go_wp2_with (at_builtin; refine yN rfl (.tmp 24) (.tmp 30) rfl zZ yG O3.out S3.out (by omega) hb3 rfl rfl ?_; intro v4 w4 ho4 hg4 ht4)
   have hz4 := hg4.size
   have B4 := Lib.hid (O3.out.after hg4 B3.out hb3 (Nat.le_refl _))
   have O4 := Lib.hid (show Own w4 base 5 v4 (N + (j + 1) + 1) (catF N f (encF n)) from ho4.congr fun i hi => by
    have := enc_step n N j f (by rw [← HK.out]; omega) i hi
    rw [← HK.out, show K - (j + 1) = s by omega] at this
    exact this)
   have hz5 : base ≤ w4.heap.size := by omega
   clear ho4 hg4 ht4 hz4 B3 S3 O3 hb3
   go_roundw
   case rel => exact ⟨s, j + 1, by omega, rfl, O4.out, B4.out, hz5⟩
   case measure => simp [intOf]
theorem put_any (n N c : Nat) (A : Option Addr) (b : Bf) (w : World) (hs : Sl w w.heap.size A N c b) (hN : N ≤ 140737488355000) (hn : n < 9223372036854775808) :
  Calls Tryz.prog 168 #[.slice A N c, .int .i64 n] w fun e w' => ∃ v, e = .returned (.tuple #[v, .int .i64 0]) ∧ Own w' w.heap.size 5 v (N + encL n) (catF N b (encF n)) ∧ Below w.heap.size w w' := by
 have hd : decide ((n : Int) < 0) = false := by simp
 have H1 := Lib.hid (clone_any N c A b w hs (by omega))
 clear hs
 go_enter Tryz.func168, Tryz.ntmps168
 go_wp2_with fail
 refine H1.out.mono ?_
 rintro e w1 ⟨v1, rfl, ho1, hb1⟩
 have H2 := Lib.hid (appn_any n N w.heap.size v1 b w1 ho1 hN hb1.size hn)
 have B1 := Lib.hid hb1
 clear H1 ho1 hb1
 go_wp2_with fail
 refine H2.out.mono ?_
 rintro e w2 ⟨v2, rfl, ho2, hb2⟩
 have O2 := Lib.hid ho2
 have B2 := Lib.hid (B1.out.trans hb2)
 clear H2 ho2 hb2 B1
 go_wp2_with fail
 exact bodyPost_ret (v := .tuple #[v2, .int .i64 0]) (by simp [results, Tryz.results168, go_sem]) rfl ⟨_, rfl, O2.out, B2.out⟩
def sg (x : Nat) : Int := if x < 9223372036854775808 then (x : Int) else (x : Int) - 18446744073709551616
theorem sg_small {x : Nat} (h : x < 9223372036854775808) : sg x = x := by unfold sg; rw [if_pos h]
theorem sg_bits (x : Nat) (h : x < 18446744073709551616) : (BitVec.ofInt 64 (sg x)).toNat = x := by
 rw [BitVec.toNat_ofInt]; unfold sg; split <;> omega
theorem sg_wrap (x : Nat) (h : x < 18446744073709551616) : IntKind.i64.wrap (x : Int) = sg x := by
 rw [IntKind.wrap_i64]; unfold sg; split <;> omega
theorem or_step (v d : Nat) (hv : v < 72057594037927936) (hd : d < 256) : bits .or .i64 (sg (v * 256)) (d : Int) = sg (v * 256 + d) := by
 show IntKind.i64.wrap ((BitVec.ofInt 64 (sg (v * 256)) ||| BitVec.ofInt 64 (d : Int)).toNat : Int) = _
 rw [BitVec.toNat_or, sg_bits _ (by omega), Bits.ofInt_i64 d (by omega), Nat.mul_comm v 256, show (256 : Nat) = 2 ^ 8 from rfl, ← Nat.two_pow_add_eq_or_of_lt (by omega)]
 exact sg_wrap _ (by omega)
def vaE (k : Nat) (d : Bf) : Nat := if 0 < k ∧ d 0 = 0#8 then 80 else if 9223372036854775808 ≤ val d k then 80 else 0
def vaV (k : Nat) (d : Bf) : Int := if vaE k d = 0 then (val d k : Int) else 0
theorem value_any (k c B : Nat) (A : Option Addr) (d : Bf) (w : World) (hs : Sl w B A k c d) (hk : k ≤ 8) :
  Calls Tryz.prog 238 #[.slice A k c] w fun e w' => e = .returned (.tuple #[.int .i64 (vaV k d), .int .i64 (vaE k d : Nat)]) ∧ w = w' := by
 have HS := Lib.hid hs
 by_cases h0 : k = 0
 ·subst h0
  have hv : vaV 0 d = 0 := rfl
  have he : vaE 0 d = 0 := rfl
  rw [hv, he]
  have hdd : decide ((0 : Int) < ((0 : Nat) : Int)) = false := by decide
  clear hs hv he
  go_enter Tryz.func238, Tryz.ntmps238
  go_wp2_with fail
  refine wp_loop_rounds 1 ?_
  rw [rounds_succ]
  go_wp2_with fail
  exact bodyPost_ret (v := .tuple #[.int .i64 0, .int .i64 0]) (by simp [results, Tryz.results238, go_sem]) rfl ⟨rfl, rfl⟩
 ·have hdd : decide ((0 : Int) < (k : Int)) = true := by simp; omega
  obtain ⟨g, o, rfl, hg, hcl⟩ := hs.at_ (by omega)
  have hc0 := hcl 0 (by omega)
  rw [Nat.add_zero] at hc0
  have HC := Lib.hid hcl
  clear hs hcl
  by_cases hz : d 0 = 0#8
  ·have he : vaE k d = 80 := by unfold vaE; rw [if_pos ⟨by omega, hz⟩]
   have hv : vaV k d = 0 := by unfold vaV; rw [he, if_neg (by omega)]
   have hI : I (d 0) = 0 := by rw [hz]; rfl
   rw [hI] at hc0
   rw [hv, he]
   clear hv he
   go_enter Tryz.func238, Tryz.ntmps238
   go_wp2_with fail
   exact bodyPost_ret (v := .tuple #[.int .i64 0, .int .i64 80]) (by simp [results, Tryz.results238, go_sem]) rfl ⟨rfl, rfl⟩
  ·have hI : (I (d 0) == 0) = false := by
    unfold I
    have : (d 0).toNat ≠ 0 := fun e => hz (BitVec.eq_of_toNat_eq e)
    simp; omega
   have HE := Lib.hid (show vaE k d = if 9223372036854775808 ≤ val d k then 80 else 0 by unfold vaE; rw [if_neg (fun h => hz h.2)])
   go_enter Tryz.func238, Tryz.ntmps238
   go_wp2_with fail
   clear hI hc0 hz
   go_loopw [4, 18] (fun nv iv wr => ∃ j : Nat, j ≤ k ∧ nv = .int .i64 (sg (val d j)) ∧ iv = .int .i64 (j : Int) ∧ wr = w) (fun _ iv _ => k - (intOf iv).toNat)
   case atStart => exact ⟨0, by omega, rfl, rfl, rfl⟩
   case round =>
    obtain ⟨j, hj, rfl, rfl, rfl⟩ := hrel
    by_cases hlt : j < k
    ·have hd : decide ((j : Int) < (k : Int)) = true := by simp; omega
     have hcj := HC.out j hlt
     have hv56 := val_u56 d j (by omega)
     have hst := or_step (val d j) (d j).toNat hv56 (d j).isLt
     rw [sg_small (show val d j < 9223372036854775808 by omega)]
     obtain ⟨V, hV⟩ : ∃ V, V = val d j := ⟨_, rfl⟩
     rw [← hV] at hv56 hst ⊢
     obtain ⟨D, hD⟩ : ∃ D, D = d j := ⟨_, rfl⟩
     rw [← hD] at hcj hst
     have HV := Lib.hid (show V * 256 + D.toNat = val d (j + 1) by rw [hV, hD]; rfl)
     clear hV hD
     have hsh : wrap64 ((V : Int) * 256) = sg (V * 256) := by rw [← sg_wrap (V * 256) (by omega), IntWalk.i64_left]; rfl
     have hsd : wrap64 (I D) = (D.toNat : Int) := by obtain ⟨b1, b2⟩ := I_bd D; rw [IntWalk.wrap64_in _ (by omega)]; rfl
     have HR := Lib.hid (show bits BinOp.or IntKind.i64 (wrap64 ((V : Int) * 256)) (wrap64 (I D)) = sg (val d (j + 1)) by rw [hsh, hsd, hst, HV.out])
     clear hsh hsd hst
     go_wp2_with fail
     go_roundw
     case rel => exact ⟨j + 1, by omega, by rw [HR.out], rfl, trivial⟩
     case measure => simp [intOf]; omega
    ·have hjk : j = k := by omega
     subst hjk
     have hd : decide ((j : Int) < (j : Int)) = false := by simp
     have h64 := val_u64 d j hk
     by_cases hbig : 9223372036854775808 ≤ val d j
     ·have he : vaE j d = 80 := by rw [HE.out, if_pos hbig]
      have hv : vaV j d = 0 := by unfold vaV; rw [he, if_neg (by omega)]
      have HW := Lib.hid (And.intro hv he)
      have hsn : decide (sg (val d j) < 0) = true := by simp only [decide_eq_true_eq]; unfold sg; rw [if_neg (by omega)]; omega
      clear hv he hbig h64
      obtain ⟨S, hS⟩ : ∃ S, S = sg (val d j) := ⟨_, rfl⟩
      rw [← hS] at hsn ⊢
      clear hS
      go_wp2_with fail
      exact bodyPost_ret (v := .tuple #[.int .i64 0, .int .i64 80]) (by simp [results, Tryz.results238, go_sem]) rfl ⟨by rw [HW.out.1, HW.out.2]; rfl, rfl⟩
     ·have he : vaE j d = 0 := by rw [HE.out, if_neg hbig]
      have hv : vaV j d = sg (val d j) := by unfold vaV; rw [he, if_pos rfl, sg_small (by omega)]
      have HW := Lib.hid (And.intro hv he)
      have hsn : decide (sg (val d j) < 0) = false := by simp only [decide_eq_false_iff_not]; rw [sg_small (by omega)]; omega
      clear hv he hbig h64
      obtain ⟨S, hS⟩ : ∃ S, S = sg (val d j) := ⟨_, rfl⟩
      rw [← hS] at hsn ⊢
      have HS2 := Lib.hid hS
      clear hS
      go_wp2_with fail
      exact bodyPost_ret (v := .tuple #[.int .i64 S, .int .i64 0]) (by simp [results, Tryz.results238, go_sem]) rfl ⟨by rw [HW.out.1, HW.out.2, HS2.out]; rfl, rfl⟩
abbrev clT (X : Nat) : Value := .func (.func 236) #[] #[.pointer (some ⟨X, 0, none⟩)]
abbrev clL (X : Nat) : Value := .func (.func 237) #[] #[.pointer (some ⟨X, 0, none⟩)]
theorem box_cell1 {w : World} {X : Nat} {v : Value} (hr : row w X = some #[v]) : w.cell? ⟨X, 0, none⟩ = some v := by rw [zF hr]; rfl
theorem take_short (X n c k : Nat) (A : Option Addr) (w : World) (hr : row w X = some #[.slice A n c]) (hk : n < k) :
  Calls Tryz.prog 236 #[.int .i64 k, .pointer (some ⟨X, 0, none⟩)] w fun e w' => e = .returned (.tuple #[.slice none 0 0, .int .i64 3]) ∧ w = w' := by
 have hc := box_cell1 hr
 have hd : decide ((n : Int) < (k : Int)) = true := by simp; omega
 clear hr
 go_enter Tryz.func236, Tryz.ntmps236
 go_wp2_with fail
 exact bodyPost_ret (v := .tuple #[.slice none 0 0, .int .i64 3]) (by simp [results, Tryz.results236, go_sem]) rfl ⟨rfl, rfl⟩
theorem take_any (X n c k : Nat) (A : Option Addr) (w : World) (hr : row w X = some #[.slice A n c]) (hk : k ≤ n) (hnc : n ≤ c) :
  Calls Tryz.prog 236 #[.int .i64 k, .pointer (some ⟨X, 0, none⟩)] w fun e w' => e = .returned (.tuple #[.slice A k c, .int .i64 0]) ∧ w' = w.setRow X #[.slice (cutA A c k) (n - k) (c - k)] := by
 have hc := box_cell1 hr
 have hfz := zW hr 0
 have hd : decide ((n : Int) < (k : Int)) = false := by simp; omega
 have hup := run_upto zZ u8_i A n c k (by omega)
 have hfr := run_from zZ u8_i A n c k hk
 have HR := Lib.hid hr
 clear hr
 go_enter Tryz.func236, Tryz.ntmps236
 go_wp2_with fail
 exact bodyPost_ret (v := .tuple #[.slice A k c, .int .i64 0]) (by simp [results, Tryz.results236, go_sem]) rfl ⟨rfl, by rw [zP HR.out]; rfl⟩
theorem left_any (X n c : Nat) (A : Option Addr) (f : Bf) (w : World) (hr : row w X = some #[.slice A n c]) (hs : Sl w w.heap.size A n c f) (hn : n ≤ 140737488355328) :
  Calls Tryz.prog 237 #[.pointer (some ⟨X, 0, none⟩)] w fun e w' => ∃ v, e = .returned v ∧ Own w' w.heap.size 5 v n f ∧ Below w.heap.size w w' := by
 have hc := box_cell1 hr
 have H1 := Lib.hid (clone_any n c A f w hs hn)
 clear hr hs
 go_enter Tryz.func237, Tryz.ntmps237
 go_wp2_with fail
 refine H1.out.mono ?_
 rintro e w1 ⟨v1, rfl, ho1, hb1⟩
 have O1 := Lib.hid ho1
 have B1 := Lib.hid hb1
 clear H1 ho1 hb1
 go_wp2_with fail
 go_ret
 exact ⟨_, rfl, O1.out, B1.out⟩
theorem reader_any (n c : Nat) (A : Option Addr) (w : World) :
  Calls Tryz.prog 194 #[.slice A n c] w fun e w' => e = .returned (.tuple #[clT w.heap.size, clL w.heap.size]) ∧ w' = w.alloc (.cells #[.slice A n c] 22) := by
 go_enter Tryz.func194, Tryz.ntmps194
 go_wp2_with fail
 exact bodyPost_ret (v := .tuple #[clT w.heap.size, clL w.heap.size]) (by simp [results, Tryz.results194, go_sem]) rfl ⟨rfl, rfl⟩
theorem sl_put {w w' : World} {X B n c : Nat} {A : Option Addr} {f : Bf} {z : Array Value} (hp : Put X z w w') (hs : Sl w B A n c f) (hB : B ≤ X) (hX : X < w.heap.size) : Sl w' B A n c f := hp.sl hs (by omega) (hs.off hB)
theorem tk_va {n : Nat} {f : Bf} (h0 : 0 < n) (h8 : (f 0).toNat ≤ 8) (hk : (f 0).toNat < n) : tkE n f = vaE (f 0).toNat (offF f 1) := by
 unfold tkE vaE
 rw [if_neg (by omega), if_neg (by omega), if_neg (by omega)]
 rfl
theorem number_any (X B n c : Nat) (A : Option Addr) (f : Bf) (w : World) (hr : row w X = some #[.slice A n c]) (hs : Sl w B A n c f) (hB : B ≤ X) :
  Calls Tryz.prog 197 #[clT X] w fun e w' =>
   (tkE n f ≠ 0 ∧ e = .returned (.tuple #[.int .i64 0, .int .i64 (tkE n f : Nat)]) ∧ Below X w w') ∨
   (tkE n f = 0 ∧ e = .returned (.tuple #[.int .i64 (tkV f : Nat), .int .i64 0]) ∧ ∃ A' c', Put X #[.slice A' (n - tkL f) c'] w w' ∧ Sl w' B A' (n - tkL f) c' (offF f (tkL f))) := by
 have hX := zK hr
 have HR := Lib.hid hr
 have HS := Lib.hid hs
 have hnc := hs.le
 clear hr hs
 by_cases h0 : n = 0
 ·subst h0
  have H1 := take_short X 0 c 1 A w HR.out (by omega)
  rw [show ((1 : Nat) : Int) = 1 from rfl] at H1
  have H1' := Lib.hid H1
  have HE := Lib.hid (show tkE 0 f = 3 from rfl)
  clear H1
  go_enter Tryz.func197, Tryz.ntmps197
  go_wp2_with fail
  refine H1'.out.mono ?_
  rintro e w1 ⟨rfl, rfl⟩
  clear H1'
  go_wp2_with fail
  exact bodyPost_ret (v := .tuple #[.int .i64 0, .int .i64 3]) (by simp [results, Tryz.results197, go_sem]) rfl (.inl ⟨by rw [HE.out]; omega, by rw [HE.out]; rfl, Below.refl _ _⟩)
 ·have H1 := take_any X n c 1 A w HR.out (by omega) hnc
  rw [show ((1 : Nat) : Int) = 1 from rfl] at H1
  have H1' := Lib.hid H1
  clear H1
  go_enter Tryz.func197, Tryz.ntmps197
  go_wp2_with fail
  refine H1'.out.mono ?_
  rintro e w1 ⟨rfl, hw1⟩
  clear H1'
  have P1 := Lib.hid (show Put X #[.slice (cutA A c 1) (n - 1) (c - 1)] w w1 by rw [hw1]; exact Put.of (Below.refl _ _) hX _)
  clear hw1
  have S1 := Lib.hid (sl_put P1.out HS.out hB hX)
  have R1 := Lib.hid (P1.out.row HR.out)
  have hX1 : X < w1.heap.size := zK R1.out
  obtain ⟨g, o, hA, hg, hcl⟩ := S1.out.at_ (by omega)
  have hc0 := hcl 0 (by omega)
  rw [Nat.add_zero] at hc0
  obtain ⟨b0, b1⟩ := I_bd (f 0)
  obtain ⟨F, hF⟩ : ∃ F, F = f 0 := ⟨_, rfl⟩
  rw [← hF] at hc0 b0 b1
  have HF := Lib.hid hF
  have hIF : I F = (F.toNat : Int) := rfl
  clear hcl hF
  by_cases h8 : 8 < F.toNat
  ·have hd8 : decide (8 < I F) = true := by simp only [decide_eq_true_eq]; omega
   have HE := Lib.hid (show tkE n f = 80 by unfold tkE; rw [if_neg h0, if_pos (by rw [← HF.out]; exact h8)])
   subst hA
   clear hIF
   go_wp2_with fail
   exact bodyPost_ret (v := .tuple #[.int .i64 0, .int .i64 80]) (by simp [results, Tryz.results197, go_sem]) rfl (.inl ⟨by rw [HE.out]; omega, by rw [HE.out]; rfl, P1.out.low (Nat.le_refl _) (by omega)⟩)
  ·have hd8 : decide (8 < I F) = false := by simp only [decide_eq_false_iff_not]; omega
   have hIK := hIF
   rw [hIF] at hd8 hc0
   subst hA
   clear hIF b0 b1 hIK
   by_cases hk : n ≤ F.toNat
   ·have HE := Lib.hid (show tkE n f = 3 by unfold tkE; rw [if_neg h0, if_neg (by rw [← HF.out]; exact h8), if_pos (by rw [← HF.out]; exact hk)])
    have H2 := Lib.hid (take_short X (n - 1) (c - 1) F.toNat _ w1 R1.out (by omega))
    go_wp2_with fail
    refine H2.out.mono ?_
    rintro e w2 ⟨rfl, rfl⟩
    clear H2
    go_wp2_with fail
    exact bodyPost_ret (v := .tuple #[.int .i64 0, .int .i64 3]) (by simp [results, Tryz.results197, go_sem]) rfl (.inl ⟨by rw [HE.out]; omega, by rw [HE.out]; rfl, P1.out.low (Nat.le_refl _) (by omega)⟩)
   ·have H2 := Lib.hid (take_any X (n - 1) (c - 1) F.toNat _ w1 R1.out (by omega) (by omega))
    have L1 := S1.out.from_ 1 (by omega)
    have HE := Lib.hid (show tkE n f = vaE F.toNat (offF f 1) by rw [HF.out]; exact tk_va (by omega) (by rw [← HF.out]; omega) (by rw [← HF.out]; omega))
    have HV := Lib.hid (show tkV f = val (offF f 1) F.toNat by unfold tkV; rw [HF.out])
    have HL := Lib.hid (show tkL f = F.toNat + 1 by unfold tkL; rw [HF.out])
    go_wp2_with fail
    refine H2.out.mono ?_
    rintro e w2 ⟨rfl, hw2⟩
    clear H2
    have P2 := Lib.hid (P1.out.then HR.out (show Put X _ w1 w2 by rw [hw2]; exact Put.of (Below.refl _ _) hX1 _))
    have L2 := Lib.hid (show Sl w2 B _ (n - 1) (c - 1) (offF f 1) from sl_put (show Put X _ w1 w2 by rw [hw2]; exact Put.of (Below.refl _ _) hX1 _) L1 hB hX1)
    have H3 := Lib.hid (value_any F.toNat (c - 1) B _ (offF f 1) w2 (L2.out.upto F.toNat (by omega)) (by omega))
    clear hw2 L1
    go_wp2_with fail
    refine H3.out.mono ?_
    rintro e w3 ⟨rfl, rfl⟩
    clear H3
    have L3 := Lib.hid (L2.out.from_ F.toNat (by omega))
    go_wp2_with fail
    refine bodyPost_ret (v := .tuple #[.int .i64 (vaV F.toNat (offF f 1)), .int .i64 (vaE F.toNat (offF f 1) : Nat)]) (by simp [results, Tryz.results197, go_sem]) rfl ?_
    by_cases hz : tkE n f = 0
    ·have hp2 := P2.out
     have l3 := L3.out
     rw [show n - 1 - F.toNat = n - tkL f by rw [HL.out]; omega] at hp2 l3
     refine .inr ⟨hz, ?_, _, _, hp2, l3.congr fun i hi => ?_⟩
     ·rw [HV.out]
      have hz2 := hz
      rw [HE.out] at hz2
      unfold vaV
      rw [hz2, if_pos rfl]
      rfl
     ·rw [HL.out]
      unfold offF
      rw [show 1 + (F.toNat + i) = F.toNat + 1 + i by omega]
    ·refine .inl ⟨hz, ?_, P2.out.low (Nat.le_refl _) (by omega)⟩
     have hz2 := hz
     rw [HE.out] at hz2
     unfold vaV
     rw [if_neg hz2, HE.out]
def taP (n : Nat) (f : Bf) (w : World) (e : Ending) (w' : World) : Prop :=
 (tkE n f ≠ 0 ∧ e = .returned (.tuple #[.int .i64 0, .slice none 0 0, .int .i64 (tkE n f : Nat)]) ∧ Below w.heap.size w w') ∨
 (tkE n f = 0 ∧ ∃ v, e = .returned (.tuple #[.int .i64 (tkV f : Nat), v, .int .i64 0]) ∧ Own w' w.heap.size 5 v (n - tkL f) (offF f (tkL f)) ∧ Below w.heap.size w w')
theorem take_num (n c : Nat) (A : Option Addr) (f : Bf) (w : World) (hs : Sl w w.heap.size A n c f) (hn : n ≤ 140737488355328) :
  Calls Tryz.prog 157 #[.slice A n c] w (taP n f w) := by
 have H0 := Lib.hid (reader_any n c A w)
 have HS := Lib.hid hs
 clear hs
 go_enter Tryz.func157, Tryz.ntmps157
 go_wp2_with fail
 refine H0.out.mono ?_
 rintro e w1 ⟨rfl, hw1⟩
 have r1 : row w1 w.heap.size = some #[.slice A n c] := by rw [hw1]; exact zA _ _ _ _ rfl
 have B1 : Below w.heap.size w w1 := by rw [hw1]; exact (Below.refl _ _).alloc (Nat.le_refl _) _
 clear hw1 H0
 have hX := zK r1
 have H1 := Lib.hid (number_any w.heap.size w.heap.size n c A f w1 r1 (HS.out.below B1) (Nat.le_refl _))
 have HB1 := Lib.hid B1
 have R1 := Lib.hid r1
 clear r1 B1
 go_wp2_with fail
 refine H1.out.mono ?_
 rintro e w2 (⟨hz, rfl, hb⟩ | ⟨hz, rfl, A', c', hp, hs'⟩)
 ·have HZ := Lib.hid hz
  have HB := Lib.hid (HB1.out.trans hb)
  clear H1 hb hz
  obtain ⟨E, hE⟩ : ∃ E, E = tkE n f := ⟨_, rfl⟩
  have hne : ((E : Int) == 0) = false := by have := HZ.out; rw [← hE] at this; simp; omega
  rw [← hE]
  have HE := Lib.hid hE
  clear hE
  go_wp2_with fail
  exact bodyPost_ret (v := .tuple #[.int .i64 0, .slice none 0 0, .int .i64 E]) (by simp [results, Tryz.results157, go_sem]) rfl (.inl ⟨HZ.out, by rw [HE.out], HB.out⟩)
 ·have HB := Lib.hid (HB1.out.trans (hp.low (Nat.le_refl _) (by omega)))
  have HZ := Lib.hid hz
  have R2 := hp.row R1.out
  have hX2 := zK R2
  have H2 := Lib.hid (left_any w.heap.size (n - tkL f) c' A' (offF f (tkL f)) w2 R2 (hs'.more (Nat.le_of_lt hX2)) (by omega))
  clear H1 hp hs' hz R2
  go_wp2_with fail
  refine H2.out.mono ?_
  rintro e w3 ⟨v3, rfl, ho3, hb3⟩
  have O3 := Lib.hid (ho3.base (Nat.le_of_lt hX2))
  have B3 := Lib.hid (onto HB.out (Nat.le_of_lt hX2) hb3)
  clear H2 ho3 hb3
  go_wp2_with fail
  exact bodyPost_ret (v := .tuple #[.int .i64 (tkV f : Nat), v3, .int .i64 0]) (by simp [results, Tryz.results157, go_sem]) rfl (.inr ⟨HZ.out, _, rfl, O3.out, B3.out⟩)
theorem offF_offF (f : Bf) (a b : Nat) : offF (offF f a) b = offF f (a + b) := by funext i; unfold offF; rw [Nat.add_assoc]
def litF (l : List (BitVec 8)) : Bf := fun i => l.getD i 0#8
theorem conv_sl {w : World} {B n c : Nat} {A : Option Addr} {f : Bf} (h : Sl w B A n c f) : (convert 22 9 (.slice A n c)).run Tryz.prog w = .ok (.string (strOf n f)) w := run_str zZ u8_u str_u h
end Go.Proofs.YteffjpdcghlnlaaGreatDoor.Oct
