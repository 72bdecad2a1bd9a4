import Derived.Test.YteffjpdcghlnlaaGreatDoorZcGcm
import Derived.Test.YteffjpdcghlnlaaGreatDoorZcPkAll
import Derived.Test.YteffjpdcghlnlaaGreatDoorZcKrAll
import Derived.Test.YteffjpdcghlnlaaGreatDoorZcAa
set_option linter.unusedVariables false
set_option linter.unusedSimpArgs false
set_option maxHeartbeats 1000000
namespace Go.Proofs.YteffjpdcghlnlaaGreatDoor.Oct
@[irreducible] def nonC (c : Nat) : Bf := catF 4 (fun _ => 0#8) (beN 8 c)
def hdL (i v : Nat) : Nat := encL i + encL v
def hdF (i v : Nat) : Bf := catF (encL i) (encF i) (encF v)
def blL (i v L : Nat) : Nat := hdL i v + 12 + L
@[irreducible] def blF (i v : Nat) (n b : Bf) : Bf := catF (hdL i v + 12) (catF (hdL i v) (hdF i v) n) b
theorem hdL_le (i v : Nat) : 2 ≤ hdL i v ∧ hdL i v ≤ 18 := by have := encL_le i; have := encL_le v; have := encL_pos i; have := encL_pos v; unfold hdL; omega
def rdR (f : Bf) : Bf := offF f (tkL f)
def rdO (f : Bf) : Nat := tkL f + tkL (rdR f)
def rdB (n : Nat) (f : Bf) : Bool := decide (tkE n f = 0 ∧ 1 ≤ tkV f ∧ tkE (n - tkL f) (rdR f) = 0 ∧ 1 ≤ tkV (rdR f) ∧ 28 ≤ n - tkL f - tkL (rdR f) ∧ n - tkL f - tkL (rdR f) ≤ 92)
@[irreducible] def rdE (n : Nat) (f : Bf) : Int := if rdB n f = true then 0 else 140
@[irreducible] def rdI (n : Nat) (f : Bf) : Int := if rdB n f = true then (tkV f : Nat) else 0
@[irreducible] def rdV (n : Nat) (f : Bf) : Int := if rdB n f = true then (tkV (rdR f) : Nat) else 0
@[irreducible] def rdN (n : Nat) (f : Bf) : Bf := if rdB n f = true then offF f (rdO f) else fun _ => 0#8
@[irreducible] def rdL (n : Nat) (f : Bf) : Nat := if rdB n f = true then n - tkL f - tkL (rdR f) - 12 else 0
@[irreducible] def rdF (f : Bf) : Bf := offF f (rdO f + 12)
section
variable {n : Nat} {f : Bf}
theorem rdB_iff : rdB n f = true ↔ tkE n f = 0 ∧ 1 ≤ tkV f ∧ tkE (n - tkL f) (rdR f) = 0 ∧ 1 ≤ tkV (rdR f) ∧ 28 ≤ n - tkL f - tkL (rdR f) ∧ n - tkL f - tkL (rdR f) ≤ 92 := by unfold rdB; rw [decide_eq_true_eq]
theorem rdE_ok (h : rdB n f = true) : rdE n f = 0 := by unfold rdE; rw [if_pos h]
theorem rdE_no (h : rdB n f = false) : rdE n f = 140 := by unfold rdE; rw [if_neg (by rw [h]; decide)]
theorem rdI_ok (h : rdB n f = true) : rdI n f = (tkV f : Nat) := by unfold rdI; rw [if_pos h]
theorem rdI_no (h : rdB n f = false) : rdI n f = 0 := by unfold rdI; rw [if_neg (by rw [h]; decide)]
theorem rdV_ok (h : rdB n f = true) : rdV n f = (tkV (rdR f) : Nat) := by unfold rdV; rw [if_pos h]
theorem rdV_no (h : rdB n f = false) : rdV n f = 0 := by unfold rdV; rw [if_neg (by rw [h]; decide)]
theorem rdN_ok (h : rdB n f = true) : rdN n f = offF f (rdO f) := by unfold rdN; rw [if_pos h]
theorem rdN_no (h : rdB n f = false) : rdN n f = fun _ => 0#8 := by unfold rdN; rw [if_neg (by rw [h]; decide)]
theorem rdL_ok (h : rdB n f = true) : rdL n f = n - tkL f - tkL (rdR f) - 12 := by unfold rdL; rw [if_pos h]
theorem rdL_no (h : rdB n f = false) : rdL n f = 0 := by unfold rdL; rw [if_neg (by rw [h]; decide)]
theorem rdL_le : rdL n f ≤ 80 := by
 cases h : rdB n f
 ·rw [rdL_no h]; omega
 ·rw [rdL_ok h]; have := rdB_iff.1 h; omega
theorem rdE_cases : rdE n f = 0 ∧ rdB n f = true ∨ rdE n f = 140 ∧ rdB n f = false := by
 cases h : rdB n f
 ·exact .inr ⟨rdE_no h, rfl⟩
 ·exact .inl ⟨rdE_ok h, rfl⟩
end
section
variable {i v L : Nat} {n b : Bf}
theorem bl_head (k : Nat) (h : k < hdL i v) : blF i v n b k = hdF i v k := by unfold blF catF; rw [if_pos (by omega), if_pos h]
theorem bl_non (k : Nat) (h : k < 12) : blF i v n b (hdL i v + k) = n k := by unfold blF catF; rw [if_pos (by omega), if_neg (by omega), Nat.add_sub_cancel_left]
theorem bl_text (k : Nat) : blF i v n b (hdL i v + 12 + k) = b k := by unfold blF catF; rw [if_neg (by omega), Nat.add_sub_cancel_left]
theorem bl_one (hi : i < 9223372036854775808) : tkE (blL i v L) (blF i v n b) = 0 ∧ tkV (blF i v n b) = i ∧ tkL (blF i v n b) = encL i :=
 tk_enc i hi (blL i v L) (blF i v n b) (by unfold blL hdL; omega) fun k hk => by
  rw [bl_head k (by unfold hdL; omega)]; unfold hdF catF; rw [if_pos hk]
theorem bl_two (hi : i < 9223372036854775808) (hv : v < 9223372036854775808) : tkE (blL i v L - encL i) (rdR (blF i v n b)) = 0 ∧ tkV (rdR (blF i v n b)) = v ∧ tkL (rdR (blF i v n b)) = encL v := by
 refine tk_enc v hv _ _ (by unfold blL hdL; omega) fun k hk => ?_
 unfold rdR
 rw [(bl_one (L := 0) hi).2.2]
 show blF i v n b (encL i + k) = _
 rw [bl_head _ (by unfold hdL; omega)]
 unfold hdF catF
 rw [if_neg (by omega), Nat.add_sub_cancel_left]
theorem bl_off (hi : i < 9223372036854775808) (hv : v < 9223372036854775808) : rdO (blF i v n b) = hdL i v := by
 unfold rdO; rw [(bl_one (L := 0) hi).2.2, (bl_two (L := 0) hi hv).2.2]; rfl
theorem bl_B (hi : i < 9223372036854775808) (hv : v < 9223372036854775808) (h1 : 1 ≤ i) (h2 : 1 ≤ v) : rdB (blL i v L) (blF i v n b) = decide (16 ≤ L ∧ L ≤ 80) := by
 obtain ⟨a1, a2, a3⟩ := bl_one (v := v) (L := L) (n := n) (b := b) hi
 obtain ⟨c1, c2, c3⟩ := bl_two (L := L) (n := n) (b := b) hi hv
 unfold rdB
 rw [a1, a2, a3, c1, c2, c3]
 congr 1
 unfold blL hdL
 apply propext
 constructor
 ·intro h; omega
 ·intro h; omega
theorem bl_ok (hi : i < 9223372036854775808) (hv : v < 9223372036854775808) (h1 : 1 ≤ i) (h2 : 1 ≤ v) (h3 : 16 ≤ L) (h4 : L ≤ 80) :
  rdB (blL i v L) (blF i v n b) = true ∧ rdI (blL i v L) (blF i v n b) = i ∧ rdV (blL i v L) (blF i v n b) = v ∧ rdL (blL i v L) (blF i v n b) = L ∧ (∀ k, k < 12 → rdN (blL i v L) (blF i v n b) k = n k) ∧ rdF (blF i v n b) = b := by
 have hB : rdB (blL i v L) (blF i v n b) = true := by rw [bl_B hi hv h1 h2]; simp; omega
 have ho := bl_off (n := n) (b := b) hi hv
 refine ⟨hB, ?_, ?_, ?_, fun k hk => ?_, ?_⟩
 ·rw [rdI_ok hB, (bl_one (L := 0) hi).2.1]
 ·rw [rdV_ok hB, (bl_two (L := 0) hi hv).2.1]
 ·rw [rdL_ok hB, (bl_one (L := 0) hi).2.2, (bl_two (L := 0) hi hv).2.2]; unfold blL hdL; omega
 ·rw [rdN_ok hB, ho]; exact bl_non k hk
 ·unfold rdF; rw [ho]; funext k; exact bl_text k
end
@[irreducible] def ecE (K : Ks) (id : Int) (L S : Nat) : Int := if 64 < L ∨ 32 < S then 2 else usE K id
@[irreducible] def enV (K : Ks) (id : Int) (L S : Nat) : Int := if ecE K id L S = 0 then usV K id else 0
@[irreducible] def enK (K : Ks) (id : Int) (L S : Nat) : Ks := if 64 < L ∨ 32 < S then K else usK K id
@[irreducible] def enL (K : Ks) (id : Int) (L S : Nat) : Nat := if ecE K id L S = 0 then blL id.toNat (usV K id).toNat (L + 16) else 0
@[irreducible] def enF (K : Ks) (id : Int) (t : Bf) (L : Nat) (s : Bf) (S : Nat) : Bf :=
 blF id.toNat (usV K id).toNat (nonC (usC K id).toNat) (sealF (usM K id) (nonC (usC K id).toNat) s S t L)
@[irreducible] def dcE (K : Ks) (n : Nat) (f : Bf) (s : Bf) (S : Nat) : Int :=
 if 32 < S then 2 else if rdB n f = false then 140 else if mtE K (rdI n f) (rdV n f) = 0 then opC (mtM K (rdI n f) (rdV n f)) (rdN n f) s S (rdF f) (rdL n f) else mtE K (rdI n f) (rdV n f)
@[irreducible] def dcI (K : Ks) (n : Nat) (f : Bf) (s : Bf) (S : Nat) : Int := if dcE K n f s S = 0 then rdI n f else 0
@[irreducible] def dcL (K : Ks) (n : Nat) (f : Bf) (s : Bf) (S : Nat) : Nat := if dcE K n f s S = 0 then rdL n f - 16 else 0
@[irreducible] def dcF (K : Ks) (n : Nat) (f : Bf) : Bf := xorS (mtM K (rdI n f) (rdV n f)) (rdN n f) 2 (rdF f)
@[irreducible] def rwE (K : Ks) (n : Nat) (f : Bf) (s : Bf) (S : Nat) : Int := if dcE K n f s S = 0 then ecE K (dcI K n f s S) (dcL K n f s S) S else dcE K n f s S
@[irreducible] def rwV (K : Ks) (n : Nat) (f : Bf) (s : Bf) (S : Nat) : Int := if dcE K n f s S = 0 then enV K (dcI K n f s S) (dcL K n f s S) S else 0
@[irreducible] def rwK (K : Ks) (n : Nat) (f : Bf) (s : Bf) (S : Nat) : Ks := if dcE K n f s S = 0 then enK K (dcI K n f s S) (dcL K n f s S) S else K
@[irreducible] def rwL (K : Ks) (n : Nat) (f : Bf) (s : Bf) (S : Nat) : Nat := if dcE K n f s S = 0 then enL K (dcI K n f s S) (dcL K n f s S) S else 0
@[irreducible] def rwF (K : Ks) (n : Nat) (f : Bf) (s : Bf) (S : Nat) : Bf := enF K (dcI K n f s S) (dcF K n f) (dcL K n f s S) s S
theorem us_nat {K : Ks} {id : Int} (h : usE K id = 0) (ok : okK K) : ∃ i V C : Nat, id = i ∧ usV K id = V ∧ usC K id = C ∧ 1 ≤ i ∧ i ≤ 8 ∧ 1 ≤ V ∧ V ≤ 4 ∧ C < 16 := by
 obtain ⟨h1, h2, h3, h4⟩ := usE_zero h
 have hr := ok.ring h1
 have hl := hr.last
 have h8 := ok.1
 obtain ⟨a1, a2⟩ := hasK_iff.1 h1
 have hc := hl.1.1
 refine ⟨id.toNat, (rgAt K id).l.length, (lastV (rgAt K id)).u.toNat, by omega, ?_, ?_, by omega, by omega, hr.1.1, hr.1.2, by omega⟩
 ·unfold usV; rw [if_pos h]
 ·unfold usC; rw [if_pos h]; omega
section
variable {K : Ks} {id : Int} {L S : Nat}
theorem en_long (h : 64 < L ∨ 32 < S) : ecE K id L S = 2 ∧ enV K id L S = 0 ∧ enK K id L S = K ∧ enL K id L S = 0 := by
 have e : ecE K id L S = 2 := by unfold ecE; rw [if_pos h]
 exact ⟨e, by unfold enV; rw [e, if_neg (by decide)], by unfold enK; rw [if_pos h], by unfold enL; rw [e, if_neg (by decide)]⟩
theorem en_no (h : ¬ (64 < L ∨ 32 < S)) (hu : usE K id ≠ 0) : ecE K id L S = usE K id ∧ enV K id L S = 0 ∧ enK K id L S = usK K id ∧ enL K id L S = 0 := by
 have e : ecE K id L S = usE K id := by unfold ecE; rw [if_neg h]
 exact ⟨e, by unfold enV; rw [e, if_neg hu], by unfold enK; rw [if_neg h], by unfold enL; rw [e, if_neg hu]⟩
theorem en_ok (h : ¬ (64 < L ∨ 32 < S)) (hu : usE K id = 0) : ecE K id L S = 0 ∧ enV K id L S = usV K id ∧ enK K id L S = usK K id ∧ enL K id L S = blL id.toNat (usV K id).toNat (L + 16) := by
 have e : ecE K id L S = 0 := by unfold ecE; rw [if_neg h, hu]
 exact ⟨e, by unfold enV; rw [if_pos e], by unfold enK; rw [if_neg h], by unfold enL; rw [if_pos e]⟩
theorem enK_ok (ok : okK K) : okK (enK K id L S) := by
 unfold enK
 split
 ·exact ok
 ·exact usK_ok ok
end
open Go.RowKit
theorem sh_byte (x s : Nat) : (x : Int) / 2 ^ (8 * s) % 256 = I (BitVec.ofNat 8 (x / 256 ^ s)) := by
 rw [← I_of8, show (256 : Nat) = 2 ^ 8 from rfl, ← Nat.pow_mul, Int.natCast_ediv, Int.natCast_pow]; rfl
theorem ld_rowV {P : Program} {w : World} {b : Nat} {c : Array Value} {ty : TypeId} {d : TypeDesc} (hr : row w b = some c) (hu : P.underlying ty = some d) (hd : d.isRow = true) (hi : (P.info? ty).map (·.size) = some c.size) :
  (loadVar ty ⟨b, 0, none⟩).run P w = .ok (.agg c) w := by
 obtain ⟨t', ht⟩ := xC hr
 have hg : w.rangeAt b 0 (c.extract 0 (0 + c.size)).toList := World.rangeAt_of_block ht 0 c.size
 have hx := run_loadVar_mid (P := P) w b 0 ty _ d hg hu hd (by rw [hi]; simp)
 rw [Array.toArray_toList, Nat.zero_add, Array.extract_size] at hx
 exact hx
open Go.ChangeShapes Go.WideShapes Go.ChangeAt
theorem e8_u : Tryz.prog.underlying 288 = some (.array 8 5) := by kernel_rfl
theorem e8_i : (Tryz.prog.info? 288).map (·.size) = some 8 := by kernel_rfl
@[go_sem ↓] theorem e8_l (p : Value) : Instr.loadAt 288 p = ldA 288 p := rfl
@[go_sem ↓] theorem e8_s (p v : Value) : Instr.storeAt 288 p v = stA 288 p v := rfl
@[go_sem] theorem e8_ld (w : World) (b o : Nat) : (ldA 288 (.pointer (some ⟨b, o, none⟩))).run Tryz.prog w = ldR Tryz.prog 288 8 w b o (row w b) := yU _ _ _ e8_u 8 e8_i w b o
@[go_sem] theorem e8_st (w : World) (b o : Nat) (c : Array Value) : (stA 288 (.pointer (some ⟨b, o, none⟩)) (.agg c)).run Tryz.prog w = stR Tryz.prog 288 8 w b o (.agg c) (row w b) := yO _ 8 e8_i w b o c
theorem e8_z : (Tryz.prog.info? 288).map (·.zero) = some (some (.agg (ba 8 fun _ => 0#8))) := by unfold ba; kernel_rfl
@[go_sem ↓] theorem e8_zero (w : World) : (zeroValue 288).run Tryz.prog w = .ok (.agg (ba 8 fun _ => 0#8)) w := yC _ _ e8_z w
theorem pbe_any (x : Nat) (hx : x < 18446744073709551616) (w : World) :
  Calls Tryz.prog 217 #[.int .u64 x] w fun e w' => e = .returned (.agg (ba 8 (beN 8 x))) ∧ Below w.heap.size w w' := by
 obtain ⟨w2, hw2⟩ : ∃ w2, w2 = (w.alloc (.cells (ba 8 fun _ => 0#8) 288)).alloc (.cells (ba 8 fun _ => 0#8) 288) := ⟨_, rfl⟩
 have q0 : row w2 w.heap.size = some (ba 8 fun _ => 0#8) := by rw [hw2]; simp [go_sem]
 have q1 : row w2 (w.heap.size + 1) = some (ba 8 fun _ => 0#8) := by rw [hw2]; simp [go_sem]
 have B0 := Lib.hid (show Below w.heap.size w w2 by rw [hw2]; exact ((Below.refl w.heap.size w).alloc (by simp) _).alloc (by simp) _)
 have HW2 := Lib.hid hw2
 obtain ⟨D, hD⟩ : ∃ D, D = w.heap.size + 1 := ⟨_, rfl⟩
 rw [← hD] at q1
 have HD := Lib.hid hD
 have HQ0 := Lib.hid q0
 have HQ1 := Lib.hid q1
 clear hw2 hD q0 q1
 go_enter Tryz.func217, Tryz.ntmps217
 go_wp2
 rw [← HW2.out, ← HD.out]
 go_loopw [5] (fun iv wr => ∃ j : Nat, j ≤ 8 ∧ iv = .int .i64 j ∧ wr = w2.setRow D (ba 8 (wrF (fun _ => 0#8) 0 8 x j))) (fun iv _ => 8 - (intOf iv).toNat)
 case atStart => exact ⟨0, by omega, rfl, by rw [wrF_zero, yE HQ1.out]⟩
 case round =>
  obtain ⟨j, hj, rfl, rfl⟩ := hrel
  have hrow := zD HQ1.out (ba 8 (wrF (fun _ => 0#8) 0 8 x j))
  by_cases hlt : j < 8
  ·have hd : decide ((j : Int) < 8) = true := by simp; omega
   have hix : (7 : Int) - (j : Int) = ((7 - j : Nat) : Int) := by omega
   have hsh := sh_byte x j
   have HST := Lib.hid (wrF_step (fun _ => 0#8) 0 8 x j hlt)
   have hi8 : 7 - j < 8 := by omega
   have hcl : (w2.setRow D (ba 8 (wrF (fun _ => 0#8) 0 8 x j))).cell? ⟨D, 7 - j, none⟩ = some (.int .u8 (I (wrF (fun _ => 0#8) 0 8 x j (7 - j)))) := by rw [zF hrow, zY _ _ _ (by omega)]
   have hfz : (w2.setRow D (ba 8 (wrF (fun _ => 0#8) 0 8 x j))).frozen? ⟨D, 7 - j, none⟩ = false := zW hrow _
   have HW := Lib.hid (show ((w2.setRow D (ba 8 (wrF (fun _ => 0#8) 0 8 x j))).setCell ⟨D, 7 - j, none⟩ (.int .u8 (I (BitVec.ofNat 8 (x / 256 ^ j))))) = w2.setRow D (ba 8 (wrF (fun _ => 0#8) 0 8 x (j + 1))) by
    rw [zP hrow, ba_set, setRow_setRow, ← wrF_step (fun _ => 0#8) 0 8 x j hlt, Nat.zero_add, show 8 - (j + 1) = 7 - j by omega])
   generalize w2.setRow D (ba 8 (wrF (fun _ => 0#8) 0 8 x j)) = wr at hcl hfz HW ⊢
   clear hrow HST
   go_wp2
   rw [HW.out]
   go_roundw
   case rel => exact ⟨j + 1, by omega, rfl, rfl⟩
   case measure => simp [intOf]; omega
  ·obtain rfl : j = 8 := by omega
   have hd : decide (((8 : Nat) : Int) < 8) = false := by decide
   rw [wrF_all, show ba 8 (putF (fun _ => 0#8) 0 8 (beN 8 x)) = ba 8 (beN 8 x) from yT fun i hi => by unfold putF; rw [if_pos (by omega), Nat.sub_zero]]
   have r1 := zD HQ1.out (ba 8 (beN 8 x))
   have r0 : row (w2.setRow D (ba 8 (beN 8 x))) w.heap.size = some (ba 8 fun _ => 0#8) := by rw [zB _ _ _ _ (by have := HD.out; omega)]; exact HQ0.out
   have B1 := Lib.hid (zE B0.out (by have := HD.out; omega : w.heap.size ≤ D) (ba 8 (beN 8 x)))
   clear hrow
   generalize w2.setRow D (ba 8 (beN 8 x)) = w3 at r0 r1 B1 ⊢
   go_wp2
   exact bodyPost_ret (v := .agg (ba 8 (beN 8 x))) (zS rfl _ _ w.heap.size _ _ _ rfl (zD r0 _) e8_u (by rw [zG]; exact e8_i)) rfl ⟨rfl, zE B1.out (Nat.le_refl _) _⟩
theorem non_len : Tryz.prog.arrayLen 217 = 12 := by kernel_rfl
theorem non_elem : Tryz.prog.elem 217 = 5 := by kernel_rfl
theorem non_sl_4 (B : Nat) (w : World) : (Instr.sliceAt 217 (.pointer (some ⟨B, 0, none⟩)) (some (.int .i64 4)) none none).run Tryz.prog w = .ok (.slice (some ⟨B, 4, none⟩) 8 8) w := by
 rw [run_sliceAt_array_l w 217 ⟨B, 0, none⟩ (by kernel_rfl) .i64 _ (by omega) (by rw [non_len]; omega), non_elem, u8_size, non_len, Result.andThen_ok]
 rfl
theorem non_sl_a (B : Nat) (w : World) : (Instr.sliceAt 217 (.pointer (some ⟨B, 0, none⟩)) none none none).run Tryz.prog w = .ok (.slice (some ⟨B, 0, none⟩) 12 12) w := by
 rw [run_sliceAt_array_all w 217 ⟨B, 0, none⟩ (by kernel_rfl), non_elem, u8_size, non_len, Result.andThen_ok]
 rfl
theorem e8_len : Tryz.prog.arrayLen 288 = 8 := by kernel_rfl
theorem e8_elem : Tryz.prog.elem 288 = 5 := by kernel_rfl
theorem e8_sl_a (B : Nat) (w : World) : (Instr.sliceAt 288 (.pointer (some ⟨B, 0, none⟩)) none none none).run Tryz.prog w = .ok (.slice (some ⟨B, 0, none⟩) 8 8) w := by
 rw [run_sliceAt_array_all w 288 ⟨B, 0, none⟩ (by kernel_rfl), e8_elem, u8_size, e8_len, Result.andThen_ok]
 rfl
theorem pnc_any (x : Nat) (hx : x < 9223372036854775808) (w : World) :
  Calls Tryz.prog 185 #[.int .i64 x] w fun e w' => e = .returned (.agg (ba 12 (nonC x))) ∧ Below w.heap.size w w' := by
 obtain ⟨w2, hw2⟩ : ∃ w2, w2 = (w.alloc (.cells (ba 12 fun _ => 0#8) 217)).alloc (.cells (ba 12 fun _ => 0#8) 217) := ⟨_, rfl⟩
 have q0 : row w2 w.heap.size = some (ba 12 fun _ => 0#8) := by rw [hw2]; simp [go_sem]
 have q1 : row w2 (w.heap.size + 1) = some (ba 12 fun _ => 0#8) := by rw [hw2]; simp [go_sem]
 have B0 := Lib.hid (show Below w.heap.size w w2 by rw [hw2]; exact ((Below.refl w.heap.size w).alloc (by simp) _).alloc (by simp) _)
 have HW2 := Lib.hid hw2
 obtain ⟨D, hD⟩ : ∃ D, D = w.heap.size + 1 := ⟨_, rfl⟩
 rw [← hD] at q1
 have HD := Lib.hid hD
 have HQ0 := Lib.hid q0
 have HQ1 := Lib.hid q1
 have hcv : IntKind.u64.wrap (x : Int) = x := by rw [IntKind.wrap_u64]; omega
 clear hw2 hD q0 q1
 go_enter Tryz.func185, Tryz.ntmps185
 go_wp2_with fail
 rw [← HW2.out, ← HD.out]
 clear HW2
 refine (pbe_any x (by omega) w2).mono ?_
 rintro e w3 ⟨rfl, hb3⟩
 obtain ⟨F, hF⟩ : ∃ F, F = beN 8 x := ⟨_, rfl⟩
 rw [← hF]
 have HF := Lib.hid hF
 have b4 := hb3.alloc hb3.size (.cells (ba 8 F) 288)
 have r0 := zC b4 HQ0.out
 have r1 := zC b4 HQ1.out
 have r2 : row (w3.alloc (.cells (ba 8 F) 288)) w3.heap.size = some (ba 8 F) := zA _ _ _ _ rfl
 have B4 := Lib.hid (onto B0.out B0.out.size b4)
 have hz : D ≠ w3.heap.size := by have := hb3.size; have := zK HQ1.out; omega
 obtain ⟨G, hG⟩ : ∃ G, G = w3.heap.size := ⟨_, rfl⟩
 rw [← hG] at r2 hz
 have HG := Lib.hid hG
 have HZ := Lib.hid hz
 clear hb3 b4 hF hG hz HQ0 HQ1 B0
 go_wp2_with fail
 rw [← HG.out]
 clear HG
 generalize w3.alloc (.cells (ba 8 F) 288) = w4 at r0 r1 r2 B4 ⊢
 have sA := non_sl_4 D
 have sB := e8_sl_a G
 refine yL [([0, 1], 2, true)] [] (by kernel_rfl) (by kernel_rfl) (fun _ _ _ _ _ h => h) fun X => ?_
 have B5 := Lib.hid (onto B4.out B4.out.size X.below)
 have t0 := After.row r0 X
 have t1 := After.row r1 X
 have t2 := After.row r2 X
 clear r0 r1 r2 B4
 generalize X.val = w5 at B5 t0 t1 t2 ⊢
 clear X
 simp only [wpFs, pk, List.getElem?_cons_zero, List.getElem?_cons_succ]
 repeat (go_big_quiet_step (fail))
 refine wpQuiet_nil ?_
 clear sA sB
 have HS := Sl.of_row t2 w5.heap.size (zK t2)
 go_wp2_with (refine wpl_copyAt rfl (.tmp 8) (.tmp 9) 22 22 5 rfl zZ u8_i t1 (show 4 + 8 ≤ 12 by omega) HS (show 8 = min 8 8 by rfl) rfl rfl ?_)
 rw [show ba 12 (putF (fun _ => 0#8) 4 8 F) = ba 12 (nonC x) from yT fun i hi => by
  rw [HF.out]; unfold putF nonC catF
  by_cases h : i < 4
  ·rw [if_neg (by omega), if_pos h]
  ·rw [if_pos (by omega), if_neg h]]
 have r1 := zD t1 (ba 12 (nonC x))
 have r0 : row (w5.setRow D (ba 12 (nonC x))) w.heap.size = some (ba 12 fun _ => 0#8) := by rw [zB _ _ _ _ (by have := HD.out; omega)]; exact t0
 have B6 := Lib.hid (zE B5.out (by have := HD.out; omega : w.heap.size ≤ D) (ba 12 (nonC x)))
 clear HS t0 t1 t2 B5
 generalize w5.setRow D (ba 12 (nonC x)) = w6 at r0 r1 B6 ⊢
 show wpQuiet _ _ _ _ _ _
 refine wpQuiet_nil ?_
 go_wp2
 exact bodyPost_ret (v := .agg (ba 12 (nonC x))) (zS rfl _ _ w.heap.size _ _ _ rfl (zD r0 _) non_u (by rw [zG]; exact non_i)) rfl ⟨rfl, zE B6.out (Nat.le_refl _) _⟩
end Go.Proofs.YteffjpdcghlnlaaGreatDoor.Oct
