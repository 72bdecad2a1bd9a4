/- Contract of the reference's Mul: all products of coefficients, then what stands from x^128 on is taken away. -/
import Derived.Test.YtokhldihfbaeoaaBlkC
import Derived.Test.YtokhldihfbaeoaaTyBox
import Derived.Test.YtokhldihfbaeoaaSeen
namespace Go.Proofs.Ytokhldihfbaeoaa.Oct
open Go.ChangeShapes Go.WideShapes Go.ChangeAt Go.RowKit

/- the plain mathematics -/
def updB (c : Nat → Bool) (m : Nat) (v : Bool) : Nat → Bool := fun j => if j = m then v else c j
def tF (c : Nat → Bool) : Bf := fun i => b1 (c i)
theorem sm_upd (v : Nat → Pl) (c : Nat → Bool) (m : Nat) (d : Bool) (n : Nat) (h : m < n) : sm v (updB c m (c m ^^ d)) n = sm v c n ^^^ sel d (v m) := by
  have e : updB c m (c m ^^ d) = fun j => c j ^^ (decide (m = j) && d) := by
    funext j
    unfold updB
    by_cases hj : j = m
    · subst hj; simp
    · have : ¬ m = j := fun x => hj x.symm
      simp [hj, this]
  rw [e, sm_c]
  congr 1
  cases d
  · simp only [Bool.and_false]
    have : ∀ n, sm v (fun _ => false) n = 0#128 := fun n => by
      induction n with
      | zero => rfl
      | succ n ih => simp only [sm]; rw [ih]; simp [sel]
    rw [this]; rfl
  · simp only [Bool.and_true]
    rw [sm_one, if_pos h]; rfl
theorem tF_upd (c : Nat → Bool) (m : Nat) (d : Bool) : upd (tF c) m (tF c m ^^^ b1 d) = tF (updB c m (c m ^^ d)) := by
  funext j
  unfold upd tF updB
  by_cases h : j = m
  · simp only [h, if_true]; cases c m <;> cases d <;> decide
  · simp only [h, if_false]
/-- the inner loop: i and the first k of b's coefficients are in -/
def In (f g : Bf) (i k : Nat) (c : Nat → Bool) : Prop := ev c 255 = gmA (pol f) (pol g) i ^^^ sm (fun k => gxn (i + k) e0) (bt (pol g)) k
theorem In.step {f g : Bf} {i k : Nat} {c : Nat → Bool} (h : In f g i k c) (hi : i < 128) (hk : k < 128) : In f g i (k + 1) (updB c (i + k) (c (i + k) ^^ fbit g k)) := by
  unfold In ev at *
  rw [sm_upd _ _ _ _ _ (by omega), h, BitVec.xor_assoc]
  simp only [sm]
  rw [bt_pol g k hk]
theorem In.start {f g : Bf} {i : Nat} {c : Nat → Bool} (h : ev c 255 = gmA (pol f) (pol g) i) : In f g i 0 c := by
  unfold In; rw [h]; simp [sm]
theorem In.done {f g : Bf} {i : Nat} {c : Nat → Bool} (h : In f g i 128 c) (hi : i < 128) (hb : fbit f i = true) : ev c 255 = gmA (pol f) (pol g) (i + 1) := by
  have e : sm (fun k => gxn (i + k) e0) (bt (pol g)) 128 = gxn i (pol g) := by
    rw [(gxn_li i).by_bt (pol g)]
    exact sm_congr (fun k _ => gxn_add i k e0) (fun _ _ => rfl)
  unfold In at h
  rw [h, e]
  show _ = gmA _ _ i ^^^ sel (bt (pol f) i) (gxn i (pol g))
  rw [bt_pol f i hi, hb]; rfl
theorem out_off {f g : Bf} {i : Nat} {c : Nat → Bool} (h : ev c 255 = gmA (pol f) (pol g) i) (hi : i < 128) (hb : fbit f i = false) : ev c 255 = gmA (pol f) (pol g) (i + 1) := by
  rw [h]
  show _ = gmA _ _ i ^^^ sel (bt (pol f) i) (gxn i (pol g))
  rw [bt_pol f i hi, hb]; simp [sel]
/-- four coefficients are turned -/
def tgl (c : Nat → Bool) (m : Nat) : Nat → Bool := fun j => c j ^^ (((decide (m = j) ^^ decide (m + 1 = j)) ^^ decide (m + 2 = j)) ^^ decide (m + 7 = j))
theorem gx128 : gxn 128 e0 = ((e0 ^^^ gxn 1 e0) ^^^ gxn 2 e0) ^^^ gxn 7 e0 := by decide +kernel
theorem ev_tgl (c : Nat → Bool) (m : Nat) (h : c (128 + m) = true) : ev (tgl c m) (128 + m) = ev c (128 + m + 1) := by
  unfold ev tgl
  rw [sm_c, sm_c, sm_c, sm_c, sm_one, sm_one, sm_one, sm_one, if_pos (by omega), if_pos (by omega), if_pos (by omega), if_pos (by omega)]
  simp only [sm]
  congr 1
  rw [h]
  show _ = gxn (128 + m) e0
  rw [show gxn (128 + m) e0 = gxn m (gxn 128 e0) by rw [Nat.add_comm, gxn_add], gx128, (gxn_li m).add, (gxn_li m).add, (gxn_li m).add, ← gxn_add m 1 e0, ← gxn_add m 2 e0, ← gxn_add m 7 e0]
theorem ev_off (c : Nat → Bool) (m : Nat) (h : c (128 + m) = false) : ev c (128 + m) = ev c (128 + m + 1) := by
  unfold ev
  simp only [sm]
  rw [h]; simp [sel]
theorem tF_tgl (c : Nat → Bool) (m : Nat) : upd (upd (upd (upd (tF c) m (tF c m ^^^ 1#8)) (m + 1) (tF c (m + 1) ^^^ 1#8)) (m + 2) (tF c (m + 2) ^^^ 1#8)) (m + 7) (tF c (m + 7) ^^^ 1#8) = tF (tgl c m) := by
  have e : ∀ v : Bool, b1 v ^^^ 1#8 = b1 (!v) := by decide
  funext j
  simp only [upd, tF, tgl, e]
  by_cases h7 : j = m + 7
  · subst h7; simp
  · by_cases h2 : j = m + 2
    · subst h2; simp
    · by_cases h1 : j = m + 1
      · subst h1; simp
      · by_cases h0 : j = m
        · subst h0; simp
        · have a0 : ¬ m = j := fun x => h0 x.symm
          have a1 : ¬ m + 1 = j := fun x => h1 x.symm
          have a2 : ¬ m + 2 = j := fun x => h2 x.symm
          have a7 : ¬ m + 7 = j := fun x => h7 x.symm
          simp [h7, h2, h1, h0, a0, a1, a2, a7]
/-- one bit more is laid into the block -/
theorem byt_step (c : Nat → Bool) (k : Nat) (hk : k < 128) : ba 16 (upd (byt (ev c k)) (k / 8) (byt (ev c k) (k / 8) ||| tF c k <<< (7 - k % 8))) = ba 16 (byt (ev c (k + 1))) := ba_ext fun q hq => by
  apply BitVec.eq_of_getLsbD_eq
  intro j hj
  rw [byt_bit _ q j hq hj, bt_ev c _ (by omega) (k + 1) (by omega)]
  unfold upd
  by_cases h : q = k / 8
  · rw [if_pos h, ← h, BitVec.getLsbD_or, byt_bit _ q j hq hj, bt_ev c _ (by omega) k (by omega), BitVec.getLsbD_shiftLeft]
    unfold tF b1
    by_cases hj2 : 8 * q + 7 - j = k
    · rw [hj2, show j = 7 - k % 8 by omega]
      cases c k <;> simp <;> omega
    · by_cases hl : 8 * q + 7 - j < k
      · rw [decide_eq_true hl, decide_eq_true (show 8 * q + 7 - j < k + 1 by omega), Bool.true_and]
        have : ¬ j < 7 - k % 8 → 7 - k % 8 < j := fun x => by omega
        by_cases hx : j < 7 - k % 8
        · simp [hx]
        · have h3 : ¬ j - (7 - k % 8) = 0 := by omega
          cases c k <;> simp [h3]
      · rw [decide_eq_false hl, decide_eq_false (show ¬ 8 * q + 7 - j < k + 1 by omega), Bool.false_and, Bool.false_or]
        have hx : j < 7 - k % 8 := by omega
        simp [hx]
  · rw [if_neg h, byt_bit _ q j hq hj, bt_ev c _ (by omega) k (by omega)]
    congr 1
    rw [Bool.eq_iff_iff]; simp; omega
end Go.Proofs.Ytokhldihfbaeoaa.Oct
