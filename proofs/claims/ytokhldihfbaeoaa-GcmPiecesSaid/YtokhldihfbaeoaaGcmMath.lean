/- The plain mathematics of gcm: numbers as bytes, counter blocks, the stream, what is hashed, the tag. -/
import Derived.Test.YtokhldihfbaeoaaBlkH
import Derived.Test.YtokhldihfbaeoaaAesMath
set_option linter.unusedSimpArgs false
namespace Go.Proofs.Ytokhldihfbaeoaa.Oct

/-- x as m bytes, the highest first -/
def beN (m x : Nat) : Bf := fun i => BitVec.ofNat 8 (x / 256 ^ (m - 1 - i))
/-- the block of a counter -/
def ctrF (n : Bf) (c : Nat) : Bf := fun i => if i < 12 then n i else beN 4 c (i - 12)
def xorS (k n : Bf) (from_ : Nat) (b : Bf) : Bf := fun i => b i ^^^ encF k (ctrF n ((from_ + i / 16) % 4294967296)) (i % 16)
def up16 (n : Nat) : Nat := 16 * ((n + 15) / 16)
def allF (s : Bf) (ns : Nat) (b : Bf) (nb : Nat) : Bf := fun i =>
  if i < up16 ns then padF s ns i else if i < up16 ns + up16 nb then padF b nb (i - up16 ns) else if i < up16 ns + up16 nb + 8 then beN 8 (8 * ns) (i - (up16 ns + up16 nb)) else beN 8 (8 * nb) (i - (up16 ns + up16 nb + 8))
def tagF (k n : Bf) (s : Bf) (ns : Nat) (b : Bf) (nb : Nat) : Bf := xorF (encF k (ctrF n 1)) (hshF (encF k nF) (allF s ns b nb) (up16 ns + up16 nb + 16))

theorem xorS_back (k n : Bf) (from_ : Nat) (b : Bf) : xorS k n from_ (xorS k n from_ b) = b := by
  funext i; unfold xorS; rw [BitVec.xor_assoc, BitVec.xor_self, BitVec.xor_zero]
theorem xorF_comm' (f g : Bf) : xorF f g = xorF g f := by funext i; unfold xorF; rw [BitVec.xor_comm]
theorem hshF_congr {h b b' : Bf} {n : Nat} (e : ∀ i, i < n → b i = b' i) : hshF h b n = hshF h b' n := by
  unfold hshF
  refine hshT_congr _ fun j _ i _ => ?_
  unfold grp
  by_cases hi : 16 * j + i < n
  · rw [if_pos hi, if_pos hi, e _ hi]
  · rw [if_neg hi, if_neg hi]
theorem padF_congr {b b' : Bf} {n : Nat} (e : ∀ i, i < n → b i = b' i) : padF b n = padF b' n := by
  funext i; unfold padF
  by_cases hi : i < n
  · rw [if_pos hi, if_pos hi, e i hi]
  · rw [if_neg hi, if_neg hi]
theorem tagF_congr {k n s s' b b' : Bf} {ns nb : Nat} (hs : ∀ i, i < ns → s i = s' i) (hb : ∀ i, i < nb → b i = b' i) : tagF k n s ns b nb = tagF k n s' ns b' nb := by
  unfold tagF allF
  rw [padF_congr hs, padF_congr hb]
theorem up16_le (n : Nat) : n ≤ up16 n ∧ up16 n ≤ n + 15 := by unfold up16; omega
theorem up16_mod (n : Nat) : up16 n % 16 = 0 := by unfold up16; omega

/- the next counter -/
theorem inc_zero (x : Nat) : (BitVec.ofNat 8 x + 1#8 = 0#8) ↔ x % 256 = 255 := by
  constructor
  · intro h
    have := congrArg BitVec.toNat h
    simp at this
    omega
  · intro h
    apply BitVec.eq_of_toNat_eq
    simp
    omega
theorem ofNat_inc (x : Nat) : BitVec.ofNat 8 x + 1#8 = BitVec.ofNat 8 (x + 1) := by
  apply BitVec.eq_of_toNat_eq; simp
theorem ofNat_congr {x y : Nat} (h : x % 256 = y % 256) : BitVec.ofNat 8 x = BitVec.ofNat 8 y := by
  apply BitVec.eq_of_toNat_eq; simp; omega
theorem ctr_next (n : Bf) (c : Nat) (i : Nat) (hi : i < 16) : nextF (ctrF n c) i = ctrF n ((c + 1) % 4294967296) i := by
  by_cases hl : i < 12
  · rw [nextF_low _ i hl]; unfold ctrF; rw [if_pos hl, if_pos hl]
  · have e15 : ctrF n c 15 = BitVec.ofNat 8 c := by simp [ctrF, beN]
    have e14 : ctrF n c 14 = BitVec.ofNat 8 (c / 256) := by simp [ctrF, beN]
    have e13 : ctrF n c 13 = BitVec.ofNat 8 (c / 65536) := by simp [ctrF, beN]
    have e12 : ctrF n c 12 = BitVec.ofNat 8 (c / 16777216) := by simp [ctrF, beN]
    have hR : ctrF n ((c + 1) % 4294967296) i = BitVec.ofNat 8 ((c + 1) % 4294967296 / 256 ^ (15 - i)) := by
      unfold ctrF beN; rw [if_neg hl, show 4 - 1 - (i - 12) = 15 - i by omega]
    rw [hR]
    unfold nextF
    unfold nxF
    simp only [show 12 + 3 = 15 from rfl]
    rw [e15]
    have hcase : i = 12 ∨ i = 13 ∨ i = 14 ∨ i = 15 := by omega
    by_cases h15 : c % 256 = 255
    · rw [if_pos ((inc_zero c).2 h15)]
      unfold nxF
      simp only [show 12 + 2 = 14 from rfl]
      rw [show upd (ctrF n c) 15 (BitVec.ofNat 8 c + 1#8) 14 = BitVec.ofNat 8 (c / 256) by simp [upd, e14]]
      by_cases h14 : c / 256 % 256 = 255
      · rw [if_pos ((inc_zero _).2 h14)]
        unfold nxF
        simp only [show 12 + 1 = 13 from rfl]
        rw [show upd (upd (ctrF n c) 15 (BitVec.ofNat 8 c + 1#8)) 14 (BitVec.ofNat 8 (c / 256) + 1#8) 13 = BitVec.ofNat 8 (c / 65536) by simp [upd, e13]]
        by_cases h13 : c / 65536 % 256 = 255
        · rw [if_pos ((inc_zero _).2 h13)]
          unfold nxF
          simp only [show 12 + 0 = 12 from rfl]
          rw [show upd (upd (upd (ctrF n c) 15 (BitVec.ofNat 8 c + 1#8)) 14 (BitVec.ofNat 8 (c / 256) + 1#8)) 13 (BitVec.ofNat 8 (c / 65536) + 1#8) 12 = BitVec.ofNat 8 (c / 16777216) by simp [upd, e12]]
          have hx : (if BitVec.ofNat 8 (c / 16777216) + 1#8 = 0#8 then nxF 0 (upd (upd (upd (upd (ctrF n c) 15 (BitVec.ofNat 8 c + 1#8)) 14 (BitVec.ofNat 8 (c / 256) + 1#8)) 13 (BitVec.ofNat 8 (c / 65536) + 1#8)) 12 (BitVec.ofNat 8 (c / 16777216) + 1#8)) else upd (upd (upd (upd (ctrF n c) 15 (BitVec.ofNat 8 c + 1#8)) 14 (BitVec.ofNat 8 (c / 256) + 1#8)) 13 (BitVec.ofNat 8 (c / 65536) + 1#8)) 12 (BitVec.ofNat 8 (c / 16777216) + 1#8)) = upd (upd (upd (upd (ctrF n c) 15 (BitVec.ofNat 8 c + 1#8)) 14 (BitVec.ofNat 8 (c / 256) + 1#8)) 13 (BitVec.ofNat 8 (c / 65536) + 1#8)) 12 (BitVec.ofNat 8 (c / 16777216) + 1#8) := by
            split <;> rfl
          rw [hx]
          rcases hcase with rfl | rfl | rfl | rfl
          all_goals
            simp only [upd]
            simp only [ofNat_inc]
            simp
            exact ofNat_congr (by omega)
        · rw [if_neg (fun h => h13 ((inc_zero _).1 h))]
          rcases hcase with rfl | rfl | rfl | rfl
          all_goals
            simp only [upd]
            simp only [ofNat_inc, e12, e13, e14, e15]
            simp [e12]
            exact ofNat_congr (by omega)
      · rw [if_neg (fun h => h14 ((inc_zero _).1 h))]
        rcases hcase with rfl | rfl | rfl | rfl
        all_goals
          simp only [upd]
          simp only [ofNat_inc, e12, e13, e14, e15]
          simp [e12, e13]
          exact ofNat_congr (by omega)
    · rw [if_neg (fun h => h15 ((inc_zero _).1 h))]
      rcases hcase with rfl | rfl | rfl | rfl
      all_goals
        simp only [upd]
        simp only [ofNat_inc, e12, e13, e14, e15]
        simp [e12, e13, e14]
        exact ofNat_congr (by omega)
theorem ctr_next_ba (n : Bf) (c : Nat) : ba 16 (nextF (ctrF n c)) = ba 16 (ctrF n ((c + 1) % 4294967296)) := ba_ext (ctr_next n c)
theorem cnt_step (a j : Nat) : ((a + j) % 4294967296 + 1) % 4294967296 = (a + (j + 1)) % 4294967296 := by omega
end Go.Proofs.Ytokhldihfbaeoaa.Oct
