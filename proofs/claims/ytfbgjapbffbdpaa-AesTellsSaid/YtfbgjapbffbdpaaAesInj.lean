/- AES tells: a round, and a whole encryption, are one-to-one. No program is named here. -/
import Derived.Test.YtfbgjapbffbdpaaAesEx
import Derived.Test.YtfbgjapbffbdpaaEq
namespace Go.Proofs.Ytfbgjapbffbdpaa.Oct

theorem m_a : ∀ a : BitVec 8, mul (mul a 2#8) 14#8 ^^^ mul a 11#8 ^^^ mul a 13#8 ^^^ mul (mul a 3#8) 9#8 = a := by decide +kernel
theorem m_b : ∀ a : BitVec 8, mul (mul a 3#8) 14#8 ^^^ mul (mul a 2#8) 11#8 ^^^ mul a 13#8 ^^^ mul a 9#8 = 0#8 := by decide +kernel
theorem m_c : ∀ a : BitVec 8, mul a 14#8 ^^^ mul (mul a 3#8) 11#8 ^^^ mul (mul a 2#8) 13#8 ^^^ mul a 9#8 = 0#8 := by decide +kernel
theorem m_d : ∀ a : BitVec 8, mul a 14#8 ^^^ mul a 11#8 ^^^ mul (mul a 3#8) 13#8 ^^^ mul (mul a 2#8) 9#8 = 0#8 := by decide +kernel
theorem unmix (a b c d : BitVec 8) :
    mul ((mul a 2#8 ^^^ mul b 3#8) ^^^ (c ^^^ d)) 14#8 ^^^ mul ((mul b 2#8 ^^^ mul c 3#8) ^^^ (d ^^^ a)) 11#8 ^^^ mul ((mul c 2#8 ^^^ mul d 3#8) ^^^ (a ^^^ b)) 13#8 ^^^ mul ((mul d 2#8 ^^^ mul a 3#8) ^^^ (b ^^^ c)) 9#8 = a := by
  simp only [xor_mul]
  have h : a = (mul (mul a 2#8) 14#8 ^^^ mul a 11#8 ^^^ mul a 13#8 ^^^ mul (mul a 3#8) 9#8) ^^^ (mul (mul b 3#8) 14#8 ^^^ mul (mul b 2#8) 11#8 ^^^ mul b 13#8 ^^^ mul b 9#8) ^^^
      (mul c 14#8 ^^^ mul (mul c 3#8) 11#8 ^^^ mul (mul c 2#8) 13#8 ^^^ mul c 9#8) ^^^ (mul d 14#8 ^^^ mul d 11#8 ^^^ mul (mul d 3#8) 13#8 ^^^ mul (mul d 2#8) 9#8) := by
    rw [m_a, m_b, m_c, m_d, BitVec.xor_zero, BitVec.xor_zero, BitVec.xor_zero]
  refine Eq.trans ?_ h.symm
  ac_rfl
def unmixF (g : Bf) : Bf := fun i =>
  mul (g i) 14#8 ^^^ mul (g (4 * (i / 4) + (i % 4 + 1) % 4)) 11#8 ^^^ mul (g (4 * (i / 4) + (i % 4 + 2) % 4)) 13#8 ^^^ mul (g (4 * (i / 4) + (i % 4 + 3) % 4)) 9#8
theorem mix_row (f : Bf) (c r : Nat) (hr : r < 4) : mixF f (4 * c + r) =
    (mul (f (4 * c + r)) 2#8 ^^^ mul (f (4 * c + (r + 1) % 4)) 3#8) ^^^ (f (4 * c + (r + 2) % 4) ^^^ f (4 * c + (r + 3) % 4)) := by
  unfold mixF
  rw [show (4 * c + r) / 4 = c by omega, show (4 * c + r) % 4 = r by omega]
theorem unmix_mix (f : Bf) (i : Nat) : unmixF (mixF f) i = f i := by
  obtain ⟨c, r, hr, rfl⟩ : ∃ c r, r < 4 ∧ i = 4 * c + r := ⟨i / 4, i % 4, by omega, by omega⟩
  unfold unmixF
  rw [show (4 * c + r) / 4 = c by omega, show (4 * c + r) % 4 = r by omega, mix_row f c r hr, mix_row f c _ (Nat.mod_lt _ (by omega)), mix_row f c _ (Nat.mod_lt _ (by omega)), mix_row f c _ (Nat.mod_lt _ (by omega))]
  have : r = 0 ∨ r = 1 ∨ r = 2 ∨ r = 3 := by omega
  rcases this with rfl | rfl | rfl | rfl <;> exact unmix _ _ _ _
theorem mix_inj {f g : Bf} (h : ∀ i, i < 16 → mixF f i = mixF g i) : ∀ i, i < 16 → f i = g i := by
  intro i hi
  rw [← unmix_mix f i, ← unmix_mix g i]
  unfold unmixF
  rw [h i hi, h (4 * (i / 4) + (i % 4 + 1) % 4) (by omega), h (4 * (i / 4) + (i % 4 + 2) % 4) (by omega), h (4 * (i / 4) + (i % 4 + 3) % 4) (by omega)]
theorem shift_inj {f g : Bf} (h : ∀ i, i < 16 → shiftF f i = shiftF g i) : ∀ i, i < 16 → f i = g i := by
  intro p hp
  have e := h ((p / 4 + 4 - p % 4) % 4 * 4 + p % 4) (by omega)
  unfold shiftF at e
  have hs : (((p / 4 + 4 - p % 4) % 4 * 4 + p % 4) / 4 + ((p / 4 + 4 - p % 4) % 4 * 4 + p % 4) % 4) % 4 * 4 + ((p / 4 + 4 - p % 4) % 4 * 4 + p % 4) % 4 = p := by omega
  rwa [hs] at e
theorem rnd_inj {s t k : Bf} {last : Bool} (h : ∀ i, i < 16 → rndF s k last i = rndF t k last i) : ∀ i, i < 16 → s i = t i := by
  have hx : ∀ {a b c : BitVec 8}, a ^^^ c = b ^^^ c → a = b := fun {a b c} e => by
    have := congrArg (· ^^^ c) e
    simpa [BitVec.xor_assoc] using this
  have hs : ∀ i, i < 16 → shiftF (subF s) i = shiftF (subF t) i := by
    cases last
    · exact mix_inj fun i hi => hx (h i hi)
    · exact fun i hi => hx (h i hi)
  exact fun i hi => box_inj (shift_inj hs i hi)
theorem eqB_rnd (s t k : Bf) (last : Bool) : eqB 16 (rndF s k last) (rndF t k last) = eqB 16 s t := by
  rw [Bool.eq_iff_iff, eqB_iff, eqB_iff]
  exact ⟨rnd_inj, fun h => rndF_same h fun _ _ => rfl⟩
theorem eqB_st (k b c : Bf) (n : Nat) : eqB 16 (stF k b n) (stF k c n) = eqB 16 b c := by
  induction n with
  | zero =>
    rw [Bool.eq_iff_iff, eqB_iff, eqB_iff]
    show (∀ i, i < 16 → b i ^^^ expF k i = c i ^^^ expF k i) ↔ _
    constructor
    · intro h i hi
      have := congrArg (· ^^^ expF k i) (h i hi)
      simpa [BitVec.xor_assoc] using this
    · intro h i hi; rw [h i hi]
  | succ n ih => rw [← ih]; exact eqB_rnd _ _ _ _
theorem eqB_enc (k b c : Bf) : eqB 16 (encF k b) (encF k c) = eqB 16 b c := eqB_st k b c 14
end Go.Proofs.Ytfbgjapbffbdpaa.Oct
