/- gcm on the document's examples, by tables that the kernel checks step by step. No program is named here. -/
import Derived.Test.YtamemjldafoolaaGreatGcmAll
import Derived.Test.YtamemjldafoolaaGreatAesEx
import Derived.Test.YtamemjldafoolaaGreatLib
namespace Go.Proofs.YtamemjldafoolaaGreat.Oct

def zkN : Nat := 0x856370cbe779c9459c72bf53170af8103bd420ce14ad5122257e9b73a10bed74621ab98e7b0b76168b7847439ce8b0e72f7971ec31d3ca51847576070ba9bb6d1911cf98f07331551790f7a452fd06641eaabbbdb5a6bc568fdccd6adf2b312be962fecde7e3c6f1456df1c0288faa9eab0c07eb3a7a713c50f7fc41c1818a960e81383ca28e37316de25b5ec1ed5453917676d76a8d8d7d917676d76a8d8d7dac0f0f0dcf6c6c6fac0f0f0dcf6c6c6ffbfbfbaafbfbfbaafbfbfbaafbfbfbaa636363626363636263636362636363620000000000000000000000000000000000000000000000000000000000000000
def st_h : Nat → Nat
  | 0 => 0x0
  | 1 => 0x63636363636363636363636363636363
  | 2 => 0x98989899989898999898989998989899
  | 3 => 0x5e1515a75e1515a75e1515a75e1515a7
  | 4 => 0xf850525f9b33313df850525f9b33313d
  | 5 => 0x67e4cd4742f4b5b167e4cd4742f4b5b1
  | 6 => 0x1152be46f20ac15c7231dd249169a23e
  | 7 => 0xb179f25f33b72cf86b21bb24b5a18a54
  | 8 => 0xbd6c12f461cea7be6939315c804f6d9a
  | 9 => 0x2f27a561f8c2f52cdc260287b4d7e0e3
  | 10 => 0xa729bad37c89d835056ef5fa19ee83ef
  | 11 => 0xd6e67e809a5cbc22840fb98f88211d02
  | 12 => 0x974c0536656b5b87663eb340ee5c434f
  | 13 => 0x66391156a107dc87e64b32b2f9fba27
  | 14 => 0x8720849214a248ad898940a278c095dc
  | _ => 0
def st_c1 : Nat → Nat
  | 0 => 0x1000000000000000000000000000000
  | 1 => 0x6363636363636363636363635d427c7c
  | 2 => 0x737355bf4f2dfa4eed5a2f2ebe737354
  | 3 => 0xc18cab0a53d2e8314d0bb49e53ef0d82
  | 4 => 0x38c54d67fd52f6608f7b6824320bc208
  | 5 => 0xa9688edc2f7d8ea0693016f871f130d5
  | 6 => 0xb534af36c83ee499afce4411c12210b0
  | 7 => 0x2eede3c70b5bba9a4ca4fc85eb664309
  | 8 => 0xbd51fc16445720b38f84834ec01faa5f
  | 9 => 0x12d24598947582f4f728459dd630aaa0
  | 10 => 0xff5b4ed901236eea4adbd6e13124f59
  | 11 => 0x139f3249f24ea0d27bfafb6120bb2d1
  | 12 => 0xaa7d2268bcc80a5345d5e39669475a5a
  | 13 => 0x838662fbd73a1483ff7c26e7c280fe64
  | 14 => 0x8b73cbc4f1b463a9b93645c7fb8a0f53
  | _ => 0
def st_c2 : Nat → Nat
  | 0 => 0x2000000000000000000000000000000
  | 1 => 0x6363636363636363636363634b5f7777
  | 2 => 0x9696848bacf0c4ad0840d0d18a969685
  | 3 => 0x1cec77e3f05a4bdac960281c9eb49313
  | 4 => 0x90f65a0cefb39b9578baac25e1fd3ceb
  | 5 => 0x32ea9d3d9d6e80186dca5f2f768f8a11
  | 6 => 0xd1d221da1bdf8fdd686765874ae0caba
  | 7 => 0xe6d483f3f4502c1d18831f99695d6312
  | 8 => 0x8c8d8e92f1dfd86cbc72dc25fca98391
  | 9 => 0x3a7156ed45fdd56b89f3675a97a77a59
  | 10 => 0xed364c24c9f7749865f339edde80a0a9
  | 11 => 0x39c9566b85eadf26d69f0e18b547a1db
  | 12 => 0x3f58436a9f17f57d958e64b344d9c4fd
  | 13 => 0x958eea2c755ceff6280c84e90478419c
  | 14 => 0x189df3bad3c54e076e6b604d3d40a7ce
  | _ => 0

/-- a key's table is right -/
theorem tab_key {K : Bf} {kN : Nat} (hlow : ∀ p : Fin 32, K p.val = tb kN p.val) (hchk : ∀ i : Fin 52, ∀ j : Fin 4, tb kN (4 * (i.val + 8) + j.val) = newT (tb kN) (i.val + 8) j.val) : ∀ (n : Nat), n ≤ 60 → ∀ p, p / 4 < n → axpF K p = tb kN p := by
  intro n
  induction n with
  | zero => intro _ p h; omega
  | succ n ih =>
    intro hn p hp
    by_cases h : p / 4 < n
    · exact ih (by omega) p h
    · by_cases h8 : n < 8
      · rw [exp_key K p (by omega)]; exact hlow ⟨p, by omega⟩
      · have hp' : p = 4 * n + p % 4 := by omega
        have e := exp_rec K n (p % 4) (by omega) (by omega) (by omega)
        have c := hchk ⟨n - 8, by omega⟩ ⟨p % 4, by omega⟩
        simp only [show n - 8 + 8 = n by omega] at c
        rw [hp', e, newW_same (by omega) (by omega) (fun q hq => ih (by omega) q hq), newW_tb, c]
/-- a block's states are right -/
theorem tab_enc {K b : Bf} {kN : Nat} {st : Nat → Nat} (hk : ∀ p, p / 4 < 60 → axpF K p = tb kN p) (h0 : ∀ p : Fin 16, xorF b (tb kN) p.val = tb (st 0) p.val)
    (hst : ∀ n : Fin 14, ∀ p : Fin 16, rndT (tb (st n.val)) (offF (tb kN) ((n.val + 1) * 16)) (n.val == 13) p.val = tb (st (n.val + 1)) p.val) : ∀ p, p < 16 → aenF K b p = tb (st 14) p := by
  have key : ∀ (n : Nat), n ≤ 14 → ∀ p, p < 16 → stF K b n p = tb (st n) p := by
    intro n
    induction n with
    | zero =>
      intro _ p hp
      show b p ^^^ axpF K p = _
      rw [hk p (by omega)]
      exact h0 ⟨p, hp⟩
    | succ n ih =>
      intro hn p hp
      show rndF (stF K b n) (offF (axpF K) ((n + 1) * 16)) (n == 13) p = _
      rw [rndF_same (ih (by omega)) (fun i hi => by unfold offF; exact hk _ (by omega)) p hp, rnd_tb]
      exact hst ⟨n, by omega⟩ ⟨p, hp⟩
  exact key 14 (by omega)
theorem zk_low : ∀ p : Fin 32, (nF : Bf) p.val = tb zkN p.val := by decide +kernel
theorem zk_chk : ∀ i : Fin 52, ∀ j : Fin 4, tb zkN (4 * (i.val + 8) + j.val) = newT (tb zkN) (i.val + 8) j.val := by decide +kernel
theorem zk_key : ∀ p, p / 4 < 60 → axpF nF p = tb zkN p := tab_key zk_low zk_chk 60 (Nat.le_refl _)
theorem h_low : ∀ p : Fin 16, xorF nF (tb zkN) p.val = tb (st_h 0) p.val := by decide +kernel
theorem h_chk : ∀ n : Fin 14, ∀ p : Fin 16, rndT (tb (st_h n.val)) (offF (tb zkN) ((n.val + 1) * 16)) (n.val == 13) p.val = tb (st_h (n.val + 1)) p.val := by decide +kernel
theorem c1_low : ∀ p : Fin 16, xorF (ctrF nF 1) (tb zkN) p.val = tb (st_c1 0) p.val := by decide +kernel
theorem c1_chk : ∀ n : Fin 14, ∀ p : Fin 16, rndT (tb (st_c1 n.val)) (offF (tb zkN) ((n.val + 1) * 16)) (n.val == 13) p.val = tb (st_c1 (n.val + 1)) p.val := by decide +kernel
theorem c2_low : ∀ p : Fin 16, xorF (ctrF nF 2) (tb zkN) p.val = tb (st_c2 0) p.val := by decide +kernel
theorem c2_chk : ∀ n : Fin 14, ∀ p : Fin 16, rndT (tb (st_c2 n.val)) (offF (tb zkN) ((n.val + 1) * 16)) (n.val == 13) p.val = tb (st_c2 (n.val + 1)) p.val := by decide +kernel
theorem enc_h : ∀ p, p < 16 → aenF nF nF p = tb (st_h 14) p := tab_enc zk_key h_low h_chk
theorem enc_c1 : ∀ p, p < 16 → aenF nF (ctrF nF 1) p = tb (st_c1 14) p := tab_enc zk_key c1_low c1_chk
theorem enc_c2 : ∀ p, p < 16 → aenF nF (ctrF nF 2) p = tb (st_c2 14) p := tab_enc zk_key c2_low c2_chk

def exT1 : Bf := fun i => tb 0x8b73cbc4f1b463a9b93645c7fb8a0f53 i
def exT2 : Bf := fun i => tb 0x19b98ad4b5985b26f06b9999a7c8d1d0189df3bad3c54e076e6b604d3d40a7ce i
theorem hshT_h {h h' b : Bf} {n : Nat} (e : ∀ i, i < 16 → h i = h' i) : ∀ j, hshT h b n j = hshT h' b n j := by
  intro j
  induction j with
  | zero => rfl
  | succ j ih => simp only [hshT]; rw [ih]; exact gmF_congr (fun _ _ => rfl) e
theorem hshF_h {h h' b : Bf} {n : Nat} (e : ∀ i, i < 16 → h i = h' i) : hshF h b n = hshF h' b n := hshT_h e _
theorem tag1_ok : ∀ i : Fin 16, xorF (tb (st_c1 14)) (hshF (tb (st_h 14)) (fun _ => 0#8) 16) i.val = exT1 i.val := by decide +kernel
def al2 : Bf := fun i => if i < 16 then tb (st_c2 14) i else if i = 31 then 128#8 else 0#8
theorem tag2_ok : ∀ i : Fin 16, xorF (tb (st_c1 14)) (hshF (tb (st_h 14)) al2 32) i.val = exT2 (16 + i.val) := by decide +kernel
theorem all1 (s b : Bf) : ∀ i, i < 16 → allF s 0 b 0 i = 0#8 := by
  intro i hi
  unfold allF up16
  rw [if_neg (by omega), if_neg (by omega)]
  by_cases h : i < 8
  · rw [if_pos (by omega)]; simp [beN]
  · rw [if_neg (by omega)]; simp [beN]
theorem seal1 (s b : Bf) : ∀ i, i < 0 + 16 → sealF nF nF s 0 b 0 i = exT1 i := by
  intro i hi
  unfold sealF
  rw [catF_zero]
  unfold tagF
  rw [show up16 0 + up16 0 + 16 = 16 from rfl, hshF_congr (all1 s _), hshF_h enc_h]
  have := tag1_ok ⟨i, by omega⟩
  unfold xorF at this ⊢
  rw [enc_c1 i (by omega)]
  exact this
theorem xor2 : ∀ i, i < 16 → xorS nF nF 2 (fun _ => 0#8) i = tb (st_c2 14) i := by
  intro i hi
  unfold xorS
  rw [show (2 + i / 16) % 4294967296 = 2 by omega, show i % 16 = i by omega, enc_c2 i hi]
  simp
theorem all2 (s b : Bf) (hb : ∀ i, i < 16 → b i = tb (st_c2 14) i) : ∀ i, i < 32 → allF s 0 b 16 i = al2 i := by
  intro i hi
  unfold allF al2 up16
  rw [if_neg (by omega)]
  by_cases h : i < 16
  · rw [if_pos (by omega), if_pos h]
    unfold padF
    rw [if_pos (by omega), hb _ (by omega), show i - 16 * ((0 + 15) / 16) = i by omega]
  · rw [if_neg (by omega), if_neg h]
    by_cases h8 : i < 24
    · rw [if_pos (by omega), if_neg (by omega)]; simp [beN]
    · rw [if_neg (by omega)]
      have : ∀ j : Fin 8, beN 8 128 j.val = if j.val = 7 then 128#8 else 0#8 := by decide +kernel
      have e := this ⟨i - 24, by omega⟩
      rw [show i - (16 * ((0 + 15) / 16) + 16 * ((16 + 15) / 16) + 8) = i - 24 by omega, show (8 * 16 : Nat) = 128 from rfl]
      rw [e]
      by_cases h7 : i = 31
      · rw [if_pos h7, if_pos (by simp; omega)]
      · rw [if_neg h7, if_neg (by simp; omega)]
theorem seal2 (s : Bf) : ∀ i, i < 16 + 16 → sealF nF nF s 0 (fun _ => 0#8) 16 i = exT2 i := by
  intro i hi
  unfold sealF catF
  by_cases h : i < 16
  · rw [if_pos h, xor2 i h]
    have : ∀ j : Fin 16, tb (st_c2 14) j.val = exT2 j.val := by decide +kernel
    exact this ⟨i, h⟩
  · rw [if_neg h]
    unfold tagF
    rw [show up16 0 + up16 16 + 16 = 32 from rfl, hshF_congr (all2 s _ xor2), hshF_h enc_h]
    have := tag2_ok ⟨i - 16, by omega⟩
    unfold xorF at this ⊢
    rw [enc_c1 _ (by omega)]
    rw [this]
    congr 1
    show 16 + (i - 16) = i
    omega
theorem lit1_ok : strOf 16 exT1 = ⟨#[83, 15, 138, 251, 199, 69, 54, 185, 169, 99, 180, 241, 196, 203, 115, 139]⟩ := by unfold strOf; decide +kernel
theorem lit2_ok : strOf 32 exT2 = ⟨#[206, 167, 64, 61, 77, 96, 107, 110, 7, 78, 197, 211, 186, 243, 157, 24, 208, 209, 200, 167, 153, 153, 107, 240, 38, 91, 152, 181, 212, 138, 185, 25]⟩ := by unfold strOf; decide +kernel
end Go.Proofs.YtamemjldafoolaaGreat.Oct
