/- Layer 14's example, by tables that the kernel checks step by step: with other bytes beside the tag is another one. -/
import Derived.Test.YtamemjldafoolaaGreatGcmEx
import Derived.Test.YtamemjldafoolaaGreatEvMath
namespace Go.Proofs.YtamemjldafoolaaGreat.Oct
set_option linter.unusedVariables false

def okN : Nat := 0x85eb70cb6af1c9459cfabf9c9a82c3dfa9d420ce86ad516eb77e86733300f038ef1ab98ef60b76d906787c4311518b282f7971a031d3d71d847e764beca2a6211911cf57f0730a9a1729f76bf1443dab1eaaa6bdb5ada15668dcd06a38202c7ae962c5cde75afdf1e66dcac08b36919fab0707ebdd71713c50fcfc10268a8ac70e38383c013737316d5b5b5f62545452767676d78d8d8d2c767676d78d8d8d2c0f0f0f0d6c6c6c6e0f0f0f0d6c6c6c6efbfbfbfbfbfbfbfbfbfbfbfbfbfbfbfb636363636363636363636363636363630000000000000000000000000000000000000000000000000000000000000001
def so_h : Nat → Nat
  | 0 => 0x1
  | 1 => 0x636363636363636363636363427c7c5d
  | 2 => 0x737355be7355be732dfa4f4f5a2f2fed
  | 3 => 0x2f90872133d1702c2a0d0c3079432db5
  | 4 => 0x81c1f88b230af84a455bbf20e20409ed
  | 5 => 0x455224b18357bac4a6c35381050a6df5
  | 6 => 0x9cbf16313cbfca105b1ecf2b395bf09c
  | 7 => 0xca8ebe6894c5477a005fef6f7ab79d33
  | 8 => 0xf39a544853c2e37d1322c8b344e172aa
  | 9 => 0xfaa937a78d1e705640e6572000392932
  | 10 => 0x6c0816c8a267ab4d91d7ef5de7af135f
  | 11 => 0xbbe4bd8281db0f131973ad15c53080b
  | 12 => 0x9c1c0fa0c58a4164993834e91ed4676a
  | 13 => 0x474e7e20ba21c8d46e56483ff49f9eb4
  | 14 => 0x715a7b7cf52a3a0d23d557e93a7f9152
  | _ => 0
def so_c2 : Nat → Nat
  | 0 => 0x2000000000000000000000000000001
  | 1 => 0x6363636363636363636363636a406849
  | 2 => 0x2626ff416a67956a71886161c3585803
  | 3 => 0xcf87f99edcc5c80c50b96c99e97c2655
  | 4 => 0xa4ce8dc95aded87ae5050de08a124b51
  | 5 => 0xb517d56dc5f374745879ad58bd6a87a3
  | 6 => 0xbc954d6d791ccf6345d67fac55b5ad3a
  | 7 => 0xfb98bd77216a5d54bbace07a39546f48
  | 8 => 0x351a2eb31265a3f5bd4150ef8090130e
  | 9 => 0xdee766aa2134ffc83b1a2bbef7e36019
  | 10 => 0x652ed8202eb755f7ac1abaea45762515
  | 11 => 0x12fd7407e902a4c707d52f1ec091a170
  | 12 => 0xb6c903542512d2a7e23eda9209bba00b
  | 13 => 0xe52a2938d8f646290c26c5f54c277b10
  | 14 => 0xe41c51cc943d6ce0b51fe57a43c06515
  | _ => 0
/-- the material that begins with 1; the text x; the bytes y -/
def mO : Bf := upd (fun _ => 0#8) 0 1#8
def xO : Bf := fun _ => 120#8
def yO : Bf := fun _ => 121#8
theorem ok_low : ∀ p : Fin 32, mO p.val = tb okN p.val := by decide +kernel
theorem ok_chk : ∀ i : Fin 52, ∀ j : Fin 4, tb okN (4 * (i.val + 8) + j.val) = newT (tb okN) (i.val + 8) j.val := by decide +kernel
theorem ok_key : ∀ p, p / 4 < 60 → axpF mO p = tb okN p := tab_key ok_low ok_chk 60 (Nat.le_refl _)
theorem oh_low : ∀ p : Fin 16, xorF nF (tb okN) p.val = tb (so_h 0) p.val := by decide +kernel
theorem oh_chk : ∀ n : Fin 14, ∀ p : Fin 16, rndT (tb (so_h n.val)) (offF (tb okN) ((n.val + 1) * 16)) (n.val == 13) p.val = tb (so_h (n.val + 1)) p.val := by decide +kernel
theorem oc2_low : ∀ p : Fin 16, xorF (ctrF (nonC 0) 2) (tb okN) p.val = tb (so_c2 0) p.val := by unfold nonC; decide +kernel
theorem oc2_chk : ∀ n : Fin 14, ∀ p : Fin 16, rndT (tb (so_c2 n.val)) (offF (tb okN) ((n.val + 1) * 16)) (n.val == 13) p.val = tb (so_c2 (n.val + 1)) p.val := by decide +kernel
theorem enc_oh : ∀ p, p < 16 → aenF mO nF p = tb (so_h 14) p := tab_enc ok_key oh_low oh_chk
theorem enc_oc2 : ∀ p, p < 16 → aenF mO (ctrF (nonC 0) 2) p = tb (so_c2 14) p := tab_enc ok_key oc2_low oc2_chk
/-- the sealed byte -/
def cO : Bf := fun _ => 120#8 ^^^ tb (so_c2 14) 0
theorem xor_o : ∀ i, i < 1 → xorS mO (nonC 0) 2 xO i = cO i := by
  intro i hi
  obtain rfl : i = 0 := by omega
  unfold xorS cO xO
  rw [show (2 + 0 / 16) % 4294967296 = 2 by omega, show 0 % 16 = 0 by omega, enc_oc2 0 (by omega)]
/-- what is hashed, with y beside and with nothing -/
def aY : Bf := fun i => if i = 0 then 121#8 else if i = 16 then cO 0 else if i = 39 then 8#8 else if i = 47 then 8#8 else 0#8
def aN : Bf := fun i => if i = 0 then cO 0 else if i = 31 then 8#8 else 0#8
theorem aY_fin : ∀ i : Fin 48, allF yO 1 cO 1 i.val = aY i.val := by decide +kernel
theorem aN_fin : ∀ i : Fin 32, allF nF 0 cO 1 i.val = aN i.val := by decide +kernel
theorem hash_ne : hshF (tb (so_h 14)) aY 48 0 ≠ hshF (tb (so_h 14)) aN 32 0 := by decide +kernel
theorem tags_ne : tagF mO (nonC 0) yO 1 cO 1 0 ≠ tagF mO (nonC 0) nF 0 cO 1 0 := by
  intro h
  unfold tagF xorF at h
  have h2 : hshF (aenF mO nF) (allF yO 1 cO 1) (up16 1 + up16 1 + 16) 0 = hshF (aenF mO nF) (allF nF 0 cO 1) (up16 0 + up16 1 + 16) 0 := by
    have := congrArg (fun z => aenF mO (ctrF (nonC 0) 1) 0 ^^^ z) h
    simpa only [← BitVec.xor_assoc, BitVec.xor_self, BitVec.zero_xor] using this
  rw [show up16 1 + up16 1 + 16 = 48 from rfl, show up16 0 + up16 1 + 16 = 32 from rfl, hshF_h enc_oh, hshF_h enc_oh, hshF_congr (fun i hi => aY_fin ⟨i, hi⟩), hshF_congr (fun i hi => aN_fin ⟨i, hi⟩)] at h2
  exact hash_ne h2
/-- with y beside it is forged -/
theorem ex_forged : opC mO (nonC 0) yO 1 (sealF mO (nonC 0) nF 0 xO 1) 17 = 40 := by
  unfold opC
  rw [if_neg (by omega), show 17 - 16 = 1 from rfl, if_neg]
  intro h
  have h0 := (eqB_iff _ _ _).1 h 0 (by omega)
  rw [back_tail] at h0
  rw [tagF_congr (s' := yO) (b' := cO) (fun _ _ => rfl) (fun i hi => by rw [back_low _ _ _ _ _ _ i hi]; exact xor_o i hi), tagF_congr (s := nF) (s' := nF) (b := xorS mO (nonC 0) 2 xO) (b' := cO) (fun _ _ => rfl) xor_o] at h0
  exact tags_ne h0
end Go.Proofs.YtamemjldafoolaaGreat.Oct
