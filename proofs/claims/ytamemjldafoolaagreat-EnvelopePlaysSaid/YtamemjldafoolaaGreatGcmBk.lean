/- What is sealed is opened as it was, and a byte of the tag turned makes it forged. -/
import Derived.Test.YtamemjldafoolaaGreatGcmAll
import Derived.Test.YtamemjldafoolaaGreatLib
namespace Go.Proofs.YtamemjldafoolaaGreat.Oct
open Go.ChangeShapes Go.WideShapes Go.ChangeAt Go.RowKit
set_option linter.unusedVariables false

section
variable (k n s b : Bf) (ns L : Nat)
theorem back_low (i : Nat) (hi : i < L) : sealF k n s ns b L i = xorS k n 2 b i := by unfold sealF catF; rw [if_pos hi]
theorem back_tail (i : Nat) : offF (sealF k n s ns b L) L i = tagF k n s ns (xorS k n 2 b) L i := by
  unfold offF sealF catF; rw [if_neg (by omega), Nat.add_sub_cancel_left]
theorem back_tag : tagF k n s ns (sealF k n s ns b L) L = tagF k n s ns (xorS k n 2 b) L := tagF_congr (fun _ _ => rfl) (back_low k n s b ns L)
theorem opC_back : opC k n s ns (sealF k n s ns b L) (L + 16) = 0 := by
  unfold opC
  rw [if_neg (by omega), Nat.add_sub_cancel, back_tag, if_pos ((eqB_iff _ _ _).2 fun i _ => (back_tail k n s b ns L i).symm)]
theorem opL_back : opL k n s ns (sealF k n s ns b L) (L + 16) = L := by
  unfold opL; rw [opC_back, if_pos rfl, Nat.add_sub_cancel]
theorem xor_back (i : Nat) (hi : i < L) : xorS k n 2 (sealF k n s ns b L) i = b i := by
  have := congrFun (xorS_back k n 2 b) i
  unfold xorS at this ⊢
  rw [← this]
  congr 1
  exact back_low k n s b ns L i hi
theorem opC_turn (j : Nat) (hj : j < 16) (x : BitVec 8) (hx : x ≠ sealF k n s ns b L (L + j)) : opC k n s ns (upd (sealF k n s ns b L) (L + j) x) (L + 16) = 40 := by
  unfold opC
  rw [if_neg (by omega), Nat.add_sub_cancel]
  have h1 : tagF k n s ns (upd (sealF k n s ns b L) (L + j) x) L = tagF k n s ns (xorS k n 2 b) L := tagF_congr (fun _ _ => rfl) fun i hi => by
    unfold upd; rw [if_neg (by omega)]; exact back_low k n s b ns L i hi
  rw [h1, if_neg]
  intro h
  have := (eqB_iff _ _ _).1 h j hj
  rw [← back_tail k n s b ns L j] at this
  unfold offF upd at this
  rw [if_pos rfl] at this
  exact hx this.symm
end
theorem own_stored {w : World} {base n c g : Nat} {u : TypeId} {f : Bf} (h : Own w base u (.slice (some ⟨g, 0, none⟩) n c) n f) (k : Nat) (v : BitVec 8) :
    Own (w.setCell ⟨g, k, none⟩ (.int .u8 (I v))) base u (.slice (some ⟨g, 0, none⟩) n c) n (upd f k v) ∧ w.grownBy (w.setCell ⟨g, k, none⟩ (.int .u8 (I v))) (some g) := by
  unfold Own at h ⊢
  have := World.ownsRow.stored (w := w) h k (.int .u8 (I v))
  rw [← ba_set, Array.toList_setIfInBounds]
  exact this
theorem own_frozen {w : World} {base n c g : Nat} {u : TypeId} {f : Bf} (h : Own w base u (.slice (some ⟨g, 0, none⟩) n c) n f) (k : Nat) : w.frozen? ⟨g, k, none⟩ = false := by
  unfold Own at h
  rcases h.2 with ⟨e, _⟩ | ⟨g', cap, cur, e, _, hh, _⟩
  · cases e
  · simp only [Value.slice.injEq, Option.some.injEq, Addr.mk.injEq] at e
    obtain ⟨⟨rfl, _⟩, _⟩ := e
    exact frozen_of_row w g k cur u hh
theorem bit_turn : ∀ r : Fin 8, (2 ^ r.val : Int) % 256 = I (1#8 <<< r.val) := by decide +kernel
theorem bit_ne (v : BitVec 8) (r : Nat) (h : r < 8) : v ^^^ (1#8 <<< r) ≠ v := by
  have h1 : ∀ r : Fin 8, (1#8 <<< r.val : BitVec 8) ≠ 0#8 := by decide +kernel
  intro e
  apply h1 ⟨r, h⟩
  have : v ^^^ (v ^^^ (1#8 <<< r)) = v ^^^ v := by rw [e]
  rw [← BitVec.xor_assoc, BitVec.xor_self, BitVec.zero_xor] at this
  exact this
end Go.Proofs.YtamemjldafoolaaGreat.Oct
