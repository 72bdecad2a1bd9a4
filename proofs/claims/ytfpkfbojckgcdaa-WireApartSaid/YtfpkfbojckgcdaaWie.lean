/- What the statements of layer 9 share: each answer in one form, error or not. -/
import Derived.Test.YtfpkfbojckgcdaaWid
namespace Go.Proofs.Ytfpkfbojckgcdaa.Oct
open Go.ChangeShapes Go.WideShapes Go.ChangeAt Go.RowKit
set_option linter.unusedVariables false

/-- a value reads as the string S in all worlds from w on -/
def Cv (w : World) (v : Value) (S : ByteArray) : Prop := ∀ y, Below w.heap.size w y → (convert 22 9 v).run Try.prog y = .ok (.string S) y
theorem Cv.below {w w' : World} {v : Value} {S : ByteArray} (h : Cv w v S) (hb : Below w.heap.size w w') : Cv w' v S := fun y hy => h y (onto hb hb.size hy)
theorem Cv.self {w : World} {v : Value} {S : ByteArray} (h : Cv w v S) : (convert 22 9 v).run Try.prog w = .ok (.string S) w := h w (Below.refl _ _)
theorem Cv.own {w : World} {b n : Nat} {v : Value} {f : Bf} (h : Own w b 5 v n f) : Cv w v (strOf n f) := fun y hy => conv_own (h.below hy (Nat.le_refl _))
theorem Cv.sl {w : World} {n c : Nat} {A : Option Addr} {f : Bf} (h : Sl w w.heap.size A n c f) : Cv w (.slice A n c) (strOf n f) := fun y hy => conv_sl (h.below hy)
theorem Cv.nil (w : World) : Cv w (.slice none 0 0) (strOf 0 nF) := fun y _ => conv_nil y
/-- what a writer answers, as a string -/
def wrS (E L : Nat) (F : Bf) : ByteArray := if E = 0 then strOf L F else strOf 0 nF
theorem cmP.uni {E L : Nat} {F : Bf} {w : World} {e : Ending} {w' : World} (h : cmP E L F w e w') : ∃ v, e = .returned (.tuple #[v, .int .i64 (E : Nat)]) ∧ Cv w' v (wrS E L F) ∧ Below w.heap.size w w' := by
  rcases h with ⟨h0, h1, h2⟩ | ⟨h0, v, h1, h2, h3⟩
  · exact ⟨_, h1, by unfold wrS; rw [if_neg h0]; exact Cv.nil _, h2⟩
  · subst h0
    exact ⟨v, h1, by unfold wrS; rw [if_pos rfl]; exact Cv.own h2, h3⟩
theorem ptP.uni {E L : Nat} {F : Bf} {w : World} {e : Ending} {w' : World} (h : ptP E 0 L nF F w e w') : ∃ v, e = .returned (.tuple #[v, .int .i64 (E : Nat)]) ∧ Cv w' v (wrS E L F) ∧ Below w.heap.size w w' := by
  rcases h with ⟨h0, h1, h2⟩ | ⟨h0, v, h1, h2, h3⟩
  · exact ⟨_, h1, by unfold wrS; rw [if_neg h0]; exact Cv.nil _, h2⟩
  · subst h0
    rw [Nat.zero_add, catF_zero] at h2
    exact ⟨v, h1, by unfold wrS; rw [if_pos rfl]; exact Cv.own h2, h3⟩
theorem tcP_uni (n : Nat) (f : Bf) : ∃ (k s q i m : Int) (T U : Nat) (F G : Bf) (E : Nat), ∀ w e w', tcP n f w e w' → ∃ A c A' c', e = .returned (.tuple #[comV k s q i m (.slice A T c) (.slice A' U c'), .int .i64 (E : Nat)]) ∧ Sl w' w'.heap.size A T c F ∧ Sl w' w'.heap.size A' U c' G ∧ Below w.heap.size w w' := by
  by_cases hk : tcK n f
  · refine ⟨(puX f 0 : Nat), (puX f 1 : Nat), (puX f 2 : Nat), (puX f 3 : Nat), (puX f 4 : Nat), tcT f, tcU f, tcF f, tcG f, 0, fun w e w' h => ?_⟩
    exact h.ok hk
  · refine ⟨0, 0, 0, 0, 0, 0, 0, nF, nF, 80, fun w e w' h => ?_⟩
    obtain ⟨h1, h2⟩ := h.bad hk
    exact ⟨none, 0, none, 0, h1, Sl.nothing _ _ _ _ _, Sl.nothing _ _ _ _ _, h2⟩
theorem trP_uni (n : Nat) (f : Bf) : ∃ (x a m : Int) (T M : Nat) (F R : Bf) (E : Nat), ∀ w e w', trP n f w e w' → ∃ A c A' c', e = .returned (.tuple #[repV x a m (.slice A T c), .slice A' M c', .int .i64 (E : Nat)]) ∧ Sl w' w'.heap.size A T c F ∧ Sl w' w'.heap.size A' M c' R ∧ Below w.heap.size w w' := by
  by_cases hk : trE n f = 0
  · refine ⟨(puX f 0 : Nat), (puX f 1 : Nat), (puX f 2 : Nat), trT f, n - trO f 2, trF f, offF f (trO f 2), 0, fun w e w' h => ?_⟩
    rcases h with ⟨h0, _⟩ | ⟨_, h⟩
    · exact absurd hk h0
    · exact h
  · refine ⟨0, 0, 0, 0, 0, nF, nF, trE n f, fun w e w' h => ?_⟩
    rcases h with ⟨_, h1, h2⟩ | ⟨h0, _⟩
    · exact ⟨none, 0, none, 0, h1, Sl.nothing _ _ _ _ _, Sl.nothing _ _ _ _ _, h2⟩
    · exact absurd h0 hk
theorem teP.bad {n : Nat} {f : Bf} {w : World} {e : Ending} {w' : World} (h : teP n f w e w') (hk : ¬ teK n f) : e = .returned (.tuple #[entZ, .int .i64 80]) ∧ Below w.heap.size w w' := by
  rcases h with ⟨_, h1, h2⟩ | ⟨h0, _⟩
  · exact ⟨h1, h2⟩
  · exact absurd h0 hk
theorem teP.ok {n : Nat} {f : Bf} {w : World} {e : Ending} {w' : World} (h : teP n f w e w') (hk : teK n f) : ∃ A c A' c', e = .returned (.tuple #[entV (puX f 0 : Nat) (puX f 1 : Nat) (.slice A (teT f) c) (.slice A' (teM f) c'), .int .i64 0]) ∧ Sl w' w'.heap.size A (teT f) c (teF f) ∧ SlG w' w'.heap.size A' (teM f) c' (iV (teX f)) ∧ Below w.heap.size w w' := by
  rcases h with ⟨h0, _⟩ | ⟨_, h⟩
  · exact absurd hk h0
  · exact h
theorem teK_len {n : Nat} {f : Bf} (h : teK n f) : teM f ≤ 7 := (ent_ok h.2.2).2.2.2.2
theorem teP_uni (n : Nat) (f : Bf) : ∃ (t k : Int) (T M : Nat) (F : Bf) (x : Nat → Int) (E : Nat), M ≤ 7 ∧ ∀ w e w', teP n f w e w' → ∃ A c A' c', e = .returned (.tuple #[entV t k (.slice A T c) (.slice A' M c'), .int .i64 (E : Nat)]) ∧ Sl w' w'.heap.size A T c F ∧ SlG w' w'.heap.size A' M c' (iV x) ∧ Below w.heap.size w w' := by
  by_cases hk : teK n f
  · exact ⟨(puX f 0 : Nat), (puX f 1 : Nat), teT f, teM f, teF f, teX f, 0, teK_len hk, fun w e w' h => h.ok hk⟩
  · refine ⟨0, 0, 0, 0, nF, fun _ => 0, 80, by omega, fun w e w' h => ?_⟩
    obtain ⟨h1, h2⟩ := h.bad hk
    exact ⟨none, 0, none, 0, h1, Sl.nothing _ _ _ _ _, ⟨Nat.le_refl _, fun e => by omega⟩, h2⟩
theorem teq_refl (T : Nat) (d : Bf) : teqB T T d d = true := teq_iff.2 ⟨rfl, fun _ _ => rfl⟩
theorem comS_refl (k s q i n : Int) (T U : Nat) (d b : Bf) : comS k s q i n k s q i n T U T U d b d b = true := by unfold comS; simp [teq_refl]
theorem repS_refl (x n m : Int) (T : Nat) (d : Bf) : repS x n m x n m T T d d = true := by unfold repS; simp [teq_refl]
end Go.Proofs.Ytfpkfbojckgcdaa.Oct
