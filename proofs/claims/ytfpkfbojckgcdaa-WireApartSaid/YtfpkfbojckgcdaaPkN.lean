/- What is put is taken, and what is taken is put again: texts and lists; as strings. -/
import Derived.Test.YtfpkfbojckgcdaaPkL
namespace Go.Proofs.Ytfpkfbojckgcdaa.Oct
open Go.ChangeShapes Go.WideShapes Go.ChangeAt Go.RowKit
set_option linter.unusedVariables false

/-- a beginning, and what is behind it -/
theorem str_split {n L : Nat} {f g : Bf} (hL : L ≤ n) (h : ∀ i, i < L → g i = f i) : strOf L g ++ strOf (n - L) (offF f L) = strOf n f := by
  rw [str_cat, show L + (n - L) = n by omega]
  exact str_congr fun i hi => by
    unfold catF
    by_cases h2 : i < L
    · rw [if_pos h2, h i h2]
    · rw [if_neg h2]; unfold offF; rw [show L + (i - L) = i by omega]
theorem str_behind {n m : Nat} (f g : Bf) : strOf m (offF (catF n f g) n) = strOf m g := str_congr fun i hi => by
  unfold offF catF
  rw [if_neg (by omega), show n + i - n = i by omega]
theorem str_ahead {n : Nat} (f g : Bf) : strOf n (catF n f g) = strOf n f := str_congr fun i hi => by unfold catF; rw [if_pos hi]

/- numbers -/
theorem once_num {n : Nat} {f : Bf} (h : tkE n f = 0) : strOf (encL (tkV f)) (encF (tkV f)) ++ strOf (n - tkL f) (offF f (tkL f)) = strOf n f := by
  obtain ⟨h1, h2⟩ := enc_tk h
  rw [h1]
  exact str_split (tkL_le h) h2
/- texts -/
theorem tt_le {n : Nat} {m : Int} {f : Bf} (h : ttE n m f = 0) : tkE n f = 0 ∧ (tkV f : Int) ≤ m ∧ tkL f + tkV f ≤ n := by
  unfold ttE at h
  split at h
  · omega
  rename_i h0
  have h0 : tkE n f = 0 := by omega
  split at h
  · omega
  split at h
  · omega
  have := tkL_le h0
  exact ⟨h0, by omega, by omega⟩
theorem once_text {n : Nat} {m : Int} {f : Bf} (h : ttE n m f = 0) : strOf (txL (tkV f)) (txF (tkV f) (offF f (tkL f))) ++ strOf (n - tkL f - tkV f) (offF f (tkL f + tkV f)) = strOf n f := by
  obtain ⟨h0, _, h2⟩ := tt_le h
  obtain ⟨e1, e2⟩ := enc_tk h0
  have e3 : txL (tkV f) = tkL f + tkV f := by unfold txL; rw [e1]
  rw [e3, show n - tkL f - tkV f = n - (tkL f + tkV f) by omega]
  refine str_split h2 fun i hi => ?_
  unfold txF catF
  rw [e1]
  by_cases h : i < tkL f
  · rw [if_pos h, e2 i h]
  · rw [if_neg h]; unfold offF; rw [show tkL f + (i - tkL f) = i by omega]
/-- a text that was put, whatever is behind -/
theorem back_text (T : Nat) (t g : Bf) (r : Nat) (hT : T ≤ 4096) : ttE (txL T + r) T (catF (txL T) (txF T t) g) = 0 ∧ tkV (catF (txL T) (txF T t) g) = T ∧ tkL (catF (txL T) (txF T t) g) = encL T := by
  obtain ⟨h1, h2, h3⟩ := tk_enc T (by omega) (txL T + r) (catF (txL T) (txF T t) g) (by unfold txL; omega) (fun i hi => by
    unfold catF txF catF
    rw [if_pos (by unfold txL; omega), if_pos hi])
  refine ⟨?_, h2, h3⟩
  unfold ttE
  rw [if_neg (fun h => h h1), h2, h3, if_neg (by omega), if_neg (by unfold txL; omega)]
theorem back_text_s (T : Nat) (t g : Bf) : strOf T (offF (catF (txL T) (txF T t) g) (encL T)) = strOf T t := str_congr fun i hi => by
  unfold offF catF txF catF
  rw [if_pos (by unfold txL; omega), if_neg (by omega), show encL T + i - encL T = i by omega]
/- lists -/
theorem ls_mono (x : Nat → Nat) (c j : Nat) : ∀ d, lsL x c j ≤ lsL x c (j + d)
  | 0 => Nat.le_refl _
  | d + 1 => by have := ls_mono x c j d; rw [← Nat.add_assoc, lsL]; omega
theorem ls_ahead (x : Nat → Nat) (c j i : Nat) (hi : i < lsL x c j) : ∀ d, lsF x c (j + d) i = lsF x c j i
  | 0 => rfl
  | d + 1 => by
    have h1 := ls_mono x c j d
    rw [← Nat.add_assoc, lsF]
    unfold catF
    rw [if_pos (by omega)]
    exact ls_ahead x c j i hi d
theorem ls_block (x : Nat → Nat) (c j k i : Nat) (hj : j < k) (hi : i < encL (x j)) : lsF x c k (lsL x c j + i) = encF (x j) i := by
  have h := ls_ahead x c (j + 1) (lsL x c j + i) (by rw [lsL]; omega) (k - (j + 1))
  rw [show j + 1 + (k - (j + 1)) = k by omega] at h
  rw [h, lsF]
  unfold catF
  rw [if_neg (by omega), show lsL x c j + i - lsL x c j = i by omega]
theorem ls_head (x : Nat → Nat) (c k i : Nat) (hi : i < encL c) : lsF x c k i = encF c i := by
  have h := ls_ahead x c 0 i hi k
  rw [Nat.zero_add] at h
  rw [h]; rfl
/-- a list that was put, whatever is behind -/
theorem back_list {x : Nat → Nat} {c n : Nat} {f : Bf} (hn : lsL x c c ≤ n) (hc : c < 9223372036854775808) (hx : ∀ i, i < c → x i < 9223372036854775808) (hf : ∀ i, i < lsL x c c → f i = lsF x c c i) :
    tkE n f = 0 ∧ tkV f = c ∧ ∀ j, j ≤ c → tlE n f j = 0 ∧ tlO f j = lsL x c j ∧ ∀ i, i < j → tlX f i = x i := by
  have h0 : encL c ≤ lsL x c c := by have := ls_mono x c 0 c; rw [Nat.zero_add] at this; exact this
  obtain ⟨k1, k2, k3⟩ := tk_enc c hc n f (by omega) (fun i hi => by rw [hf i (by omega)]; exact ls_head x c c i hi)
  refine ⟨k1, k2, fun j => ?_⟩
  induction j with
  | zero => exact fun _ => ⟨rfl, k3, fun i hi => by omega⟩
  | succ j ih =>
    intro hj
    obtain ⟨i1, i2, i3⟩ := ih (by omega)
    have hm := ls_mono x c (j + 1) (c - (j + 1))
    rw [show j + 1 + (c - (j + 1)) = c by omega, lsL] at hm
    obtain ⟨q1, q2, q3⟩ := tk_enc (x j) (hx j (by omega)) (n - lsL x c j) (offF f (lsL x c j)) (by omega) (fun i hi => by
      unfold offF
      rw [hf _ (by omega)]
      exact ls_block x c j c i (by omega) hi)
    rw [← i2] at q1 q2 q3
    refine ⟨by rw [tlE_step i1]; exact q1, by rw [tlO, q3, i2, lsL], fun i hi => ?_⟩
    by_cases h : i = j
    · subst h; exact q2
    · exact i3 i (by omega)
theorem back_list_E {x : Nat → Nat} {c n : Nat} {f : Bf} (hn : lsL x c c ≤ n) (hc : c < 9223372036854775808) (hx : ∀ i, i < c → x i < 9223372036854775808) (hf : ∀ i, i < lsL x c c → f i = lsF x c c i) : tllE n c f = 0 := by
  obtain ⟨k1, k2, k3⟩ := back_list hn hc hx hf
  unfold tllE
  rw [if_neg (fun h => h k1), k2, if_neg (by omega)]
  exact (k3 c (Nat.le_refl _)).1
/-- what was taken as a list, put again -/
theorem once_ls {n : Nat} {f : Bf} (h0 : tkE n f = 0) : ∀ j, tlE n f j = 0 → lsL (tlX f) (tkV f) j = tlO f j ∧ ∀ i, i < tlO f j → lsF (tlX f) (tkV f) j i = f i
  | 0, _ => enc_tk h0
  | j + 1, h => by
    have hj : tlE n f j = 0 := by
      rcases Nat.eq_zero_or_pos (tlE n f j) with e | e
      · exact e
      · rw [tlE, if_pos (by omega)] at h; exact h
    obtain ⟨i1, i2⟩ := once_ls h0 j hj
    rw [tlE_step hj] at h
    obtain ⟨e1, e2⟩ := enc_tk h
    have e1' : encL (tlX f j) = tkL (offF f (tlO f j)) := e1
    refine ⟨by rw [lsL, tlO, i1, e1'], fun i hi => ?_⟩
    rw [lsF]
    unfold catF
    rw [i1]
    by_cases h2 : i < tlO f j
    · rw [if_pos h2, i2 i h2]
    · rw [if_neg h2]
      rw [tlO] at hi
      have := e2 (i - tlO f j) (by omega)
      rw [show encF (tlX f j) (i - tlO f j) = offF f (tlO f j) (i - tlO f j) from this]
      unfold offF
      rw [show tlO f j + (i - tlO f j) = i by omega]
theorem tll_ok {n : Nat} {m : Int} {f : Bf} (h : tllE n m f = 0) : tkE n f = 0 ∧ (tkV f : Int) ≤ m ∧ tlE n f (tkV f) = 0 := by
  unfold tllE at h
  split at h
  · omega
  rename_i h0
  split at h
  · omega
  · exact ⟨by omega, by omega, h⟩
theorem once_list {n : Nat} {m : Int} {f : Bf} (h : tllE n m f = 0) : strOf (lsL (natS fun i => (tlX f i : Int)) (tkV f) (tkV f)) (lsF (natS fun i => (tlX f i : Int)) (tkV f) (tkV f)) ++ strOf (n - tlO f (tkV f)) (offF f (tlO f (tkV f))) = strOf n f := by
  obtain ⟨h0, _, h2⟩ := tll_ok h
  obtain ⟨e1, e2⟩ := once_ls h0 (tkV f) h2
  have e : (natS fun i => (tlX f i : Int)) = tlX f := by funext i; unfold natS; exact Int.toNat_natCast _
  rw [e, e1]
  exact str_split (tlO_le h0 _ h2) e2
/-- each number that is taken is an int -/
theorem tlX_lt {n : Nat} {f : Bf} : ∀ j, tlE n f j = 0 → ∀ i, i < j → tlX f i < 9223372036854775808
  | 0, _, i, hi => by omega
  | j + 1, h, i, hi => by
    have hj : tlE n f j = 0 := by
      rcases Nat.eq_zero_or_pos (tlE n f j) with e | e
      · exact e
      · rw [tlE, if_pos (by omega)] at h; exact h
    by_cases h2 : i = j
    · subst h2
      rw [tlE_step hj] at h
      exact (tk_ok h).2.2.2.2
    · exact tlX_lt j hj i (by omega)
/- whatever is answered -/
theorem taP.any {n : Nat} {f : Bf} {w : World} {e : Ending} {w' : World} (h : taP n f w e w') : ∃ (p : Int) (v : Value) (E : Int), e = .returned (.tuple #[.int .i64 p, v, .int .i64 E]) ∧ Below w.heap.size w w' := by
  rcases h with ⟨_, h2, h3⟩ | ⟨_, v, h2, _, h3⟩
  · exact ⟨_, _, _, h2, h3⟩
  · exact ⟨_, _, _, h2, h3⟩
theorem ttP.any {n : Nat} {m : Int} {f : Bf} {w : World} {e : Ending} {w' : World} (h : ttP n m f w e w') : ∃ (u v : Value) (E : Int), e = .returned (.tuple #[u, v, .int .i64 E]) ∧ Below w.heap.size w w' := by
  rcases h with ⟨_, h2, h3⟩ | ⟨_, u, v, h2, _, _, h3⟩
  · exact ⟨_, _, _, h2, h3⟩
  · exact ⟨_, _, _, h2, h3⟩
end Go.Proofs.Ytfpkfbojckgcdaa.Oct
