/- What was encrypted is decrypted; a keyring of one key, call by call. No program is named here. -/
import Derived.Test.YtamemjldafoolaaGreatEvE
namespace Go.Proofs.YtamemjldafoolaaGreat.Oct
set_option linter.unusedVariables false

section
variable {n n' : Bf} (h : ∀ k, k < 12 → n k = n' k)
include h
theorem ctrF_cong (c : Nat) : ctrF n c = ctrF n' c := by
  funext k
  unfold ctrF
  by_cases hk : k < 12
  · rw [if_pos hk, if_pos hk, h k hk]
  · rw [if_neg hk, if_neg hk]
theorem xorS_cong (k : Bf) (f : Nat) (b : Bf) : xorS k n f b = xorS k n' f b := by
  funext i
  unfold xorS
  rw [ctrF_cong h]
theorem tagF_cong (k s : Bf) (ns : Nat) (b : Bf) (nb : Nat) : tagF k n s ns b nb = tagF k n' s ns b nb := by
  unfold tagF
  rw [ctrF_cong h]
theorem opC_cong (k s : Bf) (ns : Nat) (b : Bf) (L : Nat) : opC k n s ns b L = opC k n' s ns b L := by
  unfold opC
  rw [tagF_cong h]
theorem sealF_cong (k s : Bf) (ns : Nat) (b : Bf) (L : Nat) : sealF k n s ns b L = sealF k n' s ns b L := by
  unfold sealF
  rw [tagF_cong h, xorS_cong h]
end
section
variable {K : Ks} {i v L S : Nat} {n b s : Bf} (hi : i < 9223372036854775808) (hv : v < 9223372036854775808) (h1 : 1 ≤ i) (h2 : 1 ≤ v) (h3 : 16 ≤ L) (h4 : L ≤ 80) (hS : S ≤ 32)
include hi hv h1 h2 h3 h4 hS
/-- a blob of whatever parts is decrypted, or refused -/
theorem dc_gen : dcE K (blL i v L) (blF i v n b) s S = if mtE K i v = 0 then opC (mtM K i v) n s S b L else mtE K i v := by
  obtain ⟨hB, e1, e2, e3, e4, e5⟩ := bl_ok (n := n) (b := b) hi hv h1 h2 h3 h4
  by_cases hm : mtE K i v = 0
  · rw [if_pos hm, dc_op (by omega) hB (by rw [e1, e2]; exact hm), e1, e2, e3, e5, opC_cong e4]
  · rw [if_neg hm, dc_mat (by omega) hB (by rw [e1, e2]; exact hm), e1, e2]
omit hS in
theorem dcF_gen : dcF K (blL i v L) (blF i v n b) = xorS (mtM K i v) n 2 b := by
  obtain ⟨hB, e1, e2, e3, e4, e5⟩ := bl_ok (n := n) (b := b) hi hv h1 h2 h3 h4
  unfold dcF
  rw [e1, e2, e5, xorS_cong e4]
omit hS in
theorem dcI_gen (h : dcE K (blL i v L) (blF i v n b) s S = 0) : dcI K (blL i v L) (blF i v n b) s S = i := by
  obtain ⟨hB, e1, e2, e3, e4, e5⟩ := bl_ok (n := n) (b := b) hi hv h1 h2 h3 h4
  rw [dcI_ok h, e1]
omit hS in
theorem dcL_gen (h : dcE K (blL i v L) (blF i v n b) s S = 0) : dcL K (blL i v L) (blF i v n b) s S = L - 16 := by
  obtain ⟨hB, e1, e2, e3, e4, e5⟩ := bl_ok (n := n) (b := b) hi hv h1 h2 h3 h4
  rw [dcL_ok h, e3]
end
/-- what was sealed by a version's material is decrypted as it was -/
theorem dc_back {K : Ks} {i v L S : Nat} {n t s m : Bf} (hi : i < 9223372036854775808) (hv : v < 9223372036854775808) (h1 : 1 ≤ i) (h2 : 1 ≤ v) (hL : L ≤ 64) (hS : S ≤ 32) (hE : mtE K i v = 0) (hM : mtM K i v = m) :
    dcE K (blL i v (L + 16)) (blF i v n (sealF m n s S t L)) s S = 0 ∧ dcI K (blL i v (L + 16)) (blF i v n (sealF m n s S t L)) s S = i ∧ dcL K (blL i v (L + 16)) (blF i v n (sealF m n s S t L)) s S = L ∧
      ∀ k, k < L → dcF K (blL i v (L + 16)) (blF i v n (sealF m n s S t L)) k = t k := by
  have e : dcE K (blL i v (L + 16)) (blF i v n (sealF m n s S t L)) s S = 0 := by
    rw [dc_gen hi hv h1 h2 (by omega) (by omega) hS, if_pos hE, hM, opC_back]
  refine ⟨e, dcI_gen hi hv h1 h2 (by omega) (by omega) e, by rw [dcL_gen hi hv h1 h2 (by omega) (by omega) e, Nat.add_sub_cancel], fun k hk => ?_⟩
  rw [dcF_gen hi hv h1 h2 (by omega) (by omega), hM]
  exact xor_back _ _ _ _ _ _ k hk

/-! one key -/
def ksL (l : List Ve) : Ks := [⟨false, l⟩]
theorem hasK1 (l : List Ve) : hasK (ksL l) 1 = true := by unfold hasK ksL; simp
theorem rgAt1 (l : List Ve) : rgAt (ksL l) 1 = ⟨false, l⟩ := rfl
theorem hasK2 (l : List Ve) : hasK (ksL l) 2 = false := by unfold hasK ksL; simp
theorem crL (m : Bf) : crK [] m = ksL [⟨m, 0, false⟩] ∧ crN [] = 1 ∧ crE [] = 0 := ⟨rfl, rfl, rfl⟩
section
variable {l : List Ve} {m : Bf} {u : Int}
theorem lastL : lastV ⟨false, l ++ [⟨m, u, false⟩]⟩ = ⟨m, u, false⟩ := by
  unfold lastV
  exact (veAt_get (r := (⟨false, l ++ [(⟨m, u, false⟩ : Ve)]⟩ : Rg)) l.length (by simp) (by simp)).trans (by simp)
theorem usL (hu : u < 16) : usE (ksL (l ++ [⟨m, u, false⟩])) 1 = 0 ∧ usV (ksL (l ++ [⟨m, u, false⟩])) 1 = ((l.length + 1 : Nat) : Int) ∧ usC (ksL (l ++ [⟨m, u, false⟩])) 1 = u ∧ usM (ksL (l ++ [⟨m, u, false⟩])) 1 = m ∧ usK (ksL (l ++ [⟨m, u, false⟩])) 1 = ksL (l ++ [⟨m, u + 1, false⟩]) := by
  have e : usE (ksL (l ++ [⟨m, u, false⟩])) 1 = 0 := by
    unfold usE
    rw [if_pos (hasK1 _), rgAt1, lastL, if_neg Bool.false_ne_true, if_neg Bool.false_ne_true, if_neg (by show ¬ (16 ≤ u); omega)]
  refine ⟨e, ?_, ?_, ?_, ?_⟩
  · unfold usV; rw [if_pos e, rgAt1]; simp
  · unfold usC; rw [if_pos e, rgAt1, lastL]
  · unfold usM; rw [if_pos e, rgAt1, lastL]
  · unfold usK; rw [if_pos e, rgAt1, lastL]
    unfold putR putV ksL
    simp
theorem usL_full (hu : 16 ≤ u) : usE (ksL (l ++ [⟨m, u, false⟩])) 1 = 133 ∧ usK (ksL (l ++ [⟨m, u, false⟩])) 1 = ksL (l ++ [⟨m, u, false⟩]) := by
  have e : usE (ksL (l ++ [⟨m, u, false⟩])) 1 = 133 := by
    unfold usE
    rw [if_pos (hasK1 _), rgAt1, lastL, if_neg Bool.false_ne_true, if_neg Bool.false_ne_true, if_pos hu]
  exact ⟨e, by unfold usK; rw [e, if_neg (by decide)]⟩
theorem usL_no : usE (ksL l) 2 = 130 ∧ usK (ksL l) 2 = ksL l := by
  have e : usE (ksL l) 2 = 130 := by unfold usE; rw [if_neg (by rw [hasK2]; decide)]
  exact ⟨e, by unfold usK; rw [e, if_neg (by decide)]⟩
theorem mtL (v : Nat) (hv : v < l.length) (hg : l[v].g = false) : mtE (ksL l) ((1 : Nat) : Int) ((v + 1 : Nat) : Int) = 0 ∧ mtM (ksL l) ((1 : Nat) : Int) ((v + 1 : Nat) : Int) = l[v].m := by
  have hh : hasV (ksL l) 1 ((v + 1 : Nat) : Int) = true := by
    rw [hasV_iff, ← hasK_iff, rgAt1]
    exact ⟨hasK1 _, by omega, by show ((v + 1 : Nat) : Int) ≤ (l.length : Int); omega⟩
  have hve : veAt ⟨false, l⟩ ((v + 1 : Nat) : Int) = l[v] := veAt_get v hv (by omega)
  have e : mtE (ksL l) 1 ((v + 1 : Nat) : Int) = 0 := by
    unfold mtE; rw [if_pos hh, rgAt1, hve, hg, if_neg Bool.false_ne_true, if_neg Bool.false_ne_true]
  refine ⟨e, ?_⟩
  show mtM (ksL l) 1 ((v + 1 : Nat) : Int) = _
  unfold mtM; rw [if_pos e, rgAt1, hve]
theorem mtL_ver (v : Nat) (hv : l.length < v) : mtE (ksL l) ((1 : Nat) : Int) (v : Int) = 130 := by
  unfold mtE
  rw [if_neg]
  intro h
  have := (hasV_iff.1 h).2.2
  rw [show rgAt (ksL l) ((1 : Nat) : Int) = ⟨false, l⟩ from rfl] at this
  have : (v : Int) ≤ (l.length : Int) := this
  omega
theorem mtL_key (v : Int) : mtE (ksL l) ((2 : Nat) : Int) v = 130 := by
  unfold mtE
  rw [if_neg]
  intro h
  have h1 := hasK_iff.2 (hasV_iff.1 h).1
  rw [show hasK (ksL l) ((2 : Nat) : Int) = false from hasK2 l] at h1
  cases h1
theorem rtL (hl : l.length < 4) : rtE (ksL l) 1 = 0 ∧ rtN (ksL l) 1 = ((l.length + 1 : Nat) : Int) ∧ rtK (ksL l) 1 m = ksL (l ++ [⟨m, 0, false⟩]) := by
  have e : rtE (ksL l) 1 = 0 := by
    unfold rtE; rw [if_pos (hasK1 _), rgAt1, if_neg (by show ¬ (4 ≤ l.length); omega)]
  refine ⟨e, ?_, ?_⟩
  · unfold rtN; rw [if_pos e, rgAt1]; simp
  · unfold rtK; rw [if_pos e, rgAt1]; unfold putR ksL; simp
end
/-- encrypted with the last version -/
theorem enG (l : List Ve) (m : Bf) (c L S : Nat) (hc : c < 16) (hL : L ≤ 64) (hS : S ≤ 32) :
    enE (ksL (l ++ [⟨m, (c : Int), false⟩])) 1 L S = 0 ∧ enV (ksL (l ++ [⟨m, (c : Int), false⟩])) 1 L S = ((l.length + 1 : Nat) : Int) ∧ enK (ksL (l ++ [⟨m, (c : Int), false⟩])) 1 L S = ksL (l ++ [⟨m, ((c + 1 : Nat) : Int), false⟩]) ∧
      enL (ksL (l ++ [⟨m, (c : Int), false⟩])) 1 L S = blL 1 (l.length + 1) (L + 16) ∧ ∀ t s, enF (ksL (l ++ [⟨m, (c : Int), false⟩])) 1 t L s S = blF 1 (l.length + 1) (nonC c) (sealF m (nonC c) s S t L) := by
  obtain ⟨a1, a2, a3, a4, a5⟩ := usL (l := l) (m := m) (u := (c : Int)) (by omega)
  obtain ⟨e1, e2, e3, e4⟩ := en_ok (K := ksL (l ++ [⟨m, (c : Int), false⟩])) (id := 1) (L := L) (S := S) (by omega) a1
  refine ⟨e1, e2.trans a2, e3.trans a5, e4.trans (by rw [a2]; rfl), fun t s => ?_⟩
  unfold enF
  rw [a2, a3, a4]
  rfl
/-- decrypted with whatever version -/
theorem dcG (l : List Ve) (v L S : Nat) (n t s m : Bf) (hv : v < l.length) (hv2 : v < 1000) (hg : l[v].g = false) (hm : l[v].m = m) (hL : L ≤ 64) (hS : S ≤ 32) :
    dcE (ksL l) (blL 1 (v + 1) (L + 16)) (blF 1 (v + 1) n (sealF m n s S t L)) s S = 0 ∧ dcI (ksL l) (blL 1 (v + 1) (L + 16)) (blF 1 (v + 1) n (sealF m n s S t L)) s S = 1 ∧ dcL (ksL l) (blL 1 (v + 1) (L + 16)) (blF 1 (v + 1) n (sealF m n s S t L)) s S = L ∧
      ∀ k, k < L → dcF (ksL l) (blL 1 (v + 1) (L + 16)) (blF 1 (v + 1) n (sealF m n s S t L)) k = t k := by
  obtain ⟨h1, h2⟩ := mtL (l := l) v hv hg
  exact dc_back (by omega) (by omega) (by omega) (by omega) hL hS h1 (h2.trans hm)
/-! one key of one version -/
def ks1 (m : Bf) (c : Nat) : Ks := ksL [⟨m, (c : Int), false⟩]
theorem cr1 (m : Bf) : crK [] m = ks1 m 0 ∧ crN [] = 1 ∧ crE [] = 0 := ⟨rfl, rfl, rfl⟩
theorem en1 (m : Bf) (c L S : Nat) (hc : c < 16) (hL : L ≤ 64) (hS : S ≤ 32) :
    enE (ks1 m c) 1 L S = 0 ∧ enV (ks1 m c) 1 L S = 1 ∧ enK (ks1 m c) 1 L S = ks1 m (c + 1) ∧
      enL (ks1 m c) 1 L S = blL 1 1 (L + 16) ∧ ∀ t s, enF (ks1 m c) 1 t L s S = blF 1 1 (nonC c) (sealF m (nonC c) s S t L) := enG [] m c L S hc hL hS
theorem en1_full (m : Bf) (L S : Nat) (hL : L ≤ 64) (hS : S ≤ 32) : enE (ks1 m 16) 1 L S = 133 ∧ enV (ks1 m 16) 1 L S = 0 ∧ enK (ks1 m 16) 1 L S = ks1 m 16 ∧ enL (ks1 m 16) 1 L S = 0 := by
  obtain ⟨a1, a2⟩ := usL_full (l := []) (m := m) (u := 16) (by decide)
  obtain ⟨e1, e2, e3, e4⟩ := en_no (K := ks1 m 16) (id := 1) (L := L) (S := S) (by omega) (by show usE (ksL ([] ++ [⟨m, 16, false⟩])) 1 ≠ 0; rw [a1]; decide)
  exact ⟨e1.trans a1, e2, e3.trans a2, e4⟩
theorem en1_no (m : Bf) (c L S : Nat) (hL : L ≤ 64) (hS : S ≤ 32) : enE (ks1 m c) 2 L S = 130 ∧ enV (ks1 m c) 2 L S = 0 ∧ enK (ks1 m c) 2 L S = ks1 m c ∧ enL (ks1 m c) 2 L S = 0 := by
  obtain ⟨a1, a2⟩ := usL_no (l := [⟨m, (c : Int), false⟩])
  obtain ⟨e1, e2, e3, e4⟩ := en_no (K := ks1 m c) (id := 2) (L := L) (S := S) (by omega) (by show usE (ksL [⟨m, (c : Int), false⟩]) 2 ≠ 0; rw [a1]; decide)
  exact ⟨e1.trans a1, e2, e3.trans a2, e4⟩
theorem mt1 (m : Bf) (c : Nat) : mtE (ks1 m c) ((1 : Nat) : Int) ((1 : Nat) : Int) = 0 ∧ mtM (ks1 m c) ((1 : Nat) : Int) ((1 : Nat) : Int) = m := mtL (l := [⟨m, (c : Int), false⟩]) 0 (by simp) rfl
theorem dc1 (m : Bf) (c L S : Nat) (n t s : Bf) (hL : L ≤ 64) (hS : S ≤ 32) :
    dcE (ks1 m c) (blL 1 1 (L + 16)) (blF 1 1 n (sealF m n s S t L)) s S = 0 ∧ dcI (ks1 m c) (blL 1 1 (L + 16)) (blF 1 1 n (sealF m n s S t L)) s S = 1 ∧ dcL (ks1 m c) (blL 1 1 (L + 16)) (blF 1 1 n (sealF m n s S t L)) s S = L ∧
      ∀ k, k < L → dcF (ks1 m c) (blL 1 1 (L + 16)) (blF 1 1 n (sealF m n s S t L)) k = t k := dcG [⟨m, (c : Int), false⟩] 0 L S n t s m (by simp) (by omega) rfl rfl hL hS
/-- one key, two versions -/
theorem rt1 (m m2 : Bf) (c : Nat) : rtE (ks1 m c) 1 = 0 ∧ rtN (ks1 m c) 1 = 2 ∧ rtK (ks1 m c) 1 m2 = ksL [⟨m, (c : Int), false⟩, ⟨m2, 0, false⟩] := rtL (l := [⟨m, (c : Int), false⟩]) (by simp)
theorem dc_none (K : Ks) (f s : Bf) (S : Nat) (hS : S ≤ 32) : dcE K 0 f s S = 140 := by
  rw [dc_blob (by omega)]
  rw [Bool.eq_false_iff]
  intro h
  have := (rdB_iff.1 h).1
  unfold tkE at this
  rw [if_pos rfl] at this
  omega
end Go.Proofs.YtamemjldafoolaaGreat.Oct
