/- Layer 14's model: blobs put together and taken apart, what is encrypted, decrypted and wrapped anew. -/
import Derived.Test.YtamemjldafoolaaGreatGcmBk
import Derived.Test.YtamemjldafoolaaGreatPkAll
import Derived.Test.YtamemjldafoolaaGreatKrAll
namespace Go.Proofs.YtamemjldafoolaaGreat.Oct
set_option linter.unusedVariables false

/-- the nonce of a count -/
@[irreducible] def nonC (c : Nat) : Bf := catF 4 (fun _ => 0#8) (beN 8 c)
/-- the numbers at a blob's head -/
def hdL (i v : Nat) : Nat := encL i + encL v
def hdF (i v : Nat) : Bf := catF (encL i) (encF i) (encF v)
/-- a blob -/
def blL (i v L : Nat) : Nat := hdL i v + 12 + L
@[irreducible] def blF (i v : Nat) (n b : Bf) : Bf := catF (hdL i v + 12) (catF (hdL i v) (hdF i v) n) b
theorem hdL_le (i v : Nat) : 2 ≤ hdL i v ∧ hdL i v ≤ 18 := by have := encL_le i; have := encL_le v; have := encL_pos i; have := encL_pos v; unfold hdL; omega

/-- what stands behind the first number -/
def rdR (f : Bf) : Bf := offF f (tkL f)
/-- where the nonce begins -/
def rdO (f : Bf) : Nat := tkL f + tkL (rdR f)
def rdB (n : Nat) (f : Bf) : Bool := decide (tkE n f = 0 ∧ 1 ≤ tkV f ∧ tkE (n - tkL f) (rdR f) = 0 ∧ 1 ≤ tkV (rdR f) ∧ 28 ≤ n - tkL f - tkL (rdR f) ∧ n - tkL f - tkL (rdR f) ≤ 92)
@[irreducible] def rdE (n : Nat) (f : Bf) : Int := if rdB n f = true then 0 else 140
@[irreducible] def rdI (n : Nat) (f : Bf) : Int := if rdB n f = true then (tkV f : Nat) else 0
@[irreducible] def rdV (n : Nat) (f : Bf) : Int := if rdB n f = true then (tkV (rdR f) : Nat) else 0
@[irreducible] def rdN (n : Nat) (f : Bf) : Bf := if rdB n f = true then offF f (rdO f) else fun _ => 0#8
@[irreducible] def rdL (n : Nat) (f : Bf) : Nat := if rdB n f = true then n - tkL f - tkL (rdR f) - 12 else 0
@[irreducible] def rdF (f : Bf) : Bf := offF f (rdO f + 12)
section
variable {n : Nat} {f : Bf}
theorem rdB_iff : rdB n f = true ↔ tkE n f = 0 ∧ 1 ≤ tkV f ∧ tkE (n - tkL f) (rdR f) = 0 ∧ 1 ≤ tkV (rdR f) ∧ 28 ≤ n - tkL f - tkL (rdR f) ∧ n - tkL f - tkL (rdR f) ≤ 92 := by unfold rdB; rw [decide_eq_true_eq]
theorem rdE_ok (h : rdB n f = true) : rdE n f = 0 := by unfold rdE; rw [if_pos h]
theorem rdE_no (h : rdB n f = false) : rdE n f = 140 := by unfold rdE; rw [if_neg (by rw [h]; decide)]
theorem rdI_ok (h : rdB n f = true) : rdI n f = (tkV f : Nat) := by unfold rdI; rw [if_pos h]
theorem rdI_no (h : rdB n f = false) : rdI n f = 0 := by unfold rdI; rw [if_neg (by rw [h]; decide)]
theorem rdV_ok (h : rdB n f = true) : rdV n f = (tkV (rdR f) : Nat) := by unfold rdV; rw [if_pos h]
theorem rdV_no (h : rdB n f = false) : rdV n f = 0 := by unfold rdV; rw [if_neg (by rw [h]; decide)]
theorem rdN_ok (h : rdB n f = true) : rdN n f = offF f (rdO f) := by unfold rdN; rw [if_pos h]
theorem rdN_no (h : rdB n f = false) : rdN n f = fun _ => 0#8 := by unfold rdN; rw [if_neg (by rw [h]; decide)]
theorem rdL_ok (h : rdB n f = true) : rdL n f = n - tkL f - tkL (rdR f) - 12 := by unfold rdL; rw [if_pos h]
theorem rdL_no (h : rdB n f = false) : rdL n f = 0 := by unfold rdL; rw [if_neg (by rw [h]; decide)]
theorem rdL_le : rdL n f ≤ 80 := by
  cases h : rdB n f
  · rw [rdL_no h]; omega
  · rw [rdL_ok h]; have := rdB_iff.1 h; omega
theorem rdE_cases : rdE n f = 0 ∧ rdB n f = true ∨ rdE n f = 140 ∧ rdB n f = false := by
  cases h : rdB n f
  · exact .inr ⟨rdE_no h, rfl⟩
  · exact .inl ⟨rdE_ok h, rfl⟩
end
/- a blob that was put together is taken apart -/
section
variable {i v L : Nat} {n b : Bf}
theorem bl_head (k : Nat) (h : k < hdL i v) : blF i v n b k = hdF i v k := by unfold blF catF; rw [if_pos (by omega), if_pos h]
theorem bl_non (k : Nat) (h : k < 12) : blF i v n b (hdL i v + k) = n k := by unfold blF catF; rw [if_pos (by omega), if_neg (by omega), Nat.add_sub_cancel_left]
theorem bl_text (k : Nat) : blF i v n b (hdL i v + 12 + k) = b k := by unfold blF catF; rw [if_neg (by omega), Nat.add_sub_cancel_left]
theorem bl_one (hi : i < 9223372036854775808) : tkE (blL i v L) (blF i v n b) = 0 ∧ tkV (blF i v n b) = i ∧ tkL (blF i v n b) = encL i :=
  tk_enc i hi (blL i v L) (blF i v n b) (by unfold blL hdL; omega) fun k hk => by
    rw [bl_head k (by unfold hdL; omega)]; unfold hdF catF; rw [if_pos hk]
theorem bl_two (hi : i < 9223372036854775808) (hv : v < 9223372036854775808) : tkE (blL i v L - encL i) (rdR (blF i v n b)) = 0 ∧ tkV (rdR (blF i v n b)) = v ∧ tkL (rdR (blF i v n b)) = encL v := by
  refine tk_enc v hv _ _ (by unfold blL hdL; omega) fun k hk => ?_
  unfold rdR
  rw [(bl_one (L := 0) hi).2.2]
  show blF i v n b (encL i + k) = _
  rw [bl_head _ (by unfold hdL; omega)]
  unfold hdF catF
  rw [if_neg (by omega), Nat.add_sub_cancel_left]
theorem bl_off (hi : i < 9223372036854775808) (hv : v < 9223372036854775808) : rdO (blF i v n b) = hdL i v := by
  unfold rdO; rw [(bl_one (L := 0) hi).2.2, (bl_two (L := 0) hi hv).2.2]; rfl
theorem bl_B (hi : i < 9223372036854775808) (hv : v < 9223372036854775808) (h1 : 1 ≤ i) (h2 : 1 ≤ v) : rdB (blL i v L) (blF i v n b) = decide (16 ≤ L ∧ L ≤ 80) := by
  obtain ⟨a1, a2, a3⟩ := bl_one (v := v) (L := L) (n := n) (b := b) hi
  obtain ⟨c1, c2, c3⟩ := bl_two (L := L) (n := n) (b := b) hi hv
  unfold rdB
  rw [a1, a2, a3, c1, c2, c3]
  congr 1
  unfold blL hdL
  apply propext
  constructor
  · intro h; omega
  · intro h; omega
theorem bl_ok (hi : i < 9223372036854775808) (hv : v < 9223372036854775808) (h1 : 1 ≤ i) (h2 : 1 ≤ v) (h3 : 16 ≤ L) (h4 : L ≤ 80) :
    rdB (blL i v L) (blF i v n b) = true ∧ rdI (blL i v L) (blF i v n b) = i ∧ rdV (blL i v L) (blF i v n b) = v ∧ rdL (blL i v L) (blF i v n b) = L ∧ (∀ k, k < 12 → rdN (blL i v L) (blF i v n b) k = n k) ∧ rdF (blF i v n b) = b := by
  have hB : rdB (blL i v L) (blF i v n b) = true := by rw [bl_B hi hv h1 h2]; simp; omega
  have ho := bl_off (n := n) (b := b) hi hv
  refine ⟨hB, ?_, ?_, ?_, fun k hk => ?_, ?_⟩
  · rw [rdI_ok hB, (bl_one (L := 0) hi).2.1]
  · rw [rdV_ok hB, (bl_two (L := 0) hi hv).2.1]
  · rw [rdL_ok hB, (bl_one (L := 0) hi).2.2, (bl_two (L := 0) hi hv).2.2]; unfold blL hdL; omega
  · rw [rdN_ok hB, ho]; exact bl_non k hk
  · unfold rdF; rw [ho]; funext k; exact bl_text k
end

/-! Encrypt -/
@[irreducible] def enE (K : Ks) (id : Int) (L S : Nat) : Int := if 64 < L ∨ 32 < S then 2 else usE K id
@[irreducible] def enV (K : Ks) (id : Int) (L S : Nat) : Int := if enE K id L S = 0 then usV K id else 0
@[irreducible] def enK (K : Ks) (id : Int) (L S : Nat) : Ks := if 64 < L ∨ 32 < S then K else usK K id
@[irreducible] def enL (K : Ks) (id : Int) (L S : Nat) : Nat := if enE K id L S = 0 then blL id.toNat (usV K id).toNat (L + 16) else 0
@[irreducible] def enF (K : Ks) (id : Int) (t : Bf) (L : Nat) (s : Bf) (S : Nat) : Bf :=
  blF id.toNat (usV K id).toNat (nonC (usC K id).toNat) (sealF (usM K id) (nonC (usC K id).toNat) s S t L)
/-! Decrypt -/
@[irreducible] def dcE (K : Ks) (n : Nat) (f : Bf) (s : Bf) (S : Nat) : Int :=
  if 32 < S then 2 else if rdB n f = false then 140 else if mtE K (rdI n f) (rdV n f) = 0 then opC (mtM K (rdI n f) (rdV n f)) (rdN n f) s S (rdF f) (rdL n f) else mtE K (rdI n f) (rdV n f)
@[irreducible] def dcI (K : Ks) (n : Nat) (f : Bf) (s : Bf) (S : Nat) : Int := if dcE K n f s S = 0 then rdI n f else 0
@[irreducible] def dcL (K : Ks) (n : Nat) (f : Bf) (s : Bf) (S : Nat) : Nat := if dcE K n f s S = 0 then rdL n f - 16 else 0
@[irreducible] def dcF (K : Ks) (n : Nat) (f : Bf) : Bf := xorS (mtM K (rdI n f) (rdV n f)) (rdN n f) 2 (rdF f)
/-! Rewrap -/
@[irreducible] def rwE (K : Ks) (n : Nat) (f : Bf) (s : Bf) (S : Nat) : Int := if dcE K n f s S = 0 then enE K (dcI K n f s S) (dcL K n f s S) S else dcE K n f s S
@[irreducible] def rwV (K : Ks) (n : Nat) (f : Bf) (s : Bf) (S : Nat) : Int := if dcE K n f s S = 0 then enV K (dcI K n f s S) (dcL K n f s S) S else 0
@[irreducible] def rwK (K : Ks) (n : Nat) (f : Bf) (s : Bf) (S : Nat) : Ks := if dcE K n f s S = 0 then enK K (dcI K n f s S) (dcL K n f s S) S else K
@[irreducible] def rwL (K : Ks) (n : Nat) (f : Bf) (s : Bf) (S : Nat) : Nat := if dcE K n f s S = 0 then enL K (dcI K n f s S) (dcL K n f s S) S else 0
@[irreducible] def rwF (K : Ks) (n : Nat) (f : Bf) (s : Bf) (S : Nat) : Bf := enF K (dcI K n f s S) (dcF K n f) (dcL K n f s S) s S
/-- what a use tells, as naturals -/
theorem us_nat {K : Ks} {id : Int} (h : usE K id = 0) (ok : okK K) : ∃ i V C : Nat, id = i ∧ usV K id = V ∧ usC K id = C ∧ 1 ≤ i ∧ i ≤ 8 ∧ 1 ≤ V ∧ V ≤ 4 ∧ C < 16 := by
  obtain ⟨h1, h2, h3, h4⟩ := usE_zero h
  have hr := ok.ring h1
  have hl := hr.last
  have h8 := ok.1
  obtain ⟨a1, a2⟩ := hasK_iff.1 h1
  have hc := hl.1.1
  refine ⟨id.toNat, (rgAt K id).l.length, (lastV (rgAt K id)).u.toNat, by omega, ?_, ?_, by omega, by omega, hr.1.1, hr.1.2, by omega⟩
  · unfold usV; rw [if_pos h]
  · unfold usC; rw [if_pos h]; omega
section
variable {K : Ks} {id : Int} {L S : Nat}
theorem en_long (h : 64 < L ∨ 32 < S) : enE K id L S = 2 ∧ enV K id L S = 0 ∧ enK K id L S = K ∧ enL K id L S = 0 := by
  have e : enE K id L S = 2 := by unfold enE; rw [if_pos h]
  exact ⟨e, by unfold enV; rw [e, if_neg (by decide)], by unfold enK; rw [if_pos h], by unfold enL; rw [e, if_neg (by decide)]⟩
theorem en_no (h : ¬ (64 < L ∨ 32 < S)) (hu : usE K id ≠ 0) : enE K id L S = usE K id ∧ enV K id L S = 0 ∧ enK K id L S = usK K id ∧ enL K id L S = 0 := by
  have e : enE K id L S = usE K id := by unfold enE; rw [if_neg h]
  exact ⟨e, by unfold enV; rw [e, if_neg hu], by unfold enK; rw [if_neg h], by unfold enL; rw [e, if_neg hu]⟩
theorem en_ok (h : ¬ (64 < L ∨ 32 < S)) (hu : usE K id = 0) : enE K id L S = 0 ∧ enV K id L S = usV K id ∧ enK K id L S = usK K id ∧ enL K id L S = blL id.toNat (usV K id).toNat (L + 16) := by
  have e : enE K id L S = 0 := by unfold enE; rw [if_neg h, hu]
  exact ⟨e, by unfold enV; rw [if_pos e], by unfold enK; rw [if_neg h], by unfold enL; rw [if_pos e]⟩
theorem enK_ok (ok : okK K) : okK (enK K id L S) := by
  unfold enK
  split
  · exact ok
  · exact usK_ok ok
end
end Go.Proofs.YtamemjldafoolaaGreat.Oct
