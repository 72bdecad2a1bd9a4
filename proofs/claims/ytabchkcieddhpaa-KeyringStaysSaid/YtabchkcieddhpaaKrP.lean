/- What a call leaves as it was: versions only grow, their material stays but for their end. Program-free. -/
import Derived.Test.YtabchkcieddhpaaKrMath
namespace Go.Proofs.Ytabchkcieddhpaa.Oct
set_option linter.unusedVariables false

def veLe (x y : Ve) : Prop := (x.g = true → y.g = true) ∧ (y.g = false → ∀ i, i < 32 → x.m i = y.m i) ∧ x.u ≤ y.u ∧ y.u ≤ x.u + 1
def rgLe (r s : Rg) : Prop := r.l.length ≤ s.l.length ∧ ∀ b (h : b < r.l.length) (h' : b < s.l.length), veLe r.l[b] s.l[b]
def ksLe (K L : Ks) : Prop := K.length ≤ L.length ∧ ∀ a (h : a < K.length) (h' : a < L.length), rgLe K[a] L[a]
theorem veLe.refl (x : Ve) : veLe x x := ⟨id, fun _ _ _ => rfl, Int.le_refl _, by omega⟩
theorem rgLe.same {r s : Rg} (h : r.l = s.l) : rgLe r s := by
  refine ⟨by rw [h]; exact Nat.le_refl _, fun b h1 h2 => ?_⟩
  obtain ⟨o, l⟩ := r
  obtain ⟨o', l'⟩ := s
  obtain rfl : l = l' := h
  exact veLe.refl _
theorem ksLe.refl (K : Ks) : ksLe K K := ⟨Nat.le_refl _, fun a h h' => rgLe.same rfl⟩
theorem ksLe.put {K : Ks} {id : Int} {r : Rg} (hk : hasK K id = true) (h : rgLe (rgAt K id) r) : ksLe K (putR K id r) := by
  obtain ⟨h1, h2⟩ := hasK_iff.1 hk
  unfold putR
  refine ⟨by rw [List.length_set]; exact Nat.le_refl _, fun a ha hb => ?_⟩
  by_cases he : (id - 1).toNat = a
  · subst he
    rw [List.getElem_set_self, ← rgAt_get (id := id) _ ha rfl]
    exact h
  · rw [List.getElem_set_ne he]
    exact rgLe.same rfl
theorem rgLe.put {r : Rg} {v : Int} {y : Ve} (hv : 1 ≤ v ∧ v ≤ (r.l.length : Int)) (h : veLe (veAt r v) y) : rgLe r (putV r v y) := by
  unfold putV
  refine ⟨by show _ ≤ (r.l.set _ _).length; rw [List.length_set]; exact Nat.le_refl _, fun b hb hb' => ?_⟩
  show veLe _ (r.l.set _ _)[b]
  by_cases he : (v - 1).toNat = b
  · subst he
    rw [List.getElem_set_self, ← veAt_get (v := v) _ hb rfl]
    exact h
  · rw [List.getElem_set_ne he]
    exact veLe.refl _
section
variable {K : Ks} {id v : Int} {m : Bf} {on : Bool}
theorem crK_le : ksLe K (crK K m) := by
  unfold crK
  split
  · exact ksLe.refl K
  · refine ⟨by rw [List.length_append]; omega, fun a h h' => ?_⟩
    rw [List.getElem_append_left h]
    exact rgLe.same rfl
theorem rtK_le : ksLe K (rtK K id m) := by
  unfold rtK
  split
  · rename_i h
    refine ksLe.put (by
      cases hh : hasK K id
      · unfold rtE at h; rw [hh] at h; simp at h
      · rfl) ⟨by show _ ≤ (_ ++ _ : List Ve).length; rw [List.length_append]; omega, fun b hb hb' => ?_⟩
    show veLe _ ((rgAt K id).l ++ _)[b]
    rw [List.getElem_append_left hb]
    exact veLe.refl _
  · exact ksLe.refl K
theorem swK_le : ksLe K (swK K id on) := by
  unfold swK
  split
  · rename_i h
    exact ksLe.put h (rgLe.same rfl)
  · exact ksLe.refl K
theorem dsK_le : ksLe K (dsK K id v) := by
  unfold dsK
  split
  · rename_i h
    have hv : hasV K id v = true := by
      cases hh : hasV K id v
      · unfold dsE at h; rw [hh] at h; simp at h
      · rfl
    obtain ⟨h1, h2⟩ := hasV_iff.1 hv
    exact ksLe.put (hasK_iff.2 h1) (rgLe.put h2 ⟨fun _ => rfl, fun e => (by cases e), Int.le_refl _, (by show (veAt (rgAt K id) v).u ≤ _; omega)⟩)
  · exact ksLe.refl K
theorem us_has (h : usE K id = 0) : hasK K id = true := by
  cases hh : hasK K id
  · unfold usE at h; rw [hh] at h; simp at h
  · rfl
theorem us_few (h : usE K id = 0) : (lastV (rgAt K id)).u < 16 := by
  have hh := us_has h
  unfold usE at h
  rw [if_pos hh] at h
  by_cases h1 : (rgAt K id).off = true
  · rw [if_pos h1] at h; simp at h
  · rw [if_neg h1] at h
    by_cases h2 : (lastV (rgAt K id)).g = true
    · rw [if_pos h2] at h; simp at h
    · rw [if_neg h2] at h
      by_cases h3 : 16 ≤ (lastV (rgAt K id)).u
      · rw [if_pos h3] at h; simp at h
      · omega
theorem rg_some (hok : okK K) (h : hasK K id = true) : 1 ≤ (rgAt K id).l.length ∧ (rgAt K id).l.length ≤ 4 := (hok.2 _ (rgAt_mem h)).1
theorem usK_le (hok : okK K) : ksLe K (usK K id) := by
  unfold usK
  split
  · rename_i h
    have hk := us_has h
    have hl := rg_some hok hk
    exact ksLe.put hk (rgLe.put ⟨by omega, by omega⟩ ⟨fun e => e, fun _ _ _ => rfl, by show (veAt _ _).u ≤ (veAt _ _).u + 1; omega, by show (veAt _ _).u + 1 ≤ (veAt _ _).u + 1; omega⟩)
  · exact ksLe.refl K
/-- what a use tells -/
theorem us_tells (hok : okK K) (h : usE K id = 0) : ∃ (a b : Nat) (ha : a < K.length) (hb : b < (K[a]'ha).l.length), id = (a : Int) + 1 ∧ usV K id = (b : Int) + 1 ∧ (K[a]'ha).l.length = b + 1 ∧
    usC K id = ((K[a]'ha).l[b]'hb).u ∧ usM K id = ((K[a]'ha).l[b]'hb).m ∧ ((K[a]'ha).l[b]'hb).u < 16 := by
  have hk := us_has h
  obtain ⟨h1, h2⟩ := hasK_iff.1 hk
  have ha : (id - 1).toNat < K.length := by omega
  have hl := rg_some hok hk
  have hr := rgAt_get (K := K) (id := id) _ ha rfl
  have hf := us_few h
  rw [hr] at hl hf
  have hb : (K[(id - 1).toNat]'ha).l.length - 1 < (K[(id - 1).toNat]'ha).l.length := by omega
  have hv : lastV (K[(id - 1).toNat]'ha) = (K[(id - 1).toNat]'ha).l[(K[(id - 1).toNat]'ha).l.length - 1]'hb := veAt_get _ hb (by omega)
  rw [hv] at hf
  refine ⟨_, _, ha, hb, by omega, ?_, by omega, ?_, ?_, hf⟩
  · unfold usV; rw [if_pos h, hr]; omega
  · unfold usC; rw [if_pos h, hr, hv]
  · unfold usM; rw [if_pos h, hr, hv]
end
end Go.Proofs.Ytabchkcieddhpaa.Oct
