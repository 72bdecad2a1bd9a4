/- Layer 13's model: rings of versions, and what the calls answer. Program-free. -/
import Derived.Test.YtabchkcieddhpaaDkB0
namespace Go.Proofs.Ytabchkcieddhpaa.Oct
set_option linter.unusedVariables false

/-- a version: its material, its uses, whether it is gone -/
structure Ve where
  m : Bf
  u : Int
  g : Bool
/-- a ring: whether it is off, and its versions -/
structure Rg where
  off : Bool
  l : List Ve
abbrev Ks := List Rg
def ve0 : Ve := ⟨fun _ => 0#8, 0, false⟩
def rg0 : Rg := ⟨false, []⟩
/-- the ring of a number, the version of a number -/
def rgAt (K : Ks) (id : Int) : Rg := K.getD (id - 1).toNat rg0
def veAt (r : Rg) (v : Int) : Ve := r.l.getD (v - 1).toNat ve0
def hasK (K : Ks) (id : Int) : Bool := decide (1 ≤ id) && decide (id ≤ (K.length : Int))
def hasV (K : Ks) (id v : Int) : Bool := hasK K id && (decide (1 ≤ v) && decide (v ≤ ((rgAt K id).l.length : Int)))
def putR (K : Ks) (id : Int) (r : Rg) : Ks := K.set (id - 1).toNat r
def putV (r : Rg) (v : Int) (x : Ve) : Rg := ⟨r.off, r.l.set (v - 1).toNat x⟩
/-- what may stand in a keyring -/
def okV (v : Ve) : Prop := (0 ≤ v.u ∧ v.u ≤ 16) ∧ (v.g = true → ∀ i, i < 32 → v.m i = 0#8)
def okR (r : Rg) : Prop := (1 ≤ r.l.length ∧ r.l.length ≤ 4) ∧ ∀ v ∈ r.l, okV v
def okK (K : Ks) : Prop := K.length ≤ 8 ∧ ∀ r ∈ K, okR r

/-! Create -/
def crE (K : Ks) : Int := if 8 ≤ K.length then 134 else 0
def crN (K : Ks) : Int := if 8 ≤ K.length then 0 else (K.length : Int) + 1
def crK (K : Ks) (m : Bf) : Ks := if 8 ≤ K.length then K else K ++ [⟨false, [⟨m, 0, false⟩]⟩]
/-! Rotate -/
def rtE (K : Ks) (id : Int) : Int := if hasK K id = true then (if 4 ≤ (rgAt K id).l.length then 134 else 0) else 130
def rtN (K : Ks) (id : Int) : Int := if rtE K id = 0 then ((rgAt K id).l.length : Int) + 1 else 0
def rtK (K : Ks) (id : Int) (m : Bf) : Ks := if rtE K id = 0 then putR K id ⟨(rgAt K id).off, (rgAt K id).l ++ [⟨m, 0, false⟩]⟩ else K
/-! Switch -/
def swE (K : Ks) (id : Int) : Int := if hasK K id = true then 0 else 130
def swK (K : Ks) (id : Int) (on : Bool) : Ks := if hasK K id = true then putR K id ⟨!on, (rgAt K id).l⟩ else K
/-! Destroy -/
def dsE (K : Ks) (id v : Int) : Int := if hasV K id v = true then (if (veAt (rgAt K id) v).g = true then 132 else 0) else 130
def dsK (K : Ks) (id v : Int) : Ks := if dsE K id v = 0 then putR K id (putV (rgAt K id) v ⟨fun _ => 0#8, (veAt (rgAt K id) v).u, true⟩) else K
/-! Use -/
def lastV (r : Rg) : Ve := veAt r (r.l.length : Int)
def usE (K : Ks) (id : Int) : Int :=
  if hasK K id = true then (if (rgAt K id).off = true then 131 else if (lastV (rgAt K id)).g = true then 132 else if 16 ≤ (lastV (rgAt K id)).u then 133 else 0) else 130
def usV (K : Ks) (id : Int) : Int := if usE K id = 0 then ((rgAt K id).l.length : Int) else 0
def usC (K : Ks) (id : Int) : Int := if usE K id = 0 then (lastV (rgAt K id)).u else 0
def usM (K : Ks) (id : Int) : Bf := if usE K id = 0 then (lastV (rgAt K id)).m else fun _ => 0#8
def usK (K : Ks) (id : Int) : Ks :=
  if usE K id = 0 then putR K id (putV (rgAt K id) ((rgAt K id).l.length : Int) ⟨(lastV (rgAt K id)).m, (lastV (rgAt K id)).u + 1, (lastV (rgAt K id)).g⟩) else K
/-! Material -/
def mtE (K : Ks) (id v : Int) : Int := if hasV K id v = true then (if (rgAt K id).off = true then 131 else if (veAt (rgAt K id) v).g = true then 132 else 0) else 130
def mtM (K : Ks) (id v : Int) : Bf := if mtE K id v = 0 then (veAt (rgAt K id) v).m else fun _ => 0#8

section
variable {K : Ks} {id v : Int}
theorem hasK_iff : hasK K id = true ↔ 1 ≤ id ∧ id ≤ (K.length : Int) := by unfold hasK; simp only [Bool.and_eq_true, decide_eq_true_eq]
theorem hasV_iff : hasV K id v = true ↔ (1 ≤ id ∧ id ≤ (K.length : Int)) ∧ 1 ≤ v ∧ v ≤ ((rgAt K id).l.length : Int) := by
  unfold hasV; rw [Bool.and_eq_true, hasK_iff]; simp only [Bool.and_eq_true, decide_eq_true_eq]
theorem rgAt_get (i : Nat) (h : i < K.length) (hi : (id - 1).toNat = i) : rgAt K id = K[i] := by unfold rgAt; rw [hi]; simp [h]
theorem veAt_get {r : Rg} (i : Nat) (h : i < r.l.length) (hi : (v - 1).toNat = i) : veAt r v = r.l[i] := by unfold veAt; rw [hi]; simp [h]
theorem rgAt_mem (h : hasK K id = true) : rgAt K id ∈ K := by
  obtain ⟨h1, h2⟩ := hasK_iff.1 h
  rw [rgAt_get (id - 1).toNat (by omega) rfl]
  exact List.getElem_mem _
theorem veAt_mem {r : Rg} (h1 : 1 ≤ v) (h2 : v ≤ (r.l.length : Int)) : veAt r v ∈ r.l := by
  rw [veAt_get (v - 1).toNat (by omega) rfl]
  exact List.getElem_mem _
theorem putR_len (r : Rg) : (putR K id r).length = K.length := by unfold putR; rw [List.length_set]
theorem putV_len {r : Rg} (x : Ve) : (putV r v x).l.length = r.l.length := by unfold putV; rw [List.length_set]
theorem putR_ok {r : Rg} (h : okK K) (hr : okR r) : okK (putR K id r) := by
  refine ⟨by rw [putR_len]; exact h.1, fun y hy => ?_⟩
  unfold putR at hy
  rcases List.mem_or_eq_of_mem_set hy with h1 | h1
  · exact h.2 y h1
  · rw [h1]; exact hr
theorem putV_ok {r : Rg} {x : Ve} (h : okR r) (hx : okV x) : okR (putV r v x) := by
  refine ⟨by rw [putV_len]; exact h.1, fun y hy => ?_⟩
  unfold putV at hy
  rcases List.mem_or_eq_of_mem_set hy with h1 | h1
  · exact h.2 y h1
  · rw [h1]; exact hx
theorem okK.ring (h : okK K) (hk : hasK K id = true) : okR (rgAt K id) := h.2 _ (rgAt_mem hk)
theorem okR.last {r : Rg} (h : okR r) : okV (lastV r) := h.2 _ (veAt_mem (by have := h.1.1; omega) (Int.le_refl _))
theorem ok_nil : okK [] := ⟨Nat.zero_le _, fun r hr => by cases hr⟩
theorem ok_new (m : Bf) : okV ⟨m, 0, false⟩ := ⟨⟨Int.le_refl 0, show (0 : Int) ≤ 16 by decide⟩, fun e => by cases e⟩
theorem crK_ok (h : okK K) (m : Bf) : okK (crK K m) := by
  unfold crK
  split
  · exact h
  · refine ⟨by rw [List.length_append]; simp; omega, fun r hr => ?_⟩
    rcases List.mem_append.1 hr with h1 | h1
    · exact h.2 r h1
    · rw [List.mem_singleton] at h1
      subst h1
      exact ⟨⟨by simp, by simp⟩, fun v hv => by rw [List.mem_singleton] at hv; subst hv; exact ok_new m⟩
theorem rtE_zero (h : rtE K id = 0) : hasK K id = true ∧ (rgAt K id).l.length < 4 := by
  unfold rtE at h
  by_cases h1 : hasK K id = true
  · rw [if_pos h1] at h
    by_cases h2 : 4 ≤ (rgAt K id).l.length
    · rw [if_pos h2] at h; omega
    · exact ⟨h1, by omega⟩
  · rw [if_neg h1] at h; omega
theorem rtK_ok (h : okK K) (m : Bf) : okK (rtK K id m) := by
  unfold rtK
  split
  · rename_i he
    obtain ⟨h1, h2⟩ := rtE_zero he
    have hr := h.ring h1
    refine putR_ok h ⟨⟨by simp, by simp; omega⟩, fun v hv => ?_⟩
    rcases List.mem_append.1 hv with h3 | h3
    · exact hr.2 v h3
    · rw [List.mem_singleton] at h3; subst h3; exact ok_new m
  · exact h
theorem swK_ok (h : okK K) (on : Bool) : okK (swK K id on) := by
  unfold swK
  split
  · rename_i h1
    have hr := h.ring h1
    exact putR_ok h ⟨hr.1, hr.2⟩
  · exact h
theorem dsE_zero (h : dsE K id v = 0) : hasV K id v = true ∧ (veAt (rgAt K id) v).g = false := by
  unfold dsE at h
  by_cases h1 : hasV K id v = true
  · rw [if_pos h1] at h
    cases hg : (veAt (rgAt K id) v).g
    · exact ⟨h1, rfl⟩
    · rw [hg, if_pos rfl] at h; omega
  · rw [if_neg h1] at h; omega
theorem dsK_ok (h : okK K) : okK (dsK K id v) := by
  unfold dsK
  split
  · rename_i he
    obtain ⟨h1, _⟩ := dsE_zero he
    obtain ⟨h2, h3, h4⟩ := hasV_iff.1 h1
    have hr := h.ring (hasK_iff.2 h2)
    exact putR_ok h (putV_ok hr ⟨(hr.2 _ (veAt_mem h3 h4)).1, fun _ _ _ => rfl⟩)
  · exact h
theorem usE_zero (h : usE K id = 0) : hasK K id = true ∧ (rgAt K id).off = false ∧ (lastV (rgAt K id)).g = false ∧ (lastV (rgAt K id)).u < 16 := by
  unfold usE at h
  by_cases h1 : hasK K id = true
  · rw [if_pos h1] at h
    cases h2 : (rgAt K id).off
    · cases h3 : (lastV (rgAt K id)).g
      · by_cases h4 : 16 ≤ (lastV (rgAt K id)).u
        · rw [h2, h3, if_neg (by decide), if_neg (by decide), if_pos h4] at h; omega
        · exact ⟨h1, rfl, rfl, by omega⟩
      · rw [h2, h3, if_neg (by decide), if_pos rfl] at h; omega
    · rw [h2, if_pos rfl] at h; omega
  · rw [if_neg h1] at h; omega
theorem usK_ok (h : okK K) : okK (usK K id) := by
  unfold usK
  split
  · rename_i he
    obtain ⟨h1, _, h3, h4⟩ := usE_zero he
    have hr := h.ring h1
    have hl := hr.last
    exact putR_ok h (putV_ok hr ⟨⟨by have := hl.1.1; show 0 ≤ (lastV (rgAt K id)).u + 1; omega, by show (lastV (rgAt K id)).u + 1 ≤ 16; omega⟩, fun e => by rw [h3] at e; cases e⟩)
  · exact h
end
end Go.Proofs.Ytabchkcieddhpaa.Oct
