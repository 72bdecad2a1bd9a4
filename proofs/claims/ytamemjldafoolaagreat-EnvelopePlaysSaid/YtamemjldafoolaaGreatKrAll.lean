import Derived.Test.YtamemjldafoolaaGreatDkB0
import Derived.Test.YtamemjldafoolaaGreatLib
import Derived.Laws.Tables
import Derived.Test.YtamemjldafoolaaGreatTySl
import Derived.Laws.StructEq
import Derived.WalkKit
import Derived.ProofKit
import Derived.OpenShut
import Derived.Outline
import Derived.Lib.Hide
import Derived.BigQuiet
import Derived.Deep.QuietTactic
import Derived.OwnWalk
import Derived.Deep.AppendSrc

/-! ## KrMath -/
/- Layer 13's model: rings of versions, and what the calls answer. Program-free. -/
namespace Go.Proofs.YtamemjldafoolaaGreat.Oct
set_option linter.unusedVariables false

/-- a version: its material, its uses, whether it is gone -/
structure Ve where
  m : Bf
  u : Int
  g : Bool
/-- a ring: whether it is off, and its versions -/
structure Rg where
  off : Bool
  l : List Ve
abbrev Ks := List Rg
def ve0 : Ve := ⟨fun _ => 0#8, 0, false⟩
def rg0 : Rg := ⟨false, []⟩
/-- the ring of a number, the version of a number -/
def rgAt (K : Ks) (id : Int) : Rg := K.getD (id - 1).toNat rg0
def veAt (r : Rg) (v : Int) : Ve := r.l.getD (v - 1).toNat ve0
def hasK (K : Ks) (id : Int) : Bool := decide (1 ≤ id) && decide (id ≤ (K.length : Int))
def hasV (K : Ks) (id v : Int) : Bool := hasK K id && (decide (1 ≤ v) && decide (v ≤ ((rgAt K id).l.length : Int)))
def putR (K : Ks) (id : Int) (r : Rg) : Ks := K.set (id - 1).toNat r
def putV (r : Rg) (v : Int) (x : Ve) : Rg := ⟨r.off, r.l.set (v - 1).toNat x⟩
/-- what may stand in a keyring -/
def okV (v : Ve) : Prop := (0 ≤ v.u ∧ v.u ≤ 16) ∧ (v.g = true → ∀ i, i < 32 → v.m i = 0#8)
def okR (r : Rg) : Prop := (1 ≤ r.l.length ∧ r.l.length ≤ 4) ∧ ∀ v ∈ r.l, okV v
def okK (K : Ks) : Prop := K.length ≤ 8 ∧ ∀ r ∈ K, okR r

/-! Create -/
def crE (K : Ks) : Int := if 8 ≤ K.length then 134 else 0
def crN (K : Ks) : Int := if 8 ≤ K.length then 0 else (K.length : Int) + 1
def crK (K : Ks) (m : Bf) : Ks := if 8 ≤ K.length then K else K ++ [⟨false, [⟨m, 0, false⟩]⟩]
/-! Rotate -/
def rtE (K : Ks) (id : Int) : Int := if hasK K id = true then (if 4 ≤ (rgAt K id).l.length then 134 else 0) else 130
def rtN (K : Ks) (id : Int) : Int := if rtE K id = 0 then ((rgAt K id).l.length : Int) + 1 else 0
def rtK (K : Ks) (id : Int) (m : Bf) : Ks := if rtE K id = 0 then putR K id ⟨(rgAt K id).off, (rgAt K id).l ++ [⟨m, 0, false⟩]⟩ else K
/-! Switch -/
def swE (K : Ks) (id : Int) : Int := if hasK K id = true then 0 else 130
def swK (K : Ks) (id : Int) (on : Bool) : Ks := if hasK K id = true then putR K id ⟨!on, (rgAt K id).l⟩ else K
/-! Destroy -/
def dsE (K : Ks) (id v : Int) : Int := if hasV K id v = true then (if (veAt (rgAt K id) v).g = true then 132 else 0) else 130
def dsK (K : Ks) (id v : Int) : Ks := if dsE K id v = 0 then putR K id (putV (rgAt K id) v ⟨fun _ => 0#8, (veAt (rgAt K id) v).u, true⟩) else K
/-! Use -/
def lastV (r : Rg) : Ve := veAt r (r.l.length : Int)
def usE (K : Ks) (id : Int) : Int :=
  if hasK K id = true then (if (rgAt K id).off = true then 131 else if (lastV (rgAt K id)).g = true then 132 else if 16 ≤ (lastV (rgAt K id)).u then 133 else 0) else 130
def usV (K : Ks) (id : Int) : Int := if usE K id = 0 then ((rgAt K id).l.length : Int) else 0
def usC (K : Ks) (id : Int) : Int := if usE K id = 0 then (lastV (rgAt K id)).u else 0
def usM (K : Ks) (id : Int) : Bf := if usE K id = 0 then (lastV (rgAt K id)).m else fun _ => 0#8
def usK (K : Ks) (id : Int) : Ks :=
  if usE K id = 0 then putR K id (putV (rgAt K id) ((rgAt K id).l.length : Int) ⟨(lastV (rgAt K id)).m, (lastV (rgAt K id)).u + 1, (lastV (rgAt K id)).g⟩) else K
/-! Material -/
def mtE (K : Ks) (id v : Int) : Int := if hasV K id v = true then (if (rgAt K id).off = true then 131 else if (veAt (rgAt K id) v).g = true then 132 else 0) else 130
def mtM (K : Ks) (id v : Int) : Bf := if mtE K id v = 0 then (veAt (rgAt K id) v).m else fun _ => 0#8

section
variable {K : Ks} {id v : Int}
theorem hasK_iff : hasK K id = true ↔ 1 ≤ id ∧ id ≤ (K.length : Int) := by unfold hasK; simp only [Bool.and_eq_true, decide_eq_true_eq]
theorem hasV_iff : hasV K id v = true ↔ (1 ≤ id ∧ id ≤ (K.length : Int)) ∧ 1 ≤ v ∧ v ≤ ((rgAt K id).l.length : Int) := by
  unfold hasV; rw [Bool.and_eq_true, hasK_iff]; simp only [Bool.and_eq_true, decide_eq_true_eq]
theorem rgAt_get (i : Nat) (h : i < K.length) (hi : (id - 1).toNat = i) : rgAt K id = K[i] := by unfold rgAt; rw [hi]; simp [h]
theorem veAt_get {r : Rg} (i : Nat) (h : i < r.l.length) (hi : (v - 1).toNat = i) : veAt r v = r.l[i] := by unfold veAt; rw [hi]; simp [h]
theorem rgAt_mem (h : hasK K id = true) : rgAt K id ∈ K := by
  obtain ⟨h1, h2⟩ := hasK_iff.1 h
  rw [rgAt_get (id - 1).toNat (by omega) rfl]
  exact List.getElem_mem _
theorem veAt_mem {r : Rg} (h1 : 1 ≤ v) (h2 : v ≤ (r.l.length : Int)) : veAt r v ∈ r.l := by
  rw [veAt_get (v - 1).toNat (by omega) rfl]
  exact List.getElem_mem _
theorem putR_len (r : Rg) : (putR K id r).length = K.length := by unfold putR; rw [List.length_set]
theorem putV_len {r : Rg} (x : Ve) : (putV r v x).l.length = r.l.length := by unfold putV; rw [List.length_set]
theorem putR_ok {r : Rg} (h : okK K) (hr : okR r) : okK (putR K id r) := by
  refine ⟨by rw [putR_len]; exact h.1, fun y hy => ?_⟩
  unfold putR at hy
  rcases List.mem_or_eq_of_mem_set hy with h1 | h1
  · exact h.2 y h1
  · rw [h1]; exact hr
theorem putV_ok {r : Rg} {x : Ve} (h : okR r) (hx : okV x) : okR (putV r v x) := by
  refine ⟨by rw [putV_len]; exact h.1, fun y hy => ?_⟩
  unfold putV at hy
  rcases List.mem_or_eq_of_mem_set hy with h1 | h1
  · exact h.2 y h1
  · rw [h1]; exact hx
theorem okK.ring (h : okK K) (hk : hasK K id = true) : okR (rgAt K id) := h.2 _ (rgAt_mem hk)
theorem okR.last {r : Rg} (h : okR r) : okV (lastV r) := h.2 _ (veAt_mem (by have := h.1.1; omega) (Int.le_refl _))
theorem ok_nil : okK [] := ⟨Nat.zero_le _, fun r hr => by cases hr⟩
theorem ok_new (m : Bf) : okV ⟨m, 0, false⟩ := ⟨⟨Int.le_refl 0, show (0 : Int) ≤ 16 by decide⟩, fun e => by cases e⟩
theorem crK_ok (h : okK K) (m : Bf) : okK (crK K m) := by
  unfold crK
  split
  · exact h
  · refine ⟨by rw [List.length_append]; simp; omega, fun r hr => ?_⟩
    rcases List.mem_append.1 hr with h1 | h1
    · exact h.2 r h1
    · rw [List.mem_singleton] at h1
      subst h1
      exact ⟨⟨by simp, by simp⟩, fun v hv => by rw [List.mem_singleton] at hv; subst hv; exact ok_new m⟩
theorem rtE_zero (h : rtE K id = 0) : hasK K id = true ∧ (rgAt K id).l.length < 4 := by
  unfold rtE at h
  by_cases h1 : hasK K id = true
  · rw [if_pos h1] at h
    by_cases h2 : 4 ≤ (rgAt K id).l.length
    · rw [if_pos h2] at h; omega
    · exact ⟨h1, by omega⟩
  · rw [if_neg h1] at h; omega
theorem rtK_ok (h : okK K) (m : Bf) : okK (rtK K id m) := by
  unfold rtK
  split
  · rename_i he
    obtain ⟨h1, h2⟩ := rtE_zero he
    have hr := h.ring h1
    refine putR_ok h ⟨⟨by simp, by simp; omega⟩, fun v hv => ?_⟩
    rcases List.mem_append.1 hv with h3 | h3
    · exact hr.2 v h3
    · rw [List.mem_singleton] at h3; subst h3; exact ok_new m
  · exact h
theorem swK_ok (h : okK K) (on : Bool) : okK (swK K id on) := by
  unfold swK
  split
  · rename_i h1
    have hr := h.ring h1
    exact putR_ok h ⟨hr.1, hr.2⟩
  · exact h
theorem dsE_zero (h : dsE K id v = 0) : hasV K id v = true ∧ (veAt (rgAt K id) v).g = false := by
  unfold dsE at h
  by_cases h1 : hasV K id v = true
  · rw [if_pos h1] at h
    cases hg : (veAt (rgAt K id) v).g
    · exact ⟨h1, rfl⟩
    · rw [hg, if_pos rfl] at h; omega
  · rw [if_neg h1] at h; omega
theorem dsK_ok (h : okK K) : okK (dsK K id v) := by
  unfold dsK
  split
  · rename_i he
    obtain ⟨h1, _⟩ := dsE_zero he
    obtain ⟨h2, h3, h4⟩ := hasV_iff.1 h1
    have hr := h.ring (hasK_iff.2 h2)
    exact putR_ok h (putV_ok hr ⟨(hr.2 _ (veAt_mem h3 h4)).1, fun _ _ _ => rfl⟩)
  · exact h
theorem usE_zero (h : usE K id = 0) : hasK K id = true ∧ (rgAt K id).off = false ∧ (lastV (rgAt K id)).g = false ∧ (lastV (rgAt K id)).u < 16 := by
  unfold usE at h
  by_cases h1 : hasK K id = true
  · rw [if_pos h1] at h
    cases h2 : (rgAt K id).off
    · cases h3 : (lastV (rgAt K id)).g
      · by_cases h4 : 16 ≤ (lastV (rgAt K id)).u
        · rw [h2, h3, if_neg (by decide), if_neg (by decide), if_pos h4] at h; omega
        · exact ⟨h1, rfl, rfl, by omega⟩
      · rw [h2, h3, if_neg (by decide), if_pos rfl] at h; omega
    · rw [h2, if_pos rfl] at h; omega
  · rw [if_neg h1] at h; omega
theorem usK_ok (h : okK K) : okK (usK K id) := by
  unfold usK
  split
  · rename_i he
    obtain ⟨h1, _, h3, h4⟩ := usE_zero he
    have hr := h.ring h1
    have hl := hr.last
    exact putR_ok h (putV_ok hr ⟨⟨by have := hl.1.1; show 0 ≤ (lastV (rgAt K id)).u + 1; omega, by show (lastV (rgAt K id)).u + 1 ≤ 16; omega⟩, fun e => by rw [h3] at e; cases e⟩)
  · exact h
end
end Go.Proofs.YtamemjldafoolaaGreat.Oct

/-! ## KrT -/
/- Rows of versions and of rings: owned, by marks, and read. Of whatever program. -/
namespace Go.Proofs.YtamemjldafoolaaGreat.Oct
open Go.RowKit
set_option linter.unusedVariables false

/-- a version's cells -/
@[irreducible] def veC (v : Ve) : List Value := (ba 32 v.m).toList ++ [.int .i64 v.u, .bool v.g]
section
variable (v : Ve)
theorem veC_len : (veC v).length = 34 := by unfold veC; simp [ba_size]
theorem veC_m (i : Nat) (h : i < 32) : (veC v)[i]? = some (.int .u8 (I (v.m i))) := by
  unfold veC
  rw [List.getElem?_append_left (by rw [Array.length_toList, ba_size]; exact h), Array.getElem?_toList, ba_get _ _ _ h]
theorem veC_u : (veC v)[32]? = some (.int .i64 v.u) := by
  unfold veC
  rw [List.getElem?_append_right (by rw [Array.length_toList, ba_size]; omega), Array.length_toList, ba_size]; rfl
theorem veC_g : (veC v)[33]? = some (.bool v.g) := by
  unfold veC
  rw [List.getElem?_append_right (by rw [Array.length_toList, ba_size]; omega), Array.length_toList, ba_size]; rfl
theorem veC_one : ∀ x ∈ veC v, x.oneCell' = true := by
  intro x hx
  obtain ⟨i, hi, e⟩ := List.mem_iff_getElem.1 hx
  rw [veC_len] at hi
  have e2 : (veC v)[i]? = some x := by rw [List.getElem?_eq_getElem (by rw [veC_len]; exact hi), e]
  by_cases h1 : i < 32
  · rw [veC_m v i h1] at e2; cases e2; rfl
  · by_cases h2 : i = 32
    · subst h2; rw [veC_u] at e2; cases e2; rfl
    · obtain rfl : i = 33 := by omega
      rw [veC_g] at e2; cases e2; rfl
end
theorem veC_setU (v : Ve) (u : Int) : (veC v).set 32 (.int .i64 u) = veC ⟨v.m, u, v.g⟩ := by
  unfold veC
  rw [List.set_append_right _ _ (by rw [Array.length_toList, ba_size]; omega), Array.length_toList, ba_size]; rfl
theorem veC_setG (v : Ve) (g : Bool) : (veC v).set 33 (.bool g) = veC ⟨v.m, v.u, g⟩ := by
  unfold veC
  rw [List.set_append_right _ _ (by rw [Array.length_toList, ba_size]; omega), Array.length_toList, ba_size]; rfl
/-- the cells of a row of them -/
def vsC (l : List Ve) : List Value := l.flatMap veC
theorem vsC_len (l : List Ve) : (vsC l).length = l.length * 34 := by
  unfold vsC
  induction l with
  | nil => rfl
  | cons x l ih => rw [List.flatMap_cons, List.length_append, veC_len, ih, List.length_cons]; omega
theorem vsC_app (l m : List Ve) : vsC (l ++ m) = vsC l ++ vsC m := by unfold vsC; rw [List.flatMap_append]
theorem vsC_one1 (x : Ve) : vsC [x] = veC x := by unfold vsC; simp
theorem vsC_get (l : List Ve) : ∀ (i j : Nat) (h : i < l.length), j < 34 → (vsC l)[i * 34 + j]? = (veC l[i])[j]? := by
  induction l with
  | nil => intro i j h; exact absurd h (by simp)
  | cons x l ih =>
    intro i j h hj
    have e : vsC (x :: l) = veC x ++ vsC l := by unfold vsC; rw [List.flatMap_cons]
    rw [e]
    cases i with
    | zero => rw [List.getElem?_append_left (by rw [veC_len]; omega)]; simp
    | succ i =>
      rw [List.getElem?_append_right (by rw [veC_len]; omega), veC_len, show (i + 1) * 34 + j - 34 = i * 34 + j by omega, ih i j (by simpa using h) hj]
      rfl
theorem vsC_one (l : List Ve) : ∀ x ∈ vsC l, x.oneCell' = true := by
  intro x hx
  unfold vsC at hx
  obtain ⟨v, _, h⟩ := List.mem_flatMap.1 hx
  exact veC_one v x h
/-- a cell of one of them laid -/
theorem vsC_set (l : List Ve) (i j : Nat) (h : i < l.length) (hj : j < 34) (u : Value) (x : Ve) (hx : (veC l[i]).set j u = veC x) : (vsC l).set (i * 34 + j) u = vsC (l.set i x) := by
  induction l generalizing i with
  | nil => exact absurd h (by simp)
  | cons y l ih =>
    have e : ∀ (y : Ve) l, vsC (y :: l) = veC y ++ vsC l := fun y l => by unfold vsC; rw [List.flatMap_cons]
    cases i with
    | zero =>
      rw [List.set_cons_zero, e, e, List.set_append_left _ _ (by rw [veC_len]; omega), Nat.zero_mul, Nat.zero_add]
      rw [show (veC y).set j u = veC x from hx]
    | succ i =>
      rw [List.set_cons_succ, e, e, List.set_append_right _ _ (by rw [veC_len]; omega), veC_len, show (i + 1) * 34 + j - 34 = i * 34 + j by omega, ih i (by simpa using h) (by simpa using hx)]
/-- owned: a row of versions in a block of mark t -/
structure VsAt (T : Mk) (w : World) (t : Nat) (e : TypeId) (v : Value) (l : List Ve) : Prop where
  own : w.ownsRow 0 e 34 v l.length (vsC l)
  tg : ∀ g, v.ownBlock = some g → T g = t
section
variable {T T' T2 : Mk} {H : Nat → Prop} {w w' : World} {t : Nat} {e : TypeId} {v : Value} {l : List Ve}
theorem ownsRow_fr {n k : Nat} {xs : List Value} (h : w.ownsRow 0 e k v n xs) (tg : ∀ g, v.ownBlock = some g → T g = t) (hf : Fr T T' H w w') (ht : ¬ H t) : w'.ownsRow 0 e k v n xs := by
  refine ⟨h.1, ?_⟩
  rcases h.2 with hn | ⟨g, cap, cur, rfl, hb, hg, rest⟩
  · exact .inl hn
  · exact .inr ⟨g, cap, cur, rfl, hb, by rw [hf.keep g (Array.getElem?_eq_some_iff.1 hg).1 (by rw [tg g rfl]; exact ht)]; exact hg, rest⟩
theorem tg_fr {n k : Nat} {xs : List Value} (h : w.ownsRow 0 e k v n xs) (tg : ∀ g, v.ownBlock = some g → T g = t) (hf : Fr T T' H w w') : ∀ g, v.ownBlock = some g → T' g = t :=
  fun g hg => by rw [hf.tag g (World.ownsRow.lt h g hg).2]; exact tg g hg
theorem VsAt.fr (h : VsAt T w t e v l) (hf : Fr T T' H w w') (ht : ¬ H t) : VsAt T' w' t e v l := ⟨ownsRow_fr h.own h.tg hf ht, tg_fr h.own h.tg hf⟩
theorem VsAt.nil : VsAt T w t e (.slice none 0 0) [] := ⟨World.ownsRow_nil _ _ _ _, fun g hg => by cases hg⟩
/-- its form -/
theorem VsAt.form (h : VsAt T w t e v l) : ∃ A c, v = .slice A l.length c ∧ l.length ≤ c ∧ c ≤ maxLen ∧ (0 < l.length → ∃ g cur, A = some ⟨g, 0, none⟩ ∧ T g = t ∧ Oct.row w g = some cur ∧ w.heap[g]? = some (.cells cur e (0, 0)) ∧ cur.size = c * 34 ∧ ∀ i j (hi : i < l.length), j < 34 → cur[i * 34 + j]? = (veC l[i])[j]?) := by
  rcases h.own.2 with ⟨rfl, h0⟩ | ⟨g, cap, cur, rfl, hb, hg, hc, hm, hcs, htk⟩
  · obtain rfl := List.length_eq_zero_iff.1 h0
    exact ⟨none, 0, rfl, Nat.le_refl _, Nat.zero_le _, fun hn => absurd hn (by omega)⟩
  · refine ⟨some ⟨g, 0, none⟩, cap, rfl, hc, hm, fun hn => ⟨g, cur, rfl, h.tg g rfl, row_of hg, hg, hcs, fun i j hi hj => ?_⟩⟩
    rw [← vsC_get l i j hi hj, ← htk, List.getElem?_take, if_pos (by omega), Array.getElem?_toList]
/-- a cell of one of them stored -/
theorem VsAt.set {g c i j : Nat} {u : Value} {x : Ve} (h : VsAt T w t e (.slice (some ⟨g, 0, none⟩) l.length c) l) (hi : i < l.length) (hj : j < 34) (hx : (veC l[i]).set j u = veC x) :
    VsAt T (w.setCell ⟨g, i * 34 + j, none⟩ u) t e (.slice (some ⟨g, 0, none⟩) l.length c) (l.set i x) := by
  refine ⟨?_, h.tg⟩
  have := (World.ownsRow.stored (w := w) h.own (i * 34 + j) u).1
  rw [vsC_set l i j hi hj u x hx] at this
  rw [List.length_set]
  exact this
/-- behind an append -/
theorem VsAt.app {m : List Ve} {v' : Value} (h : VsAt T w t e v l) (h1 : w'.ownsRow 0 e 34 v' (l.length + m.length) (vsC l ++ vsC m)) (h2 : w.grownBy w' v.ownBlock) (h3 : v'.ownBlock = v.ownBlock ∨ v'.ownBlock = some w.heap.size) :
    VsAt (paint T w.heap.size t) w' t e v' (l ++ m) := by
  refine ⟨by rw [List.length_append, vsC_app]; exact h1, fun g hg => ?_⟩
  rcases h3 with e' | e'
  · rw [e'] at hg
    rw [paint_old (World.ownsRow.lt h.own g hg).2]
    exact h.tg g hg
  · rw [e'] at hg
    cases hg
    exact paint_new (Nat.le_refl _)
end
/-- read: versions -/
structure VRd (w : World) (v : Value) (l : List Ve) : Prop where
  at_ : ∃ A c, v = .slice A l.length c ∧ l.length ≤ c ∧ c ≤ maxLen ∧ (A = none → c = 0) ∧ (0 < l.length → ∃ g o, A = some ⟨g, o, none⟩ ∧ g < w.heap.size ∧ ∀ i j (hi : i < l.length), j < 34 → w.cell? ⟨g, o + i * 34 + j, none⟩ = (veC l[i])[j]?)
/-- read: rings -/
structure RRd (w : World) (v : Value) (K : Ks) : Prop where
  at_ : ∃ A c, v = .slice A K.length c ∧ K.length ≤ c ∧ c ≤ maxLen ∧ (0 < K.length → ∃ g o, A = some ⟨g, o, none⟩ ∧ g < w.heap.size ∧ ∀ i (hi : i < K.length), w.cell? ⟨g, o + i * 2, none⟩ = some (.bool K[i].off) ∧ ∃ vi, w.cell? ⟨g, o + i * 2 + 1, none⟩ = some vi ∧ VRd w vi K[i].l)
theorem VRd.below {w w' : World} {v : Value} {l : List Ve} (h : VRd w v l) (hb : Below w.heap.size w w') : VRd w' v l := by
  obtain ⟨A, c, e, h1, h2, h4, h3⟩ := h.at_
  refine ⟨A, c, e, h1, h2, h4, fun hn => ?_⟩
  obtain ⟨g, o, e2, hg, hc⟩ := h3 hn
  refine ⟨g, o, e2, Nat.lt_of_lt_of_le hg hb.size, fun i j hi hj => ?_⟩
  rw [World.cell?_of_block (w := w) (hb.block g hg)]
  exact hc i j hi hj
theorem RRd.below {w w' : World} {v : Value} {K : Ks} (h : RRd w v K) (hb : Below w.heap.size w w') : RRd w' v K := by
  obtain ⟨A, c, e, h1, h2, h3⟩ := h.at_
  refine ⟨A, c, e, h1, h2, fun hn => ?_⟩
  obtain ⟨g, o, e2, hg, hc⟩ := h3 hn
  refine ⟨g, o, e2, Nat.lt_of_lt_of_le hg hb.size, fun i hi => ?_⟩
  obtain ⟨h4, vi, h5, h6⟩ := hc i hi
  exact ⟨by rw [World.cell?_of_block (w := w) (hb.block g hg)]; exact h4, vi, by rw [World.cell?_of_block (w := w) (hb.block g hg)]; exact h5, h6.below hb⟩
/-- owned: rings: the mark t, and their versions' t + 1 on -/
structure RsAt (T : Mk) (w : World) (t : Nat) (eR eV : TypeId) (v : Value) (K : Ks) : Prop where
  own : ∃ xs, w.ownsRow 0 eR 2 v K.length xs ∧ ∀ i (h : i < K.length), xs[i * 2]? = some (.bool K[i].off) ∧ ∃ vi, xs[i * 2 + 1]? = some vi ∧ VsAt T w (t + 1 + i) eV vi K[i].l
  tg : ∀ g, v.ownBlock = some g → T g = t
section
variable {T T' : Mk} {H : Nat → Prop} {w w' : World} {t : Nat} {eR eV : TypeId} {v : Value} {K : Ks}
theorem RsAt.nil : RsAt T w t eR eV (.slice none 0 0) [] := ⟨⟨[], World.ownsRow_nil _ _ _ _, fun i hi => absurd hi (by simp)⟩, fun g hg => by cases hg⟩
theorem RsAt.fr (h : RsAt T w t eR eV v K) (hf : Fr T T' H w w') (hn : ∀ c, t ≤ c → c ≤ t + K.length → ¬ H c) : RsAt T' w' t eR eV v K := by
  obtain ⟨xs, h1, h2⟩ := h.own
  refine ⟨⟨xs, ownsRow_fr h1 h.tg hf (hn t (Nat.le_refl _) (by omega)), fun i hi => ?_⟩, tg_fr h1 h.tg hf⟩
  obtain ⟨h3, vi, h4, h5⟩ := h2 i hi
  exact ⟨h3, vi, h4, h5.fr hf (hn _ (by omega) (by omega))⟩
theorem VsAt.rd {e : TypeId} {l : List Ve} (h : VsAt T w t e v l) : VRd w v l := by
  obtain ⟨A, c, e1, h1, h2, h3⟩ := h.form
  refine ⟨A, c, e1, h1, h2, fun hA => ?_, fun hn => ?_⟩
  · rcases h.own.2 with ⟨e2, h0⟩ | ⟨g, cap, cur, e2, _⟩
    · rw [e1] at e2; simp only [Value.slice.injEq] at e2; exact e2.2.2
    · rw [e1, hA] at e2; simp at e2
  · obtain ⟨g, cur, e2, _, hr, hh, hs, hc⟩ := h3 hn
    refine ⟨g, 0, e2, row_lt hr, fun i j hi hj => ?_⟩
    rw [Nat.zero_add, cell_row hr]
    exact hc i j hi hj
/-- its form -/
theorem RsAt.form (h : RsAt T w t eR eV v K) : ∃ A c, v = .slice A K.length c ∧ K.length ≤ c ∧ c ≤ maxLen ∧ (0 < K.length → ∃ g cur, A = some ⟨g, 0, none⟩ ∧ T g = t ∧ Oct.row w g = some cur ∧ w.heap[g]? = some (.cells cur eR (0, 0)) ∧ cur.size = c * 2 ∧
    ∀ i (hi : i < K.length), cur[i * 2]? = some (.bool K[i].off) ∧ ∃ vi, cur[i * 2 + 1]? = some vi ∧ VsAt T w (t + 1 + i) eV vi K[i].l) := by
  obtain ⟨xs, h1, h2⟩ := h.own
  rcases h1.2 with ⟨rfl, h0⟩ | ⟨g, cap, cur, rfl, hb, hg, hc, hm, hcs, htk⟩
  · obtain rfl := List.length_eq_zero_iff.1 h0
    exact ⟨none, 0, rfl, Nat.le_refl _, Nat.zero_le _, fun hn => absurd hn (by omega)⟩
  · refine ⟨some ⟨g, 0, none⟩, cap, rfl, hc, hm, fun hn => ⟨g, cur, rfl, h.tg g rfl, row_of hg, hg, hcs, fun i hi => ?_⟩⟩
    obtain ⟨h3, vi, h4, h5⟩ := h2 i hi
    have e : ∀ j, j < K.length * 2 → cur[j]? = xs[j]? := fun j hj => by rw [← htk, List.getElem?_take, if_pos hj, Array.getElem?_toList]
    exact ⟨by rw [e _ (by omega)]; exact h3, vi, by rw [e _ (by omega)]; exact h4, h5⟩
theorem RsAt.rd (h : RsAt T w t eR eV v K) : RRd w v K := by
  obtain ⟨A, c, e1, h1, h2, h3⟩ := h.form
  refine ⟨A, c, e1, h1, h2, fun hn => ?_⟩
  obtain ⟨g, cur, e2, _, hr, _, _, hc⟩ := h3 hn
  refine ⟨g, 0, e2, row_lt hr, fun i hi => ?_⟩
  obtain ⟨h4, vi, h5, h6⟩ := hc i hi
  exact ⟨by rw [Nat.zero_add, cell_row hr]; exact h4, vi, by rw [Nat.zero_add, cell_row hr]; exact h5, h6.rd⟩
/-- one ring more -/
theorem RsAt.app {r : Rg} {vi : Value} {v' : Value} {xs : List Value} (h : RsAt T w t eR eV v K) (hxs : w.ownsRow 0 eR 2 v K.length xs)
    (hel : ∀ i (h : i < K.length), xs[i * 2]? = some (.bool K[i].off) ∧ ∃ vi, xs[i * 2 + 1]? = some vi ∧ VsAt T w (t + 1 + i) eV vi K[i].l)
    (h1 : w'.ownsRow 0 eR 2 v' (K.length + 1) (xs ++ [.bool r.off, vi])) (h2 : w.grownBy w' v.ownBlock) (h3 : v'.ownBlock = v.ownBlock ∨ v'.ownBlock = some w.heap.size)
    (hv : VsAt T w (t + 1 + K.length) eV vi r.l) : RsAt (paint T w.heap.size t) w' t eR eV v' (K ++ [r]) := by
  have hf : Fr T (paint T w.heap.size t) (fun c => c = t) w w' := Fr.grown h2 (fun g hg => h.tg g hg) t
  have hl := hxs.1
  refine ⟨⟨_, by rw [List.length_append]; exact h1, fun i hi => ?_⟩, fun g hg => ?_⟩
  · by_cases hlt : i < K.length
    · obtain ⟨h4, wi, h5, h6⟩ := hel i hlt
      rw [List.getElem_append_left hlt]
      exact ⟨by rw [List.getElem?_append_left (by omega)]; exact h4, wi, by rw [List.getElem?_append_left (by omega)]; exact h5, h6.fr hf (by omega)⟩
    · obtain rfl : i = K.length := by simp at hi; omega
      rw [List.getElem_append_right (Nat.le_refl _)]
      refine ⟨by rw [List.getElem?_append_right (by omega), hl, Nat.sub_self]; simp, vi, by rw [List.getElem?_append_right (by omega), hl, Nat.add_sub_cancel_left]; rfl, ?_⟩
      simpa using hv.fr hf (by omega)
  · rcases h3 with e | e
    · rw [e] at hg
      rw [paint_old (World.ownsRow.lt hxs g hg).2]
      exact h.tg g hg
    · rw [e] at hg
      cases hg
      exact paint_new (Nat.le_refl _)
/-- a ring's versions changed, its slice as it was -/
theorem RsAt.inner {i : Nat} (hi : i < K.length) {l' : List Ve} (h : RsAt T w t eR eV v K) (hf : Fr T T' H w w') (hH : ∀ c, H c → c = t + 1 + i) (hv : ∀ vi, VsAt T w (t + 1 + i) eV vi K[i].l → VsAt T' w' (t + 1 + i) eV vi l') (hlen : l'.length = K[i].l.length) :
    RsAt T' w' t eR eV v (K.set i ⟨K[i].off, l'⟩) := by
  obtain ⟨xs, h1, h2⟩ := h.own
  refine ⟨⟨xs, by rw [List.length_set]; exact ownsRow_fr h1 h.tg hf (fun e => by have := hH _ e; omega), fun j hj => ?_⟩, tg_fr h1 h.tg hf⟩
  rw [List.length_set] at hj
  obtain ⟨h3, vj, h4, h5⟩ := h2 j hj
  by_cases hji : j = i
  · subst hji
    rw [List.getElem_set_self]
    exact ⟨h3, vj, h4, hv vj h5⟩
  · rw [List.getElem_set_ne (fun e => hji e.symm)]
    exact ⟨h3, vj, h4, h5.fr hf (fun e => by have := hH _ e; omega)⟩
/-- a cell of the rings' row stored -/
theorem RsAt.setOff {g c i : Nat} (h : RsAt T w t eR eV (.slice (some ⟨g, 0, none⟩) K.length c) K) (hi : i < K.length) (b : Bool) :
    RsAt T (w.setCell ⟨g, i * 2, none⟩ (.bool b)) t eR eV (.slice (some ⟨g, 0, none⟩) K.length c) (K.set i ⟨b, K[i].l⟩) := by
  obtain ⟨xs, h1, h2⟩ := h.own
  have hf : Fr T T (fun c => c = t) w (w.setCell ⟨g, i * 2, none⟩ (.bool b)) := Fr.cell (h.tg g rfl) _
  refine ⟨⟨xs.set (i * 2) (.bool b), by rw [List.length_set]; exact (World.ownsRow.stored (w := w) h1 (i * 2) _).1, fun j hj => ?_⟩, h.tg⟩
  rw [List.length_set] at hj
  obtain ⟨h3, vj, h4, h5⟩ := h2 j hj
  have hl := h1.1
  by_cases hji : j = i
  · subst hji
    rw [List.getElem_set_self]
    exact ⟨by rw [List.getElem?_set_self (by omega)], vj, by rw [List.getElem?_set_ne (by omega)]; exact h4, h5.fr hf (by omega)⟩
  · rw [List.getElem_set_ne (fun e => hji e.symm)]
    exact ⟨by rw [List.getElem?_set_ne (by omega)]; exact h3, vj, by rw [List.getElem?_set_ne (by omega)]; exact h4, h5.fr hf (by omega)⟩
/-- a ring's slice stored: other versions, that are there -/
theorem RsAt.setL {g c i : Nat} {vi : Value} {l' : List Ve} (h : RsAt T w t eR eV (.slice (some ⟨g, 0, none⟩) K.length c) K) (hi : i < K.length) (hf : Fr T T' (fun c => c = t + 1 + i) w w') (hv : VsAt T' w' (t + 1 + i) eV vi l') :
    RsAt T' (w'.setCell ⟨g, i * 2 + 1, none⟩ vi) t eR eV (.slice (some ⟨g, 0, none⟩) K.length c) (K.set i ⟨K[i].off, l'⟩) := by
  obtain ⟨xs, h1, h2⟩ := h.own
  have h1' := ownsRow_fr h1 h.tg hf (by omega)
  have ht' := tg_fr h1 h.tg hf
  have hf2 : Fr T' T' (fun c => c = t) w' (w'.setCell ⟨g, i * 2 + 1, none⟩ vi) := Fr.cell (ht' g rfl) _
  refine ⟨⟨xs.set (i * 2 + 1) vi, by rw [List.length_set]; exact (World.ownsRow.stored (w := w') h1' (i * 2 + 1) _).1, fun j hj => ?_⟩, ht'⟩
  rw [List.length_set] at hj
  obtain ⟨h3, vj, h4, h5⟩ := h2 j hj
  have hl := h1.1
  by_cases hji : j = i
  · subst hji
    rw [List.getElem_set_self]
    exact ⟨by rw [List.getElem?_set_ne (by omega)]; exact h3, vi, by rw [List.getElem?_set_self (by omega)], hv.fr hf2 (by omega)⟩
  · rw [List.getElem_set_ne (fun e => hji e.symm)]
    exact ⟨by rw [List.getElem?_set_ne (by omega)]; exact h3, vj, by rw [List.getElem?_set_ne (by omega)]; exact h4, (h5.fr hf (by omega)).fr hf2 (by omega)⟩
end
/-- a keyring in block B: the mark t; its rings' t + 1, their versions' t + 2 to t + 9 -/
structure KAt (T : Mk) (w : World) (t : Nat) (eR eV : TypeId) (B : Nat) (K : Ks) : Prop where
  tg : T B = t
  row : ∃ v, Oct.row w B = some #[v] ∧ RsAt T w (t + 1) eR eV v K
  ok : okK K
/-- the marks of one keyring -/
def Hk (t : Nat) : Nat → Prop := fun c => t ≤ c ∧ c ≤ t + 9
theorem KAt.fr {T T' : Mk} {H : Nat → Prop} {w w' : World} {t B : Nat} {eR eV : TypeId} {K : Ks} (h : KAt T w t eR eV B K) (hf : Fr T T' H w w') (hn : ∀ c, Hk t c → ¬ H c) : KAt T' w' t eR eV B K := by
  obtain ⟨v, hr, h2⟩ := h.row
  have hl := h.ok.1
  exact ⟨by rw [hf.tag B (row_lt hr)]; exact h.tg, ⟨v, hf.rowAt hr (by rw [h.tg]; exact hn t ⟨by omega, by omega⟩), h2.fr hf fun c h3 h4 => hn c ⟨by omega, by omega⟩⟩, h.ok⟩
end Go.Proofs.YtamemjldafoolaaGreat.Oct

/-! ## KrU -/
/- A version of a row: its cells as they are read; its material stored. Of whatever program. -/
namespace Go.Proofs.YtamemjldafoolaaGreat.Oct
open Go.RowKit
set_option linter.unusedVariables false

theorem spl_sizeK : ∀ (vs : List Value) (o : Nat) (c : Array Value), (spl c o vs).size = c.size
  | [], _, _ => rfl
  | v :: r, o, c => by simp only [spl]; rw [spl_sizeK r]; simp
section
variable {T T' T2 : Mk} {H : Nat → Prop} {w w' : World} {t : Nat} {e : TypeId} {v : Value} {l : List Ve}
/-- versions, one at least, taken apart -/
theorem VsAt.open_ (h : VsAt T w t e v l) (hn : 0 < l.length) : ∃ g c cur, v = .slice (some ⟨g, 0, none⟩) l.length c ∧ l.length ≤ c ∧ c ≤ maxLen ∧ T g = t ∧ Oct.row w g = some cur ∧ (∀ j, w.frozen? ⟨g, j, none⟩ = false) ∧
    ∀ k (hk : k < l.length), (∀ j, j < 34 → w.cell? ⟨g, k * 34 + j, none⟩ = (veC l[k])[j]?) ∧ w.cell? ⟨g, k * 34 + 32, none⟩ = some (.int .i64 l[k].u) ∧ w.cell? ⟨g, k * 34 + 33, none⟩ = some (.bool l[k].g) := by
  obtain ⟨A, c, rfl, h1, h2, h3⟩ := h.form
  obtain ⟨g, cur, rfl, hg, hr, hh, hs, hc⟩ := h3 hn
  refine ⟨g, c, cur, rfl, h1, h2, hg, hr, fun j => froz_row hr j, fun k hk => ?_⟩
  have hcell : ∀ j, j < 34 → w.cell? ⟨g, k * 34 + j, none⟩ = (veC l[k])[j]? := fun j hj => by rw [cell_row hr]; exact hc k j hk hj
  exact ⟨hcell, by rw [hcell 32 (by omega), veC_u], by rw [hcell 33 (by omega), veC_g]⟩
/-- its material stored -/
theorem VsAt.setMat_ {g c i : Nat} {f : Bf} {cur : Array Value} (h : VsAt T w t e (.slice (some ⟨g, 0, none⟩) l.length c) l) (hi : i < l.length) (hr : Oct.row w g = some cur) :
    (∀ (P : Program) (t' : Nat), stR P t' 32 w g (i * 34) (.agg (ba 32 f)) (some cur) = .ok () (w.setRow g (spl cur (i * 34) (ba 32 f).toList))) ∧
    VsAt T (w.setRow g (spl cur (i * 34) (ba 32 f).toList)) t e (.slice (some ⟨g, 0, none⟩) l.length c) (l.set i ⟨f, l[i].u, l[i].g⟩) := by
  rcases h.own.2 with ⟨h0, _⟩ | ⟨g', cap, cur', e1, hb, hg, hc, hm, hcs, htk⟩
  · cases h0
  · simp only [Value.slice.injEq, Option.some.injEq, Addr.mk.injEq] at e1
    obtain ⟨⟨rfl, -⟩, -, rfl⟩ := e1
    obtain rfl : cur' = cur := by have := row_of hg; rw [hr] at this; exact (Option.some.inj this).symm
    have hfit : i * 34 + 32 ≤ cur'.size := by rw [hcs]; omega
    have hlen : (ba 32 f).toList.length = 32 := by rw [Array.length_toList, ba_size]
    constructor
    · intro P t'
      unfold stR
      have e : i * 34 + 32 ≤ cur'.size ∧ (Value.agg (ba 32 f)).cells.size = 32 ∧ Ones (Value.agg (ba 32 f)).cells := ⟨hfit, ba_size _ _, ones_ba _ _⟩
      simp only [if_pos e]
      rfl
    · have hsz : (spl cur' (i * 34) (ba 32 f).toList).size = cur'.size := spl_sizeK _ _ _
      refine ⟨⟨by rw [vsC_len], .inr ⟨g, c, _, by rw [List.length_set], hb, setRow_heap w g _ _ _ _ hg, by rw [List.length_set]; exact hc, hm, by rw [hsz]; exact hcs, ?_⟩⟩, h.tg⟩
      apply List.ext_getElem?
      intro q
      rw [List.getElem?_take]
      by_cases hq : q < (l.set i ⟨f, l[i].u, l[i].g⟩).length * 34
      · rw [if_pos hq, Array.getElem?_toList, spl_get _ _ _ _ (by rw [hlen]; exact hfit), hlen]
        rw [List.length_set] at hq
        have hk : q / 34 < l.length := by omega
        have hq2 : q = q / 34 * 34 + q % 34 := by omega
        have hj : q % 34 < 34 := by omega
        have h1 := vsC_get l (q / 34) (q % 34) hk hj
        have h2 := vsC_get (l.set i ⟨f, l[i].u, l[i].g⟩) (q / 34) (q % 34) (by rw [List.length_set]; exact hk) hj
        rw [← hq2] at h1 h2
        rw [h2]
        have h3 : cur'[q]? = (vsC l)[q]? := by rw [← htk, List.getElem?_take, if_pos (by omega), Array.getElem?_toList]
        by_cases hki : q / 34 = i
        · have e2 : (l.set i ⟨f, l[i].u, l[i].g⟩)[q / 34]'(by rw [List.length_set]; exact hk) = ⟨f, l[i].u, l[i].g⟩ := by simp [hki]
          rw [e2]
          by_cases hj2 : q % 34 < 32
          · rw [if_pos (by omega), Array.getElem?_toList, show q - i * 34 = q % 34 by omega, ba_get _ _ _ hj2, veC_m _ _ hj2]
          · rw [if_neg (by omega), h3, h1]
            have e3 : l[q / 34] = l[i] := by simp [hki]
            rw [e3]
            by_cases hj3 : q % 34 = 32
            · rw [hj3, veC_u, veC_u]
            · rw [show q % 34 = 33 by omega, veC_g, veC_g]
        · rw [if_neg (by omega), h3, h1]
          congr 2
          exact (List.getElem_set_ne (fun e => hki e.symm) _).symm
      · rw [if_neg hq, List.getElem?_eq_none (by rw [vsC_len]; omega)]
/-- the same, in other words -/
theorem VsAt.setMat {g n c i : Nat} {f : Bf} {cur : Array Value} {x : Ve} (h : VsAt T w t e v l) (hv : v = .slice (some ⟨g, 0, none⟩) n c) (hx : l[i]? = some x) (hr : Oct.row w g = some cur) :
    (∀ (P : Program) (t' : Nat), stR P t' 32 w g (i * 34) (.agg (ba 32 f)) (some cur) = .ok () (w.setRow g (spl cur (i * 34) (ba 32 f).toList))) ∧
    VsAt T (w.setRow g (spl cur (i * 34) (ba 32 f).toList)) t e v (l.set i ⟨f, x.u, x.g⟩) := by
  obtain ⟨hi, rfl⟩ := List.getElem?_eq_some_iff.1 hx
  obtain ⟨A, c', e1, -⟩ := h.form
  rw [hv] at e1
  simp only [Value.slice.injEq] at e1
  obtain ⟨rfl, rfl, rfl⟩ := e1
  subst hv
  exact h.setMat_ hi hr
/-- a cell of one of them stored -/
theorem VsAt.setOne {g n c i j : Nat} {u : Value} {x y : Ve} (h : VsAt T w t e v l) (hv : v = .slice (some ⟨g, 0, none⟩) n c) (hx : l[i]? = some x) (hj : j < 34) (hy : (veC x).set j u = veC y) : VsAt T (w.setCell ⟨g, i * 34 + j, none⟩ u) t e v (l.set i y) := by
  obtain ⟨hi, rfl⟩ := List.getElem?_eq_some_iff.1 hx
  obtain ⟨A, c', e1, -⟩ := h.form
  rw [hv] at e1
  simp only [Value.slice.injEq] at e1
  obtain ⟨rfl, rfl, rfl⟩ := e1
  subst hv
  exact h.set hi hj hy
/-- its block's row -/
theorem VsAt.row_ {g n c : Nat} (h : VsAt T w t e v l) (hv : v = .slice (some ⟨g, 0, none⟩) n c) (hn : 0 < n) : ∃ cur, Oct.row w g = some cur := by
  obtain ⟨A, c', e1, -, -, h3⟩ := h.form
  rw [hv] at e1
  simp only [Value.slice.injEq] at e1
  obtain ⟨rfl, rfl, rfl⟩ := e1
  obtain ⟨g', cur, e2, -, hr, -⟩ := h3 hn
  cases e2
  exact ⟨cur, hr⟩
end
end Go.Proofs.YtamemjldafoolaaGreat.Oct

/-! ## Fld -/
/- The cells of a struct, field by field: a list of the fields' cells, laid one behind the other. Loads, stores, literals by it. Of whatever program. -/
namespace Go.Proofs.YtamemjldafoolaaGreat.Oct
open Go.RowKit

@[irreducible] def flt (fs : List (Array Value)) : Array Value := (fs.flatMap Array.toList).toArray
def szs : List (Array Value) → Nat
  | [] => 0
  | c :: r => c.size + szs r
theorem szs_cons (c : Array Value) (r : List (Array Value)) : szs (c :: r) = c.size + szs r := rfl
theorem szs_app (a b : List (Array Value)) : szs (a ++ b) = szs a + szs b := by
  induction a with
  | nil => simp [szs]
  | cons c r ih => simp only [List.cons_append, szs, ih]; omega
theorem flat_len (fs : List (Array Value)) : (fs.flatMap Array.toList).length = szs fs := by
  induction fs with
  | nil => rfl
  | cons c r ih => simp only [List.flatMap_cons, List.length_append, szs, ih, Array.length_toList]
theorem flt_size (fs : List (Array Value)) : (flt fs).size = szs fs := by unfold flt; rw [List.size_toArray, flat_len]
theorem flt_at (pre post : List (Array Value)) (c : Array Value) (k : Nat) : (flt (pre ++ c :: post))[k]? = if k < szs pre then (flt pre)[k]? else if k < szs pre + c.size then c[k - szs pre]? else (flt post)[k - szs pre - c.size]? := by
  unfold flt
  simp only [List.getElem?_toArray, List.flatMap_append, List.flatMap_cons]
  by_cases h : k < szs pre
  · rw [if_pos h, List.getElem?_append_left (by rw [flat_len]; exact h)]
  · rw [if_neg h, List.getElem?_append_right (by rw [flat_len]; omega), flat_len]
    by_cases h2 : k < szs pre + c.size
    · rw [if_pos h2, List.getElem?_append_left (by rw [Array.length_toList]; omega), Array.getElem?_toList]
    · rw [if_neg h2, List.getElem?_append_right (by rw [Array.length_toList]; omega), Array.length_toList]
theorem flt_get (pre post : List (Array Value)) (c : Array Value) {o j : Nat} (ho : o = szs pre) (h : j < c.size) : (flt (pre ++ c :: post))[o + j]? = c[j]? := by
  subst ho
  rw [flt_at, if_neg (by omega), if_pos (by omega), Nat.add_sub_cancel_left]
theorem flt_ext (pre post : List (Array Value)) (c : Array Value) : (flt (pre ++ c :: post)).extract (szs pre) (szs pre + c.size) = c := by
  apply Array.ext_getElem?
  intro j
  rw [Array.getElem?_extract, flt_size, szs_app, szs_cons]
  by_cases h : j < c.size
  · rw [if_pos (by omega), flt_get pre post c rfl h]
  · rw [if_neg (by omega), Array.getElem?_eq_none (by omega)]
theorem flt_set (pre post : List (Array Value)) (c : Array Value) {o j : Nat} (v : Value) (ho : o = szs pre) (h : j < c.size) : (flt (pre ++ c :: post)).setIfInBounds (o + j) v = flt (pre ++ c.setIfInBounds j v :: post) := by
  subst ho
  apply Array.ext_getElem?
  intro k
  rw [Array.getElem?_setIfInBounds, flt_at, flt_at, flt_size, szs_app, szs_cons, Array.size_setIfInBounds]
  by_cases hk : szs pre + j = k
  · subst hk
    rw [if_pos rfl, if_pos (by omega), if_neg (by omega), if_pos (by omega), Nat.add_sub_cancel_left, Array.getElem?_setIfInBounds, if_pos rfl, if_pos h]
  · rw [if_neg hk]
    split
    · rfl
    · split
      · rw [Array.getElem?_setIfInBounds, if_neg (by omega)]
      · rfl
theorem flt_spl (pre post : List (Array Value)) (c c' : Array Value) {o : Nat} (ho : o = szs pre) (h : c'.size = c.size) : spl (flt (pre ++ c :: post)) o c'.toList = flt (pre ++ c' :: post) := by
  subst ho
  apply Array.ext_getElem?
  intro k
  rw [spl_get _ _ _ _ (by rw [flt_size, szs_app, szs_cons, Array.length_toList]; omega), flt_at, flt_at, Array.length_toList, h]
  by_cases h1 : k < szs pre
  · rw [if_neg (by omega), if_pos h1, if_pos h1]
  · rw [if_neg h1, if_neg h1]
    by_cases h2 : k < szs pre + c.size
    · rw [if_pos ⟨by omega, h2⟩, if_pos h2, Array.getElem?_toList]
    · rw [if_neg (by omega), if_neg h2, if_neg h2]
theorem flt_ones (fs : List (Array Value)) (h : ∀ c ∈ fs, Ones c) : Ones (flt fs) := by
  unfold Ones flt
  rw [Array.all_eq_true_iff_forall_mem]
  intro v hv
  obtain ⟨c, hc, hm⟩ := List.mem_flatMap.1 (by simpa using hv : v ∈ fs.flatMap Array.toList)
  exact (Array.all_eq_true_iff_forall_mem.1 (h c hc)) v (by simpa using hm)
/- loads and stores -/
theorem ldR_flt (P : Program) (t m : Nat) (w : World) (b : Nat) {o : Nat} (pre post : List (Array Value)) (c : Array Value) (ho : o = szs pre) (hm : m = c.size) : ldR P t m w b o (some (flt (pre ++ c :: post))) = .ok (.agg c) w := by
  subst ho hm
  unfold ldR
  have e : szs pre + c.size ≤ (flt (pre ++ c :: post)).size := by rw [flt_size, szs_app, szs_cons]; omega
  simp only [if_pos e]
  rw [flt_ext]
theorem ldR_whole (P : Program) (t m : Nat) (w : World) (b : Nat) (c : Array Value) (hm : m = c.size) : ldR P t m w b 0 (some c) = .ok (.agg c) w := by
  subst hm
  unfold ldR
  simp only [Nat.zero_add]
  rw [if_pos (Nat.le_refl _), Array.extract_size]
theorem stR_flt (P : Program) (t m : Nat) (w : World) (b : Nat) {o : Nat} (pre post : List (Array Value)) (c c' : Array Value) (ho : o = szs pre) (hm : m = c.size) (hc : c'.size = c.size) (h1 : Ones c') :
    stR P t m w b o (.agg c') (some (flt (pre ++ c :: post))) = .ok () (w.setRow b (flt (pre ++ c' :: post))) := by
  have e : o + m ≤ (flt (pre ++ c :: post)).size ∧ (Value.agg c').cells.size = m ∧ Ones (Value.agg c').cells := ⟨by rw [flt_size, szs_app, szs_cons]; omega, by rw [hm, ← hc]; rfl, h1⟩
  unfold stR
  simp only [if_pos e]
  exact congrArg (fun c => Result.ok () (w.setRow b c)) (flt_spl pre post c c' ho hc)
theorem stR_whole (P : Program) (t m : Nat) (w : World) (b : Nat) (c c' : Array Value) (hm : m = c.size) (hc : c'.size = c.size) (h1 : Ones c') : stR P t m w b 0 (.agg c') (some c) = .ok () (w.setRow b c') := by
  have e : 0 + m ≤ c.size ∧ (Value.agg c').cells.size = m ∧ Ones (Value.agg c').cells := ⟨by omega, by rw [hm, ← hc]; rfl, h1⟩
  unfold stR
  simp only [if_pos e]
  refine congrArg (fun c => Result.ok () (w.setRow b c)) ?_
  apply Array.ext_getElem?
  intro k
  show (spl c 0 c'.toList)[k]? = _
  rw [spl_get _ _ _ _ (by rw [Array.length_toList]; omega), Array.length_toList, Nat.zero_add]
  by_cases hk : k < c'.size
  · rw [if_pos ⟨Nat.zero_le _, hk⟩, Array.getElem?_toList, Nat.sub_zero]
  · rw [if_neg (by omega), Array.getElem?_eq_none (by omega), Array.getElem?_eq_none (by omega)]
/- literals -/
theorem fold_spl (v : Array Value) (o : Nat) (cells : Array Value) : v.zipIdx.foldl (fun cs (c, j) => cs.setIfInBounds (o + j) c) cells = spl cells o v.toList := by
  have key : ∀ (vs : List Value) (i : Nat) (cs : Array Value), (vs.zipIdx i).foldl (fun cs (c, j) => cs.setIfInBounds (o + j) c) cs = spl cs (o + i) vs := by
    intro vs
    induction vs with
    | nil => intro i cs; rfl
    | cons x r ih => intro i cs; simp only [List.zipIdx_cons, List.foldl_cons, ih (i + 1), spl]; rfl
  have h := key v.toList 0 cells
  rw [Nat.add_zero] at h
  rw [← h, ← Array.foldl_toList, Array.toList_zipIdx]
theorem fill_flt {place : Nat → Option (Nat × Nat)} {pre post : List (Array Value)} {c : Array Value} {i o m : Nat} {v : Value} {rest : List (Nat × Value)} (hp : place i = some (o, m)) (ho : o = szs pre) (hm : m = c.size) (hv : v.cells.size = c.size) :
    Instr.fill place (flt (pre ++ c :: post)) ((i, v) :: rest) = Instr.fill place (flt (pre ++ v.cells :: post)) rest := by
  have hs : (flt (pre ++ c :: post)).size = szs pre + (c.size + szs post) := by rw [flt_size, szs_app]; rfl
  rw [Instr.fill]
  simp only [hp]
  rw [if_neg (by simp only [ne_eq, Bool.or_eq_true, decide_eq_true_eq]; omega), fold_spl, flt_spl pre post c v.cells ho hv]
theorem run_lit {P : Program} (t : TypeId) (parts : Array (Nat × Value)) (z cells : Array Value) (places : List (Nat × Nat))
    (hz : (P.info? t).map (·.zero) = some (some (.agg z))) (hp : (P.underlying t).bind (fun d => match d with | .struct fs => fs.toList.mapM (fun f => (P.info? f.type).map fun i => (f.offset, i.size)) | _ => none) = some places)
    (hf : Instr.fill (places.toArray[·]?) z parts.toList = some cells) (w : World) : (Instr.build t parts).run P w = .ok (.agg cells) w := by
  refine run_build w t parts cells ?_
  unfold Program.built
  cases hq : P.info? t with
  | none => rw [hq] at hz; cases hz
  | some it =>
    cases hu : P.underlying t with
    | none => rw [hu] at hp; cases hp
    | some d =>
      rw [hu] at hp
      rw [hq] at hz
      have hz' : it.zero = some (.agg z) := Option.some.inj hz
      cases d <;> first | (simp at hp; done) | skip
      rename_i fs
      have hp' : fs.toList.mapM (fun f => (P.info? f.type).map fun i => (f.offset, i.size)) = some places := hp
      simp only [hz', hp']
      exact hf
/-- a struct's literal keeps its name till its parts are known -/
def bdA (t : TypeId) (parts : Array (Nat × Value)) : Sem Value := Instr.build t parts
end Go.Proofs.YtamemjldafoolaaGreat.Oct

/-! ## KrTy -/
/- The types of layer 13: api.Version, api.Ring, slices of them, api.Key: loads, stores, literals. -/
namespace Go.Proofs.YtamemjldafoolaaGreat.Oct
open Go.ChangeShapes Go.WideShapes Go.ChangeAt Go.RowKit
set_option linter.unusedVariables false

theorem ld_ruleK {P : Program} (t : TypeId) (d : TypeDesc) (hu : P.underlying t = some d) (hd : d.isRow = true) (m : Nat) (hi : (P.info? t).map (·.size) = some m) (w : World) (b o : Nat) :
    (ldA t (.pointer (some ⟨b, o, none⟩))).run P w = ldR P t m w b o (row w b) := by
  unfold ldR
  split
  · rename_i c hr
    split
    · rename_i hc
      obtain ⟨t', ht⟩ := row_is hr
      have hx := run_loadAt_mid (P := P) w b o t (c.extract o (o + m)).toList _ (World.rangeAt_of_block ht o m) hu hd (by rw [hi]; simp; omega)
      rw [Array.toArray_toList] at hx
      exact hx
    · rfl
  · rfl
/- api.Key -/
theorem kk_u : Tryz.prog.underlying 32 = some (.array 32 5) := by kernel_rfl
theorem kk_i : (Tryz.prog.info? 32).map (·.size) = some 32 := by kernel_rfl
@[go_sem ↓] theorem kk_l (p : Value) : Instr.loadAt 32 p = ldA 32 p := rfl
@[go_sem ↓] theorem kk_s (p v : Value) : Instr.storeAt 32 p v = stA 32 p v := rfl
@[go_sem] theorem kk_ld (w : World) (b o : Nat) : (ldA 32 (.pointer (some ⟨b, o, none⟩))).run Tryz.prog w = ldR Tryz.prog 32 32 w b o (row w b) := ld_rule _ _ _ kk_u 32 kk_i w b o
@[go_sem] theorem kk_st (w : World) (b o : Nat) (c : Array Value) : (stA 32 (.pointer (some ⟨b, o, none⟩)) (.agg c)).run Tryz.prog w = stR Tryz.prog 32 32 w b o (.agg c) (row w b) := st_rule _ 32 kk_i w b o c
theorem kk_z : (Tryz.prog.info? 32).map (·.zero) = some (some (.agg (ba 32 fun _ => 0#8))) := by unfold ba; kernel_rfl
@[go_sem ↓] theorem kk_zero (w : World) : (zeroValue 32).run Tryz.prog w = .ok (.agg (ba 32 fun _ => 0#8)) w := zero_rule _ _ kk_z w
@[go_sem] theorem kk_gd (op : BinOp) (x y : Operand) (xs ys : Array Value) (w : World) : (eqGuard op 32 x y (.agg xs) (.agg ys)).run Tryz.prog w = .ok () w := run_eqGuard_agg w op _ x y xs ys (by kernel_rfl)
@[go_sem] theorem kk_eq (d : Nat) (f g : Nat → BitVec 8) (w : World) : (Op.equalIn (d + 2) 32 (.agg (ba 32 f)) (.agg (ba 32 g))).run Tryz.prog w = .ok (eqB 32 f g) w := eq_bytes _ 32 d _ .u8 kk_u u8_u u8_i f g w
@[go_sem] theorem kk_b0 (w : World) : (Instr.build 32 #[]).run Tryz.prog w = .ok (.agg (ba 32 fun _ => 0#8)) w := by unfold ba; kernel_rfl
/- api.Version -/
@[irreducible] def veA (v : Ve) : Array Value := (veC v).toArray
@[go_sem] theorem veA_size (v : Ve) : (veA v).size = 34 := by unfold veA; rw [List.size_toArray, veC_len]
@[go_sem] theorem veA_ne (v : Ve) : (veA v = #[]) = False := eq_false fun e => by have := congrArg Array.size e; rw [veA_size] at this; simp at this
theorem veA_flt (v : Ve) : veA v = flt [ba 32 v.m, #[.int .i64 v.u], #[.bool v.g]] := by
  unfold veA veC flt
  congr 1
theorem veA_list (v : Ve) : (veA v).toList = veC v := by unfold veA; rfl
theorem veA_ones (v : Ve) : Ones (veA v) := by
  show (veA v).all _ = true
  rw [← Array.all_toList, veA_list, List.all_eq_true]
  exact veC_one v
@[go_sem] theorem veA_ldm (P : Program) (T : Nat) (v : Ve) (w : World) (B : Nat) : ldR P T 32 w B 0 (some (veA v)) = .ok (.agg (ba 32 v.m)) w := by
  rw [veA_flt]; exact ldR_flt P T 32 w B [] _ _ rfl (by rw [ba_size])
@[go_sem] theorem veA_ldw (P : Program) (T : Nat) (v : Ve) (w : World) (B : Nat) : ldR P T 34 w B 0 (some (veA v)) = .ok (.agg (veA v)) w := ldR_whole P T 34 w B _ (veA_size v).symm
@[go_sem] theorem veA_stw (P : Program) (T : Nat) (v x : Ve) (w : World) (B : Nat) : stR P T 34 w B 0 (.agg (veA x)) (some (veA v)) = .ok () (w.setRow B (veA x)) := stR_whole P T 34 w B _ _ (veA_size v).symm (by rw [veA_size, veA_size]) (veA_ones x)
@[go_sem] theorem veA_g32 (v : Ve) : (veA v)[32]? = some (.int .i64 v.u) := by rw [← Array.getElem?_toList, veA_list, veC_u]
@[go_sem] theorem veA_g33 (v : Ve) : (veA v)[33]? = some (.bool v.g) := by rw [← Array.getElem?_toList, veA_list, veC_g]
@[go_sem] theorem veA_e32 (v : Ve) (h : 32 < (veA v).size) : (veA v)[32] = .int .i64 v.u := by have := veA_g32 v; rw [Array.getElem?_eq_getElem h] at this; exact Option.some.inj this
@[go_sem] theorem veA_e33 (v : Ve) (h : 33 < (veA v).size) : (veA v)[33] = .bool v.g := by have := veA_g33 v; rw [Array.getElem?_eq_getElem h] at this; exact Option.some.inj this
theorem ver_i : (Tryz.prog.info? 56).map (·.size) = some 34 := by kernel_rfl
@[go_sem ↓] theorem ver_l (p : Value) : Instr.loadAt 56 p = ldA 56 p := rfl
@[go_sem ↓] theorem ver_s (p v : Value) : Instr.storeAt 56 p v = stA 56 p v := rfl
@[go_sem] theorem ver_ld (w : World) (b o : Nat) : (ldA 56 (.pointer (some ⟨b, o, none⟩))).run Tryz.prog w = ldR Tryz.prog 56 34 w b o (row w b) := ld_ruleK _ _ Tryz.underlying56 rfl 34 ver_i w b o
@[go_sem] theorem ver_st (w : World) (b o : Nat) (c : Array Value) : (stA 56 (.pointer (some ⟨b, o, none⟩)) (.agg c)).run Tryz.prog w = stR Tryz.prog 56 34 w b o (.agg c) (row w b) := st_rule _ 34 ver_i w b o c
theorem ver_z : (Tryz.prog.info? 56).map (·.zero) = some (some (.agg (veA ve0))) := by unfold veA veC ba; kernel_rfl
@[go_sem ↓] theorem ver_zero (w : World) : (zeroValue 56).run Tryz.prog w = .ok (.agg (veA ve0)) w := by
  have h := ver_z
  cases hq : Tryz.prog.info? 56 with
  | none => rw [hq] at h; cases h
  | some i =>
    rw [hq] at h
    have h' : i.zero = some (.agg (veA ve0)) := Option.some.inj h
    simp [zeroValue, typeInfo, hq, h']
@[go_sem ↓] theorem ver_bd (parts : Array (Nat × Value)) : Instr.build 56 parts = bdA 56 parts := rfl
@[go_sem] theorem ver_b1 (m : Bf) (w : World) : (bdA 56 #[(0, .agg (ba 32 m))]).run Tryz.prog w = .ok (.agg (veA ⟨m, 0, false⟩)) w := by
  refine run_lit _ _ _ _ [(0, 32), (32, 1), (33, 1)] ver_z (by kernel_rfl) ?_ w
  rw [veA_flt, veA_flt]
  exact fill_flt (pre := []) (o := 0) (m := 32) rfl rfl (by rw [ba_size]) (by rw [ba_size]; exact ba_size _ _)
@[go_sem] theorem ver_b2 (u : Int) (w : World) : (bdA 56 #[(1, .int .i64 u)]).run Tryz.prog w = .ok (.agg (veA ⟨fun _ => 0#8, u, false⟩)) w := by
  refine run_lit _ _ _ _ [(0, 32), (32, 1), (33, 1)] ver_z (by kernel_rfl) ?_ w
  rw [veA_flt, veA_flt]
  exact fill_flt (pre := [ba 32 fun _ => 0#8]) (o := 32) (m := 1) rfl (by simp [szs, ba_size]) rfl rfl
/-- two versions compared -/
def veB (a b : Ve) : Bool := eqB 32 a.m b.m && ((a.u == b.u) && (a.g == b.g))
/- slices of versions -/
theorem vers_u : Tryz.prog.underlying 64 = some (.slice 56) := by kernel_rfl
theorem ver_info : (Tryz.prog.info? 56).map (fun i => (i.zero, i.size, i.bytes)) = some (some (.agg (veA ve0)), 34, 48) := by unfold veA veC ba; kernel_rfl
def bsK (t : TypeId) (n : Nat) (parts : Array (Nat × Value)) : Sem Value := Instr.buildSlice t n parts
@[go_sem ↓] theorem vers_bs (n : Nat) (parts : Array (Nat × Value)) : Instr.buildSlice 64 n parts = bsK 64 n parts := rfl
theorem bsK_of (t : TypeId) (n : Nat) (parts : Array (Nat × Value)) (w : World) (v : Value) (w' : World) (h : (Instr.buildSlice t n parts).run Tryz.prog w = .ok v w') : (bsK t n parts).run Tryz.prog w = .ok v w' := h
@[go_sem] theorem vers_b0 (w : World) : (bsK 64 0 #[]).run Tryz.prog w = .ok (.slice (some ⟨w.heap.size, 0, none⟩) 0 0) (w.alloc (.cells #[] 56)) := bsK_of _ _ _ _ _ _ (by kernel_rfl)
@[go_sem] theorem vers_b1 (v : Ve) (w : World) : (bsK 64 1 #[(0, .agg (veA v))]).run Tryz.prog w = .ok (.slice (some ⟨w.heap.size, 0, none⟩) 1 1) (w.alloc (.cells (veA v) 56)) :=
  bsK_of _ _ _ _ _ _ (by unfold veA veC ba; kernel_rfl)
/- api.Ring -/
@[irreducible] def rgA (b : Bool) (v : Value) : Array Value := #[.bool b, v]
@[go_sem] theorem rgA_size (b : Bool) (v : Value) : (rgA b v).size = 2 := by unfold rgA; rfl
@[go_sem] theorem rgA_ne (b : Bool) (v : Value) : (rgA b v = #[]) = False := eq_false fun e => by have := congrArg Array.size e; rw [rgA_size] at this; simp at this
@[go_sem] theorem rgA_e0 (b : Bool) (v : Value) (h : 0 < (rgA b v).size) : (rgA b v)[0] = .bool b := by unfold rgA; rfl
@[go_sem] theorem rgA_e1 (b : Bool) (v : Value) (h : 1 < (rgA b v).size) : (rgA b v)[1] = v := by unfold rgA; rfl
@[go_sem] theorem rgA_g0 (b : Bool) (v : Value) : (rgA b v)[0]? = some (.bool b) := by unfold rgA; rfl
@[go_sem] theorem rgA_g1 (b : Bool) (v : Value) : (rgA b v)[1]? = some v := by unfold rgA; rfl
theorem rin_i : (Tryz.prog.info? 66).map (·.size) = some 2 := by kernel_rfl
theorem rins_u : Tryz.prog.underlying 27 = some (.slice 66) := by kernel_rfl
theorem rin_z : (Tryz.prog.info? 66).map (·.zero) = some (some (.agg (rgA false (.slice none 0 0)))) := by unfold rgA; kernel_rfl
theorem rin_info : (Tryz.prog.info? 66).map (fun i => (i.zero, i.size, i.bytes)) = some (some (.agg (rgA false (.slice none 0 0))), 2, 32) := by unfold rgA; kernel_rfl
@[go_sem ↓] theorem rin_zero (w : World) : (zeroValue 66).run Tryz.prog w = .ok (.agg (rgA false (.slice none 0 0))) w := by
  have h := rin_z
  cases hq : Tryz.prog.info? 66 with
  | none => rw [hq] at h; cases h
  | some i =>
    rw [hq] at h
    have h' : i.zero = some (.agg (rgA false (.slice none 0 0))) := Option.some.inj h
    simp [zeroValue, typeInfo, hq, h']
@[go_sem ↓] theorem rin_l (p : Value) : Instr.loadAt 66 p = ldA 66 p := rfl
@[go_sem ↓] theorem rin_s (p v : Value) : Instr.storeAt 66 p v = stA 66 p v := rfl
@[go_sem] theorem rin_ld (w : World) (b o : Nat) : (ldA 66 (.pointer (some ⟨b, o, none⟩))).run Tryz.prog w = ldR Tryz.prog 66 2 w b o (row w b) := ld_ruleK _ _ Tryz.underlying66 rfl 2 rin_i w b o
@[go_sem] theorem rin_st (w : World) (b o : Nat) (c : Array Value) : (stA 66 (.pointer (some ⟨b, o, none⟩)) (.agg c)).run Tryz.prog w = stR Tryz.prog 66 2 w b o (.agg c) (row w b) := st_rule _ 2 rin_i w b o c
theorem rgA_ones (b : Bool) (A : Option Addr) (n c : Nat) : Ones (rgA b (.slice A n c)) := by unfold rgA; simp [Ones, Value.oneCell']
@[go_sem] theorem rgA_ldw (P : Program) (T : Nat) (b : Bool) (v : Value) (w : World) (B : Nat) : ldR P T 2 w B 0 (some (rgA b v)) = .ok (.agg (rgA b v)) w := ldR_whole P T 2 w B _ (rgA_size b v).symm
@[go_sem] theorem rgA_stw (P : Program) (T : Nat) (b b' : Bool) (v : Value) (A : Option Addr) (n c : Nat) (w : World) (B : Nat) : stR P T 2 w B 0 (.agg (rgA b' (.slice A n c))) (some (rgA b v)) = .ok () (w.setRow B (rgA b' (.slice A n c))) :=
  stR_whole P T 2 w B _ _ (rgA_size b v).symm (by rw [rgA_size, rgA_size]) (rgA_ones _ _ _ _)
theorem rgA_c0 {w : World} {B : Nat} {b : Bool} {v : Value} (h : row w B = some (rgA b v)) : w.cell? ⟨B, 0, none⟩ = some (.bool b) := by rw [cell_row h]; unfold rgA; rfl
theorem rgA_c1 {w : World} {B : Nat} {b : Bool} {v : Value} (h : row w B = some (rgA b v)) : w.cell? ⟨B, 1, none⟩ = some v := by rw [cell_row h]; unfold rgA; rfl
@[go_sem ↓] theorem rin_bd (parts : Array (Nat × Value)) : Instr.build 66 parts = bdA 66 parts := rfl
@[go_sem] theorem rin_b1 (A : Option Addr) (n c : Nat) (w : World) : (bdA 66 #[(1, .slice A n c)]).run Tryz.prog w = .ok (.agg (rgA false (.slice A n c))) w := by unfold bdA rgA; kernel_rfl
@[go_sem] theorem rin_b2 (b : Bool) (A : Option Addr) (n c : Nat) (w : World) : (bdA 66 #[(0, .bool b), (1, .slice A n c)]).run Tryz.prog w = .ok (.agg (rgA b (.slice A n c))) w := by unfold bdA rgA; kernel_rfl
@[go_sem ↓] theorem rins_bs (n : Nat) (parts : Array (Nat × Value)) : Instr.buildSlice 27 n parts = bsK 27 n parts := rfl
@[go_sem] theorem rins_b1 (b : Bool) (A : Option Addr) (n c : Nat) (w : World) : (bsK 27 1 #[(0, .agg (rgA b (.slice A n c)))]).run Tryz.prog w = .ok (.slice (some ⟨w.heap.size, 0, none⟩) 1 1) (w.alloc (.cells (rgA b (.slice A n c)) 66)) :=
  bsK_of _ _ _ _ _ _ (by unfold rgA; kernel_rfl)
@[go_sem] theorem rins_b0 (w : World) : (bsK 27 0 #[]).run Tryz.prog w = .ok (.slice (some ⟨w.heap.size, 0, none⟩) 0 0) (w.alloc (.cells #[] 66)) := bsK_of _ _ _ _ _ _ (by kernel_rfl)
/-- a ring out of cells -/
theorem rin_cells (w : World) (g o : Nat) (b : Bool) (v : Value) (h0 : w.cell? ⟨g, o, none⟩ = some (.bool b)) (h1 : w.cell? ⟨g, o + 1, none⟩ = some v) :
    ldR Tryz.prog 66 2 w g o (row w g) = .ok (.agg (rgA b v)) w := by
  rw [← rin_ld]
  have h := run_loadAt_mid (P := Tryz.prog) w g o 66 [.bool b, v] _ (fun j x hx => by
    match j, hx with
    | 0, hx => rw [Nat.add_zero, h0]; exact hx
    | 1, hx => rw [h1]; exact hx
    | j + 2, hx => cases hx) Tryz.underlying66 rfl (by rw [rin_i]; rfl)
  unfold rgA
  exact h
/-- a version out of cells, wherever they lie -/
theorem ver_cells (w : World) (g o : Nat) (v : Ve) (hc : ∀ j, j < 34 → w.cell? ⟨g, o + j, none⟩ = (veC v)[j]?) :
    ldR Tryz.prog 56 34 w g o (row w g) = .ok (.agg (veA v)) w := by
  rw [← ver_ld]
  have h := run_loadAt_mid (P := Tryz.prog) w g o 56 (veC v) _ (fun j x hx => by
    by_cases hj : j < 34
    · rw [hc j hj]; exact hx
    · rw [List.getElem?_eq_none (by rw [veC_len]; omega)] at hx; cases hx) Tryz.underlying56 rfl (by rw [ver_i, veC_len])
  unfold veA
  exact h
/-- its material out of cells -/
theorem mat_cells (w : World) (g o : Nat) (v : Ve) (hc : ∀ j, j < 34 → w.cell? ⟨g, o + j, none⟩ = (veC v)[j]?) :
    ldR Tryz.prog 32 32 w g o (row w g) = .ok (.agg (ba 32 v.m)) w := by
  rw [← kk_ld]
  have h := run_loadAt_mid (P := Tryz.prog) w g o 32 (ba 32 v.m).toList _ (fun j x hx => by
    rw [Array.getElem?_toList] at hx
    by_cases hj : j < 32
    · rw [hc j (by omega), veC_m v j hj]; rw [ba_get 32 v.m j hj] at hx; exact hx
    · rw [ba_none 32 v.m j hj] at hx; cases hx) kk_u rfl (by rw [kk_i, Array.length_toList, ba_size])
  rw [Array.toArray_toList] at h
  exact h
/- results -/
theorem ld_rowK {P : Program} {w : World} {b : Nat} {c : Array Value} {ty : TypeId} {d : TypeDesc} (hr : row w b = some c) (hu : P.underlying ty = some d) (hd : d.isRow = true) (hi : (P.info? ty).map (·.size) = some c.size) :
    (loadVar ty ⟨b, 0, none⟩).run P w = .ok (.agg c) w := by
  obtain ⟨t', ht⟩ := row_is hr
  have hg : w.rangeAt b 0 (c.extract 0 (0 + c.size)).toList := World.rangeAt_of_block ht 0 c.size
  have hx := run_loadVar_mid (P := P) w b 0 ty _ d hg hu hd (by rw [hi]; simp)
  rw [Array.toArray_toList, Nat.zero_add, Array.extract_size] at hx
  exact hx
theorem res_ctK {P : Program} {fn : Func} {p u : Tmp} {ty : TypeId} (h : fn.results = #[.cell p ty, .tmp u]) (tmps : Array Value) (w : World) (b : Nat) (c : Array Value) (d : TypeDesc)
    (hp : tmps.getD p undef = .pointer (some ⟨b, 0, none⟩)) (hr : row w b = some c) (hu : P.underlying ty = some d) (hd : d.isRow = true) (hi : (P.info? ty).map (·.size) = some c.size) :
    (results fn tmps).run P w = .ok (.tuple #[.agg c, tmps.getD u undef]) w := by
  have hp2 : tmps[p]?.getD undef = .pointer (some ⟨b, 0, none⟩) := by simpa using hp
  simp only [results, h]
  simp [hp2, asAddr, ld_rowK hr hu hd hi]
theorem res_ttctK {P : Program} {fn : Func} {q r p u : Tmp} {ty : TypeId} (h : fn.results = #[.tmp q, .tmp r, .cell p ty, .tmp u]) (tmps : Array Value) (w : World) (b : Nat) (c : Array Value) (d : TypeDesc)
    (hp : tmps.getD p undef = .pointer (some ⟨b, 0, none⟩)) (hr : row w b = some c) (hu : P.underlying ty = some d) (hd : d.isRow = true) (hi : (P.info? ty).map (·.size) = some c.size) :
    (results fn tmps).run P w = .ok (.tuple #[tmps.getD q undef, tmps.getD r undef, .agg c, tmps.getD u undef]) w := by
  have hp2 : tmps[p]?.getD undef = .pointer (some ⟨b, 0, none⟩) := by simpa using hp
  simp only [results, h]
  simp [hp2, asAddr, ld_rowK hr hu hd hi]
end Go.Proofs.YtamemjldafoolaaGreat.Oct

/-! ## FlowE -/
/- A region that draws its order: first those that yield the same in every world whatever (moves), then the segments of flow_region. Of whatever program. -/
namespace Go.Proofs.YtamemjldafoolaaGreat.Oct
open Go.RowKit
set_option linter.unusedVariables false
section
variable {P : Program} {Q : Exit → Act → World → Prop}
theorem TT.of_any {ops : Array Oper} : ∀ (f : Nat) (listed : Array Bool) (a : Act) (w : World), wpAny P .any ops Q f listed a w → TT P ops Q (fun _ => false) (fun _ => True) f listed a w := by
  intro f
  induction f with
  | zero => intro _ _ _ h; exact h
  | succ f ih =>
    intro listed a w h
    refine ⟨h.1, fun j hj => wpOp_mono (fun a' w' h' => ?_) (h.2 j hj)⟩
    rw [if_neg Bool.false_ne_true]
    exact ⟨trivial, ih _ _ _ h'⟩
def freeB (l : List Oper) (fr : List Nat) (s : List Seg) (last : List Nat) : Bool := Region.noSelect l.toArray && fr.length + lenS last s == l.length && qsB l.toArray fr (Array.replicate l.length false) && flB l.toArray last s (setAll (Array.replicate l.length false) fr)
theorem flow_free {id : Nat} {a : Act} {w : World} {l : List Oper} (fr : List Nat) (s : List Seg) (last : List Nat) (C : World → Prop) (hm : P.follows .mixedOrders = true) (hB : freeB l fr s last = true)
    (hQ : ∀ c a d v w, Q (.panic c) (a.put (some d) v) w → Q (.panic c) a w) (hC : C (w.drewN 1))
    (h : wpQuiet P l.toArray (fun w' => ∃ x : In (fun _ => True), w' = x.val) (fun a' => wpFl P l Q last s C a' (w.drewN 1)) (pk l fr) a) : (Code.region id l.toArray true).wp P Q a w := by
  simp only [freeB, Bool.and_eq_true, beq_iff_eq] at hB
  obtain ⟨⟨⟨hsel, hlen⟩, hq⟩, hf⟩ := hB
  rw [In_eq] at h
  refine wp_region_any hm ?_
  have e : (Array.replicate l.toArray.size false) = Array.replicate l.length false := by simp
  have T := TT.any _ _ _ _ (TT.quiets (C := fun _ => True) (cl := fun _ => false) (f := lenS last s) (w := w.drewN 1) hsel hQ trivial fr (Array.replicate l.length false) a hq (by rw [← e]; exact DC.none) (fun _ _ _ _ _ _ _ => rfl) h fun a' hd hK =>
    TT.of_any _ _ _ _ (TT.any _ _ _ _ (flow hsel hQ s C _ a' (w.drewN 1) hf hd hC hK)))
  rw [hlen] at T
  rw [e, show l.toArray.size = l.length by simp]
  exact T
end
end Go.Proofs.YtamemjldafoolaaGreat.Oct

/-! ## KrA -/
/- Contracts of the reference's is, Switch, Destroy. -/
namespace Go.Proofs.YtamemjldafoolaaGreat.Oct
open Go.ChangeShapes Go.WideShapes Go.ChangeAt Go.RowKit
set_option linter.unusedVariables false

/-- a call on one keyring: what it may change, and the marks of what is new -/
structure Fk (T T' : Mk) (t : Nat) (w w' : World) : Prop where
  fr : Fr T T' (Hk t) w w'
  mks : ∀ k, T' k = T k ∨ Hk t (T' k)
theorem Fk.same {T : Mk} {t : Nat} {w w' : World} (h : Fr T T (Hk t) w w') : Fk T T t w w' := ⟨h, fun _ => .inl rfl⟩
theorem Fk.trans {T T' T2 : Mk} {t : Nat} {w w' w2 : World} (h : Fk T T' t w w') (k : Fk T' T2 t w' w2) : Fk T T2 t w w2 := ⟨h.fr.trans k.fr, fun i => by
  rcases k.mks i with e | e
  · rw [e]; exact h.mks i
  · exact .inr e⟩
theorem ris_any (B : Nat) (A : Option Addr) (n c : Nat) (id : Int) (w : World) (hr : w.cell? ⟨B, 0, none⟩ = some (.slice A n c)) :
    Calls Tryz.prog 27 #[.pointer (some ⟨B, 0, none⟩), .int .i64 id] w fun e w' => e = .returned (.bool (decide (1 ≤ id) && decide (id ≤ (n : Int)))) ∧ w = w' := by
  cases h0 : decide (1 ≤ id)
  · rw [Bool.false_and]
    go_enter Tryz.func27, Tryz.ntmps27
    go_wp2
    go_ret
    exact ⟨rfl, rfl⟩
  · rw [Bool.true_and]
    go_enter Tryz.func27, Tryz.ntmps27
    go_wp2
    go_ret
    exact ⟨rfl, rfl⟩
/-- a keyring, taken apart -/
theorem KAt.open_ {T : Mk} {w : World} {t B : Nat} {eR eV : TypeId} {K : Ks} (h : KAt T w t eR eV B K) : ∃ A c, w.cell? ⟨B, 0, none⟩ = some (.slice A K.length c) ∧ Oct.row w B = some #[.slice A K.length c] ∧ RsAt T w (t + 1) eR eV (.slice A K.length c) K := by
  obtain ⟨v, hr, h2⟩ := h.row
  obtain ⟨A, c, rfl, _⟩ := h2.form
  exact ⟨A, c, by rw [cell_row hr]; rfl, hr, h2⟩

/-- a ring of it -/
theorem KAt.ring {T : Mk} {w : World} {t B : Nat} {eR eV : TypeId} {K : Ks} {id : Int} (h : KAt T w t eR eV B K) (hok : hasK K id = true) : ∃ (i : Nat) (hi : i < K.length) (g c : Nat) (vi : Value),
    id = (i : Int) + 1 ∧ i < 8 ∧ K.length ≤ 8 ∧ rgAt K id = K[i] ∧ T g = t + 1 ∧ w.cell? ⟨B, 0, none⟩ = some (.slice (some ⟨g, 0, none⟩) K.length c) ∧ Oct.row w B = some #[.slice (some ⟨g, 0, none⟩) K.length c] ∧ RsAt T w (t + 1) eR eV (.slice (some ⟨g, 0, none⟩) K.length c) K ∧
    K.length ≤ c ∧ (∀ j, w.frozen? ⟨g, j, none⟩ = false) ∧ w.cell? ⟨g, i * 2, none⟩ = some (.bool K[i].off) ∧ w.cell? ⟨g, i * 2 + 1, none⟩ = some vi ∧ VsAt T w (t + 1 + 1 + i) eV vi K[i].l ∧ (∀ r, putR K id r = K.set i r) := by
  obtain ⟨a1, a2⟩ := hasK_iff.1 hok
  obtain ⟨A, c, hc, hrow, hrs⟩ := h.open_
  obtain ⟨i, hi⟩ : ∃ i : Nat, id = (i : Int) + 1 := ⟨(id - 1).toNat, by omega⟩
  have hlt : i < K.length := by omega
  have ei : (id - 1).toNat = i := by omega
  have h8 := h.ok.1
  obtain ⟨A', c', e', hle, hmx, hform⟩ := hrs.form
  simp only [Value.slice.injEq] at e'
  obtain ⟨rfl, -, rfl⟩ := e'
  obtain ⟨g, cur, rfl, hg, hgr, hgh, hgs, hgc⟩ := hform (by omega)
  obtain ⟨k1, vi, k2, k3⟩ := hgc i hlt
  exact ⟨i, hlt, g, c, vi, hi, by omega, h8, rgAt_get i hlt ei, hg, hc, hrow, hrs, hle, fun j => froz_row hgr j, by rw [cell_row hgr]; exact k1, by rw [cell_row hgr]; exact k2, k3, fun r => by unfold putR; rw [ei]⟩
/-- a ring's versions changed, its slice as it was -/
theorem RsAt.at_ {T T' : Mk} {H : Nat → Prop} {w w' : World} {t : Nat} {eR eV : TypeId} {K : Ks} {g c i : Nat} (hi : i < K.length) {vi : Value} {l' : List Ve} (h : RsAt T w t eR eV (.slice (some ⟨g, 0, none⟩) K.length c) K) (hc : w.cell? ⟨g, i * 2 + 1, none⟩ = some vi)
    (hf : Fr T T' H w w') (hH : ∀ c, H c → c = t + 1 + i) (hv : VsAt T' w' (t + 1 + i) eV vi l') (hlen : l'.length = K[i].l.length) : RsAt T' w' t eR eV (.slice (some ⟨g, 0, none⟩) K.length c) (K.set i ⟨K[i].off, l'⟩) := by
  obtain ⟨xs, h1, h2⟩ := h.own
  refine ⟨⟨xs, by rw [List.length_set]; exact ownsRow_fr h1 h.tg hf (fun e => by have := hH _ e; omega), fun j hj => ?_⟩, tg_fr h1 h.tg hf⟩
  rw [List.length_set] at hj
  obtain ⟨h3, vj, h4, h5⟩ := h2 j hj
  by_cases hji : j = i
  · subst hji
    rw [List.getElem_set_self]
    have e := World.ownsRow.cellAt (w := w) h1 (j * 2 + 1) (by omega)
    rw [hc, h4] at e
    obtain rfl := Option.some.inj e
    exact ⟨h3, _, h4, hv⟩
  · rw [List.getElem_set_ne (fun e => hji e.symm)]
    exact ⟨h3, vj, h4, h5.fr hf (fun e => by have := hH _ e; omega)⟩
/-- put together again -/
theorem KAt.back {T T' : Mk} {w w' : World} {t B : Nat} {eR eV : TypeId} {K' : Ks} {v : Value} {H : Nat → Prop} (hB : T B = t) (hr : Oct.row w B = some #[v]) (hf : Fr T T' H w w') (hH : ¬ H t) (hrs : RsAt T' w' (t + 1) eR eV v K') (hok : okK K') : KAt T' w' t eR eV B K' :=
  ⟨by rw [hf.tag B (row_lt hr)]; exact hB, ⟨v, hf.rowAt hr (by rw [hB]; exact hH), hrs⟩, hok⟩

set_option maxRecDepth 20000 in
set_option maxHeartbeats 2000000 in
theorem rsw_any (T : Mk) (t B : Nat) (K : Ks) (id : Int) (on : Bool) (w : World) (h : KAt T w t 66 56 B K) :
    Calls Tryz.prog 13 #[.pointer (some ⟨B, 0, none⟩), .int .i64 id, .bool on] w fun e w' => e = .returned (.int .i64 (swE K id)) ∧ ∃ T', KAt T' w' t 66 56 B (swK K id on) ∧ Fk T T' t w w' := by
  have HH := Lib.hid h
  cases hok : hasK K id
  · obtain ⟨A, c, hc, hrow, hrs⟩ := h.open_
    rw [show swE K id = 130 by unfold swE; rw [hok]; rfl, show swK K id on = K by unfold swK; rw [hok]; rfl]
    go_enter Tryz.func13, Tryz.ntmps13
    go_wp2_with fail
    refine (ris_any B A K.length c id w hc).mono ?_
    rintro e w1 ⟨rfl, rfl⟩
    rw [show (decide (1 ≤ id) && decide (id ≤ (K.length : Int))) = false from hok]
    go_wp2_with fail
    go_ret
    exact ⟨rfl, T, HH.out, .same (Fr.refl _ _ _)⟩
  · obtain ⟨i, hi, g, c, vi, rfl, hi8, hl8, hrg, hg, hc, hrow, hrs, hle, hfr, hcell, -, -, hput⟩ := h.ring hok
    have hf0 := hfr (i * 2)
    have e1 : (i : Int) + 1 - 1 = (i : Int) := by omega
    have hF : Fr T T (fun c => c = t + 1) w (w.setCell ⟨g, i * 2, none⟩ (.bool (!on))) := Fr.cell (a := ⟨g, i * 2, none⟩) hg _
    have hswE : swE K ((i : Int) + 1) = 0 := by unfold swE; rw [hok]; rfl
    have hswK : swK K ((i : Int) + 1) on = K.set i ⟨!on, K[i].l⟩ := by unfold swK; rw [if_pos hok, hput, hrg]
    have HK := Lib.hid (KAt.back h.tg hrow hF (by omega) (hrs.setOff hi (!on)) (hswK ▸ swK_ok (id := (i : Int) + 1) h.ok on))
    have HF := Lib.hid (hF.mono (H' := Hk t) fun c e => by rw [e]; exact ⟨by omega, by omega⟩)
    rw [hswE, hswK]
    clear h HH hrs hfr hswK hswE hF hrg hput hrow
    go_enter Tryz.func13, Tryz.ntmps13
    go_wp2_with fail
    refine (ris_any B _ K.length c ((i : Int) + 1) w hc).mono ?_
    rintro e w1 ⟨rfl, rfl⟩
    rw [show (decide (1 ≤ (i : Int) + 1) && decide ((i : Int) + 1 ≤ (K.length : Int))) = true from hok]
    go_wp2_with fail
    exact bodyPost_ret (v := .int .i64 0) (by simp [results, Tryz.results13, go_sem]) rfl ⟨rfl, T, HK.out, .same HF.out⟩
end Go.Proofs.YtamemjldafoolaaGreat.Oct

/-! ## KrB -/
/- Contract of the reference's Destroy. -/
namespace Go.Proofs.YtamemjldafoolaaGreat.Oct
open Go.ChangeShapes Go.WideShapes Go.ChangeAt Go.RowKit
set_option linter.unusedVariables false

/-- a version's number -/
theorem ver_num {r : Rg} {v : Int} (h1 : 1 ≤ v) (h2 : v ≤ (r.l.length : Int)) : ∃ (k : Nat) (hk : k < r.l.length), v = (k : Int) + 1 ∧ veAt r v = r.l[k] ∧ ∀ x, putV r v x = ⟨r.off, r.l.set k x⟩ := by
  have e : (v - 1).toNat < r.l.length := by omega
  exact ⟨(v - 1).toNat, e, by omega, veAt_get _ e rfl, fun x => rfl⟩

set_option maxRecDepth 20000 in
set_option maxHeartbeats 4000000 in
theorem rds_any (T : Mk) (t B : Nat) (K : Ks) (id ver : Int) (w : World) (h : KAt T w t 66 56 B K) :
    Calls Tryz.prog 15 #[.pointer (some ⟨B, 0, none⟩), .int .i64 id, .int .i64 ver] w fun e w' => e = .returned (.int .i64 (dsE K id ver)) ∧ ∃ T', KAt T' w' t 66 56 B (dsK K id ver) ∧ Fk T T' t w w' := by
  have HH := Lib.hid h
  cases hok : hasK K id
  · obtain ⟨A, c, hc, hrow, hrs⟩ := h.open_
    have hno : hasV K id ver = false := by unfold hasV; rw [hok]; rfl
    have hE : dsE K id ver = 130 := by unfold dsE; rw [hno]; rfl
    rw [show dsK K id ver = K by unfold dsK; rw [hE]; rfl, hE]
    go_enter Tryz.func15, Tryz.ntmps15
    go_wp2_with fail
    refine (ris_any B A K.length c id w hc).mono ?_
    rintro e w1 ⟨rfl, rfl⟩
    rw [show (decide (1 ≤ id) && decide (id ≤ (K.length : Int))) = false from hok]
    go_wp2_with fail
    go_ret
    exact ⟨rfl, T, HH.out, .same (Fr.refl _ _ _)⟩
  · obtain ⟨i, hi, g, c, vi, rfl, hi8, hl8, hrg, hg, hc, hrow, hrs, hle, hfr, hcell, hcell2, hvs, hput⟩ := h.ring hok
    have hR := h.ok.ring hok
    rw [hrg] at hR
    obtain ⟨g2, c2, cur2, rfl, hle2, hm2, hg2, hr2, hfr2, hcells⟩ := hvs.open_ (by have := hR.1.1; omega)
    have hl4 := hR.1.2
    have e1 : (i : Int) + 1 - 1 = (i : Int) := by omega
    have HIS := Lib.hid (ris_any B _ K.length c ((i : Int) + 1) w hc)
    by_cases hv1 : ver < 1
    · have hno : hasV K ((i : Int) + 1) ver = false := by
        cases hh : hasV K ((i : Int) + 1) ver
        · rfl
        · have := (hasV_iff.1 hh).2.1; omega
      have hE : dsE K ((i : Int) + 1) ver = 130 := by unfold dsE; rw [hno]; rfl
      rw [show dsK K ((i : Int) + 1) ver = K by unfold dsK; rw [hE]; rfl, hE]
      have hd : decide (ver < 1) = true := by simpa using hv1
      clear hcells hrs hput hno hE
      go_enter Tryz.func15, Tryz.ntmps15
      go_wp2_with fail
      refine (HIS.out).mono ?_
      rintro e w1 ⟨rfl, rfl⟩
      rw [show (decide (1 ≤ (i : Int) + 1) && decide ((i : Int) + 1 ≤ (K.length : Int))) = true from hok]
      go_wp2_with fail
      go_ret
      exact ⟨rfl, T, HH.out, .same (Fr.refl _ _ _)⟩
    have hd : decide (ver < 1) = false := by simpa using hv1
    by_cases hv2 : (K[i].l.length : Int) < ver
    · have hno : hasV K ((i : Int) + 1) ver = false := by
        cases hh : hasV K ((i : Int) + 1) ver
        · rfl
        · have := (hasV_iff.1 hh).2.2; rw [hrg] at this; omega
      have hE : dsE K ((i : Int) + 1) ver = 130 := by unfold dsE; rw [hno]; rfl
      rw [show dsK K ((i : Int) + 1) ver = K by unfold dsK; rw [hE]; rfl, hE]
      have hd2 : decide ((K[i].l.length : Int) < ver) = true := by simpa using hv2
      clear hcells hrs hput hno hE
      go_enter Tryz.func15, Tryz.ntmps15
      go_wp2_with fail
      refine (HIS.out).mono ?_
      rintro e w1 ⟨rfl, rfl⟩
      rw [show (decide (1 ≤ (i : Int) + 1) && decide ((i : Int) + 1 ≤ (K.length : Int))) = true from hok]
      go_wp2_with fail
      go_ret
      exact ⟨rfl, T, HH.out, .same (Fr.refl _ _ _)⟩
    have hd2 : decide ((K[i].l.length : Int) < ver) = false := by simpa using hv2
    obtain ⟨k, hk, rfl, hve, hpv⟩ := ver_num (r := K[i]) (v := ver) (by omega) (by omega)
    have hk4 : k < 4 := by omega
    have e2 : (k : Int) + 1 - 1 = (k : Int) := by omega
    have hyes : hasV K ((i : Int) + 1) ((k : Int) + 1) = true := hasV_iff.2 ⟨hasK_iff.1 hok, by omega, by rw [hrg]; omega⟩
    obtain ⟨k1, k2, k3⟩ := hcells k hk
    cases hgn : K[i].l[k].g
    · have hE : dsE K ((i : Int) + 1) ((k : Int) + 1) = 0 := by unfold dsE; rw [if_pos hyes, hrg, hve, hgn]; rfl
      have hK : dsK K ((i : Int) + 1) ((k : Int) + 1) = K.set i ⟨K[i].off, K[i].l.set k ⟨fun _ => 0#8, K[i].l[k].u, true⟩⟩ := by
        unfold dsK; rw [if_pos hE, hput, hrg, hpv, hve]
      have hokK := hK ▸ dsK_ok (id := (i : Int) + 1) (v := (k : Int) + 1) h.ok
      rw [hgn] at k3
      have hx : K[i].l[k]? = some K[i].l[k] := List.getElem?_eq_getElem hk
      have V1 := hvs.setOne (u := .bool true) rfl hx (show 33 < 34 by omega) (veC_setG _ _)
      have F1 : Fr T T (fun c => c = t + 1 + 1 + i) w (w.setCell ⟨g2, k * 34 + 33, none⟩ (.bool true)) := Fr.cell (a := ⟨g2, k * 34 + 33, none⟩) hg2 _
      obtain ⟨cur3, hr3⟩ := V1.row_ rfl (by omega)
      have hx2 : (K[i].l.set k ⟨K[i].l[k].m, K[i].l[k].u, true⟩)[k]? = some ⟨K[i].l[k].m, K[i].l[k].u, true⟩ := List.getElem?_set_self hk
      obtain ⟨hst, V2⟩ := V1.setMat (f := fun _ => 0#8) rfl hx2 hr3
      have hst' := hst Tryz.prog 32
      rw [List.set_set] at V2
      generalize hW1 : w.setCell ⟨g2, k * 34 + 33, none⟩ (.bool true) = w1 at F1 hr3 hst V2 hst'
      have F2 := F1.trans (Fr.row (w := w1) (H := fun c => c = t + 1 + 1 + i) (B := g2) (by show T g2 = _; exact hg2) (spl cur3 (k * 34) (ba 32 fun _ => 0#8).toList))
      have hV2 := V2
      have HK := Lib.hid (KAt.back h.tg hrow F2 (by omega) (hrs.at_ hi hcell2 F2 (fun c e => e) hV2 (by rw [List.length_set])) hokK)
      have HF := Lib.hid (F2.mono (H' := Hk t) fun c e => by rw [e]; exact ⟨by omega, by omega⟩)
      have hf1 := hfr2 (k * 34 + 33)
      rw [hK, hE]
      generalize hW2 : w1.setRow g2 (spl cur3 (k * 34) (ba 32 fun _ => 0#8).toList) = w2 at HK HF hst' hst V2 F2 hV2
      clear hcells hrs hput hyes hE k1 hK hokK V1 F1 hst V2 hV2 F2 hvs hfr hfr2 HH hx hx2
      go_enter Tryz.func15, Tryz.ntmps15
      go_wp2_with fail
      refine (HIS.out).mono ?_
      rintro e w1' ⟨rfl, rfl⟩
      rw [show (decide (1 ≤ (i : Int) + 1) && decide ((i : Int) + 1 ≤ (K.length : Int))) = true from hok]
      go_wp2_with fail
      exact bodyPost_ret (v := .int .i64 0) (by simp [results, Tryz.results15, go_sem]) rfl ⟨rfl, T, HK.out, .same HF.out⟩
    · have hE : dsE K ((i : Int) + 1) ((k : Int) + 1) = 132 := by unfold dsE; rw [hyes, hrg, hve, hgn]; rfl
      rw [show dsK K ((i : Int) + 1) ((k : Int) + 1) = K by unfold dsK; rw [hE]; rfl, hE]
      rw [hgn] at k3
      clear hcells hrs hput hyes hE k1
      go_enter Tryz.func15, Tryz.ntmps15
      go_wp2_with fail
      refine (HIS.out).mono ?_
      rintro e w1 ⟨rfl, rfl⟩
      rw [show (decide (1 ≤ (i : Int) + 1) && decide ((i : Int) + 1 ≤ (K.length : Int))) = true from hok]
      go_wp2_with fail
      go_ret
      exact ⟨rfl, T, HH.out, .same (Fr.refl _ _ _)⟩
end Go.Proofs.YtamemjldafoolaaGreat.Oct

/-! ## KrC -/
/- Contract of the reference's Use and Material. -/
namespace Go.Proofs.YtamemjldafoolaaGreat.Oct
open Go.ChangeShapes Go.WideShapes Go.ChangeAt Go.RowKit
set_option linter.unusedVariables false

/-- a cell stored in two worlds that are the same below -/
theorem below_cell2 {D : Nat} {w w' : World} (h : Below D w w') (a : Addr) (v : Value) : Below D (w.setCell a v) (w'.setCell a v) := by
  refine ⟨h.os, h.tape, h.output, ?_, fun k hk => ?_⟩
  · have := h.size
    simpa [World.setCell] using this
  · simp only [World.setCell, Array.getElem?_modify, h.block k hk]
theorem Fr.same {T : Mk} {H : Nat → Prop} {w w' : World} (h : Below w.heap.size w w') : Fr T T H w w' := Fr.calm h fun _ _ => rfl

set_option maxRecDepth 20000 in
set_option maxHeartbeats 4000000 in
theorem rus_any (T : Mk) (t B : Nat) (K : Ks) (id : Int) (w : World) (h : KAt T w t 66 56 B K) :
    Calls Tryz.prog 35 #[.pointer (some ⟨B, 0, none⟩), .int .i64 id] w fun e w' => e = .returned (.tuple #[.int .i64 (usV K id), .int .i64 (usC K id), .agg (ba 32 (usM K id)), .int .i64 (usE K id)]) ∧ ∃ T', KAt T' w' t 66 56 B (usK K id) ∧ Fk T T' t w w' := by
  have HH := Lib.hid h
  have hfin : ∀ (tm : Array Value) (v c e : Int) (f : Bf), tm.getD 6 undef = .pointer (some ⟨w.heap.size, 0, none⟩) → tm.getD 4 undef = .int .i64 v → tm.getD 5 undef = .int .i64 c → tm.getD 7 undef = .int .i64 e → ∀ (w2 : World) (K' : Ks), (∃ T', KAt T' w2 t 66 56 B K' ∧ Fk T T' t w w2) → row w2 w.heap.size = some (ba 32 f) →
      bodyPost Tryz.prog Tryz.f35 (fun e' w' => e' = .returned (.tuple #[.int .i64 v, .int .i64 c, .agg (ba 32 f), .int .i64 e]) ∧ ∃ T', KAt T' w' t 66 56 B K' ∧ Fk T T' t w w') .ret { tmps := tm, defers := [] } w2 := by
    intro tm v c e f h6 h4 h5 h7 w2 K' hk q2
    refine bodyPost_ret (v := .tuple #[.int .i64 v, .int .i64 c, .agg (ba 32 f), .int .i64 e]) ?_ rfl ⟨rfl, hk⟩
    rw [← h4, ← h5, ← h7]
    exact res_ttctK (q := 4) (r := 5) (p := 6) (u := 7) rfl _ _ w.heap.size (ba 32 f) _ h6 q2 kk_u rfl (by rw [ba_size]; exact kk_i)
  have HFIN := Lib.hid hfin
  have B0 := Lib.hid ((Below.refl w.heap.size w).alloc (by simp) (.cells (ba 32 fun _ => 0#8) 32))
  clear hfin
  cases hok : hasK K id
  · obtain ⟨A, c, hc, hrow, hrs⟩ := h.open_
    have hE : usE K id = 130 := by unfold usE; rw [hok]; rfl
    rw [show usV K id = 0 by unfold usV; rw [hE]; rfl, show usC K id = 0 by unfold usC; rw [hE]; rfl, show usM K id = fun _ => 0#8 by unfold usM; rw [hE]; rfl, show usK K id = K by unfold usK; rw [hE]; rfl, hE]
    have hc0 := (B0.out.cell (p := ⟨B, 0, none⟩) (row_lt hrow)).trans hc
    go_enter Tryz.func35, Tryz.ntmps35
    go_wp2_with fail
    refine (ris_any B A K.length c id _ hc0).mono ?_
    rintro e w1 ⟨rfl, rfl⟩
    rw [show (decide (1 ≤ id) && decide (id ≤ (K.length : Int))) = false from hok]
    go_wp2_with fail
    exact HFIN.out _ _ _ _ _ rfl rfl rfl rfl _ _ ⟨T, HH.out.fr (Fr.same (H := fun _ => False) B0.out) (fun _ _ e => e), .same (Fr.same B0.out)⟩ (row_alloc_at _ _ _ _ rfl)
  · obtain ⟨i, hi, g, c, vi, rfl, hi8, hl8, hrg, hg, hc, hrow, hrs, hle, hfr, hcell, hcell2, hvs, hput⟩ := h.ring hok
    have hR := h.ok.ring hok
    rw [hrg] at hR
    obtain ⟨g2, c2, cur2, rfl, hle2, hm2, hg2, hr2, hfr2, hcells⟩ := hvs.open_ (by have := hR.1.1; omega)
    have hl4 := hR.1.2
    obtain ⟨k, hk⟩ : ∃ k, K[i].l.length = k + 1 := ⟨K[i].l.length - 1, by have := hR.1.1; omega⟩
    have hkl : k < K[i].l.length := by omega
    have hlast : lastV (rgAt K ((i : Int) + 1)) = K[i].l[k] := by unfold lastV; rw [hrg]; exact veAt_get k hkl (by omega)
    have e1 : (i : Int) + 1 - 1 = (i : Int) := by omega
    have hk4 : k < 4 := by omega
    have e2 : ((k + 1 : Nat) : Int) - 1 = (k : Int) := by omega
    rw [hk] at hcell2 hle2
    obtain ⟨k1, k2, k3⟩ := hcells k hkl
    have zg : g < w.heap.size := World.block_lt_of_cell? w _ hcell
    have zg2 : g2 < w.heap.size := row_lt hr2
    have zB := row_lt hrow
    obtain ⟨w0, hw0⟩ : ∃ w0, w0 = w.alloc (.cells (ba 32 fun _ => 0#8) 32) := ⟨_, rfl⟩
    rw [← hw0] at B0
    have hz0 : w0.heap.size = w.heap.size + 1 := by rw [hw0]; simp
    have rk0 : row w0 w.heap.size = some (ba 32 fun _ => 0#8) := by rw [hw0]; exact row_alloc_at _ _ _ _ rfl
    have hc0 := (B0.out.cell (p := ⟨B, 0, none⟩) zB).trans hc
    have hld0 := rin_cells w0 g (i * 2) K[i].off _ ((B0.out.cell (p := ⟨g, i * 2, none⟩) zg).trans hcell) ((B0.out.cell (p := ⟨g, i * 2 + 1, none⟩) zg).trans hcell2)
    obtain ⟨w1, hw1⟩ : ∃ w1, w1 = w0.alloc (.cells (rgA K[i].off (.slice (some ⟨g2, 0, none⟩) (k + 1) c2)) 66) := ⟨_, rfl⟩
    have B1 := Lib.hid (show Below w.heap.size w w1 by rw [hw1]; exact B0.out.alloc B0.out.size _)
    have rk1 : row w1 w.heap.size = some (ba 32 fun _ => 0#8) := by rw [hw1]; exact row_alloc rk0 _
    have rx1 : row w1 (w.heap.size + 1) = some (rgA K[i].off (.slice (some ⟨g2, 0, none⟩) (k + 1) c2)) := by rw [hw1]; exact row_alloc_at _ _ _ _ hz0.symm
    have x0 := rgA_c0 rx1
    have x1 := rgA_c1 rx1
    have y2 := (B1.out.cell (p := ⟨g2, k * 34 + 32, none⟩) zg2).trans k2
    have y3 := (B1.out.cell (p := ⟨g2, k * 34 + 33, none⟩) zg2).trans k3
    have HIS := Lib.hid (ris_any B _ K.length c ((i : Int) + 1) w0 hc0)
    have HW1 := Lib.hid hw1
    have HZ0 := Lib.hid hz0
    have KEEP := Lib.hid (show ∃ T', KAt T' w1 t 66 56 B K ∧ Fk T T' t w w1 from ⟨T, HH.out.fr (Fr.same (H := fun _ => False) B1.out) (fun _ _ e => e), .same (Fr.same B1.out)⟩)
    cases hoff : K[i].off
    · rw [hoff] at hld0 x0 rx1 hw1
      cases hgn : K[i].l[k].g
      · rw [hgn] at y3
        by_cases hu : 16 ≤ K[i].l[k].u
        · have hE : usE K ((i : Int) + 1) = 133 := by unfold usE; rw [if_pos hok, hlast, hrg, hoff, hgn, if_pos hu]; rfl
          rw [show usV K ((i : Int) + 1) = 0 by unfold usV; rw [hE]; rfl, show usC K ((i : Int) + 1) = 0 by unfold usC; rw [hE]; rfl, show usM K ((i : Int) + 1) = fun _ => 0#8 by unfold usM; rw [hE]; rfl, show usK K ((i : Int) + 1) = K by unfold usK; rw [hE]; rfl, hE]
          have hd : decide (16 ≤ K[i].l[k].u) = true := by simpa using hu
          clear h hcells hrs hput hvs hR hE hfr hfr2 hcell hcell2 k1 hz0 HW1 hr2 hc
          go_enter Tryz.func35, Tryz.ntmps35
          go_wp2_with fail
          rw [← hw0]
          refine (HIS.out).mono ?_
          rintro e w1' ⟨rfl, rfl⟩
          rw [show (decide (1 ≤ (i : Int) + 1) && decide ((i : Int) + 1 ≤ (K.length : Int))) = true from hok]
          clear hw0
          subst hw1
          go_wp2_with fail
          rw [setRow_self rk1]
          exact HFIN.out _ _ _ _ _ rfl rfl rfl rfl _ _ KEEP.out rk1
        · have hd : decide (16 ≤ K[i].l[k].u) = false := by simpa using hu
          have hE : usE K ((i : Int) + 1) = 0 := by unfold usE; rw [if_pos hok, hlast, hrg, hoff, hgn, if_neg hu]; rfl
          have hok' := hR.last
          rw [← hrg, hlast] at hok'
          have hu0 : 0 ≤ K[i].l[k].u ∧ K[i].l[k].u < 16 := ⟨hok'.1.1, by omega⟩
          obtain ⟨x, hx⟩ : ∃ x : Ve, x = ⟨K[i].l[k].m, K[i].l[k].u + 1, false⟩ := ⟨_, rfl⟩
          have hKK : usK K ((i : Int) + 1) = K.set i ⟨K[i].off, K[i].l.set k x⟩ := by
            unfold usK putV; rw [if_pos hE, hput, hlast, hrg, hgn, hx, show ((K[i].l.length : Int) - 1).toNat = k by omega]
          have hokK := hKK ▸ usK_ok (id := (i : Int) + 1) h.ok
          have hxe : (veC K[i].l[k]).set 32 (.int .i64 (K[i].l[k].u + 1)) = veC x := by rw [veC_setU, hx, hgn]
          have V1 := hvs.setOne (u := .int .i64 (K[i].l[k].u + 1)) rfl (List.getElem?_eq_getElem hkl) (show 32 < 34 by omega) hxe
          have F1 : Fr T T (fun c => c = t + 1 + 1 + i) w (w.setCell ⟨g2, k * 34 + 32, none⟩ (.int .i64 (K[i].l[k].u + 1))) := Fr.cell (a := ⟨g2, k * 34 + 32, none⟩) hg2 _
          rw [hk] at V1
          have KV := KAt.back h.tg hrow F1 (by omega) (hrs.at_ hi hcell2 F1 (fun c e => e) V1 (by rw [List.length_set])) hokK
          obtain ⟨g3, c3, cur3, e3, -, -, -, hr3, -, hcells3⟩ := V1.open_ (by rw [List.length_set]; omega)
          simp only [Value.slice.injEq, Option.some.injEq, Addr.mk.injEq] at e3
          obtain ⟨⟨rfl, -⟩, -, rfl⟩ := e3
          obtain ⟨m1, m2, -⟩ := hcells3 k (by rw [List.length_set]; omega)
          rw [List.getElem_set_self] at m1 m2
          have B2 := below_cell2 B1.out ⟨g2, k * 34 + 32, none⟩ (.int .i64 (K[i].l[k].u + 1))
          obtain ⟨U, hU⟩ : ∃ U, U = K[i].l[k].u := ⟨_, rfl⟩
          have hfz : w1.frozen? ⟨g2, k * 34 + 32, none⟩ = false := froz_row (by rw [row_below B1.out zg2]; exact hr2) _
          have zv : (w.setCell ⟨g2, k * 34 + 32, none⟩ (.int .i64 (K[i].l[k].u + 1))).heap.size = w.heap.size := by simp [World.setCell]
          obtain ⟨w2, hw2⟩ : ∃ w2, w2 = w1.setCell ⟨g2, k * 34 + 32, none⟩ (.int .i64 (K[i].l[k].u + 1)) := ⟨_, rfl⟩
          rw [← hw2] at B2
          generalize w.setCell ⟨g2, k * 34 + 32, none⟩ (.int .i64 (K[i].l[k].u + 1)) = wv at KV F1 V1 hr3 hcells3 m1 m2 B2 zv
          have B2' := Lib.hid (show Below wv.heap.size wv w2 by rw [zv]; exact B2)
          have HKV := Lib.hid KV
          have HF1 := Lib.hid (F1.mono (H' := Hk t) fun c e => by rw [e]; exact ⟨by omega, by omega⟩)
          have s1 : w2.heap.size = w1.heap.size := by rw [hw2]; simp [World.setCell]
          have r1 : row w2 w.heap.size = some (ba 32 fun _ => 0#8) := by rw [hw2, row_heap (Below.heap_setCell w1 _ _ _ (by show w.heap.size ≠ g2; omega))]; exact rk1
          have r2 : row w2 w0.heap.size = some (rgA false (.slice (some ⟨g2, 0, none⟩) (k + 1) c2)) := by
            rw [hw2, row_heap (Below.heap_setCell w1 _ _ _ (by show w0.heap.size ≠ g2; omega)), hz0]; exact rx1
          have r3 := rgA_c1 r2
          have n1 : ∀ j, j < 34 → w2.cell? ⟨g2, k * 34 + j, none⟩ = (veC x)[j]? := fun j hj => (B2.cell (p := ⟨g2, k * 34 + j, none⟩) zg2).trans (m1 j hj)
          have n2 : w2.cell? ⟨g2, k * 34 + 32, none⟩ = some (.int .i64 (K[i].l[k].u + 1)) := (B2.cell (p := ⟨g2, k * 34 + 32, none⟩) zg2).trans (by rw [m2, hx])
          have hzz : g2 < w2.heap.size ∧ w0.heap.size < w2.heap.size := ⟨by have := B1.out.size; omega, row_lt r2⟩
          rw [show usV K ((i : Int) + 1) = ((k + 1 : Nat) : Int) by unfold usV; rw [if_pos hE, hrg, hk], show usC K ((i : Int) + 1) = K[i].l[k].u by unfold usC; rw [if_pos hE, hlast], show usM K ((i : Int) + 1) = x.m by unfold usM; rw [if_pos hE, hlast, hx], hKK, hE]
          have HX := Lib.hid hx
          clear h hcells hrs hput hvs hR hE hfr hfr2 hcell hcell2 k1 hz0 HW1 hr2 hc hKK hokK hxe V1 F1 KV hcells3 m1 m2 B2 hr3 hx hok'
          go_enter Tryz.func35, Tryz.ntmps35
          go_wp2_with fail
          rw [← hw0]
          refine (HIS.out).mono ?_
          rintro e w1' ⟨rfl, rfl⟩
          rw [show (decide (1 ≤ (i : Int) + 1) && decide ((i : Int) + 1 ≤ (K.length : Int))) = true from hok]
          clear hw0
          subst hw1
          go_wp2_with fail
          rw [← hw2]
          clear r2 y2 y3 x0 x1 rx1 rk1 k2 k3 hld0
          have eu : K[i].l[k].u + 1 - 1 = K[i].l[k].u := by omega
          refine flow_seen [([0, 1, 2, 3, 4, 5, 6, 7, 8, 9, 10, 11, 12, 13], 14, true)] [15] (by kernel_rfl) (by kernel_rfl) (fun _ _ _ _ _ h => h) fun Z => ?_
          have q1 := carry Z.below r1
          have q3 := (Z.below.cell (p := ⟨w0.heap.size, 1, none⟩) hzz.2).trans r3
          have qn1 : ∀ j, j < 34 → Z.val.cell? ⟨g2, k * 34 + j, none⟩ = (veC x)[j]? := fun j hj => (Z.below.cell (p := ⟨g2, k * 34 + j, none⟩) hzz.1).trans (n1 j hj)
          have qn2 := (Z.below.cell (p := ⟨g2, k * 34 + 32, none⟩) hzz.1).trans n2
          have qz : g2 < Z.val.heap.size ∧ w0.heap.size < Z.val.heap.size := by have := Z.below.size; omega
          have B3 := Lib.hid (onto B2'.out B2'.out.size Z.below)
          clear r1 r3 n1 n2 hzz B2' hw2
          generalize Z.val = w3 at q1 q3 qn1 qn2 qz B3 ⊢
          clear Z
          have p1 : ∀ y : After w3, y.val.cell? ⟨w0.heap.size, 1, none⟩ = some (.slice (some ⟨g2, 0, none⟩) (k + 1) c2) := fun y => (y.below.cell (p := ⟨w0.heap.size, 1, none⟩) qz.2).trans q3
          have p2 : ∀ y : After w3, y.val.cell? ⟨g2, k * 34 + 32, none⟩ = some (.int .i64 (K[i].l[k].u + 1)) := fun y => (y.below.cell (p := ⟨g2, k * 34 + 32, none⟩) qz.1).trans qn2
          have p3 : ∀ y : After w3, ldR Tryz.prog 32 32 y.val g2 (k * 34) (row y.val g2) = .ok (.agg (ba 32 x.m)) y.val := fun y => mat_cells y.val g2 (k * 34) x fun j hj => (y.below.cell (p := ⟨g2, k * 34 + j, none⟩) qz.1).trans (qn1 j hj)
          simp only [wpFs, pk, List.getElem?_cons_zero, List.getElem?_cons_succ]
          repeat (go_big_quiet_step (fail))
          refine wpQuiet_nil ?_
          clear p1 p2 p3
          go_wp2_with fail
          refine ⟨.inl trivial, ?_⟩
          show wpQuiet _ _ _ _ _ _
          repeat (go_big_quiet_step (fail))
          refine wpQuiet_nil ?_
          go_wp2_with fail
          have B4 : Below wv.heap.size wv (w3.setRow w.heap.size (ba 32 x.m)) := below_setRow B3.out (by omega) _
          exact HFIN.out _ _ _ _ _ rfl rfl rfl rfl _ _ ⟨T, HKV.out.fr (Fr.same (H := fun _ => False) B4) (fun _ _ e => e), Fk.same (HF1.out.trans (Fr.same B4))⟩ (row_setRow q1 _)
      · have hE : usE K ((i : Int) + 1) = 132 := by unfold usE; rw [if_pos hok, hlast, hrg, hoff, hgn]; rfl
        rw [show usV K ((i : Int) + 1) = 0 by unfold usV; rw [hE]; rfl, show usC K ((i : Int) + 1) = 0 by unfold usC; rw [hE]; rfl, show usM K ((i : Int) + 1) = fun _ => 0#8 by unfold usM; rw [hE]; rfl, show usK K ((i : Int) + 1) = K by unfold usK; rw [hE]; rfl, hE]
        rw [hgn] at y3
        clear h hcells hrs hput hvs hR hE hfr hfr2 hcell hcell2 k1 hz0 HW1 hr2 hc
        go_enter Tryz.func35, Tryz.ntmps35
        go_wp2_with fail
        rw [← hw0]
        refine (HIS.out).mono ?_
        rintro e w1' ⟨rfl, rfl⟩
        rw [show (decide (1 ≤ (i : Int) + 1) && decide ((i : Int) + 1 ≤ (K.length : Int))) = true from hok]
        clear hw0
        subst hw1
        go_wp2_with fail
        rw [setRow_self rk1]
        exact HFIN.out _ _ _ _ _ rfl rfl rfl rfl _ _ KEEP.out rk1
    · have hE : usE K ((i : Int) + 1) = 131 := by unfold usE; rw [if_pos hok, hrg, hoff]; rfl
      rw [show usV K ((i : Int) + 1) = 0 by unfold usV; rw [hE]; rfl, show usC K ((i : Int) + 1) = 0 by unfold usC; rw [hE]; rfl, show usM K ((i : Int) + 1) = fun _ => 0#8 by unfold usM; rw [hE]; rfl, show usK K ((i : Int) + 1) = K by unfold usK; rw [hE]; rfl, hE]
      rw [hoff] at hld0 x0 rx1 hw1
      clear h hcells hrs hput hvs hR hE hfr hfr2 hcell hcell2 k1 hz0 HW1 hr2 hc
      go_enter Tryz.func35, Tryz.ntmps35
      go_wp2_with fail
      rw [← hw0]
      refine (HIS.out).mono ?_
      rintro e w1' ⟨rfl, rfl⟩
      rw [show (decide (1 ≤ (i : Int) + 1) && decide ((i : Int) + 1 ≤ (K.length : Int))) = true from hok]
      clear hw0
      subst hw1
      go_wp2_with fail
      rw [setRow_self rk1]
      exact HFIN.out _ _ _ _ _ rfl rfl rfl rfl _ _ KEEP.out rk1
end Go.Proofs.YtamemjldafoolaaGreat.Oct

/-! ## KrD -/
/- Contract of the reference's Material. -/
namespace Go.Proofs.YtamemjldafoolaaGreat.Oct
open Go.ChangeShapes Go.WideShapes Go.ChangeAt Go.RowKit
set_option linter.unusedVariables false

set_option maxRecDepth 20000 in
set_option maxHeartbeats 4000000 in
theorem rmt_any (T : Mk) (t B : Nat) (K : Ks) (id ver : Int) (w : World) (h : KAt T w t 66 56 B K) :
    Calls Tryz.prog 40 #[.pointer (some ⟨B, 0, none⟩), .int .i64 id, .int .i64 ver] w fun e w' => e = .returned (.tuple #[.agg (ba 32 (mtM K id ver)), .int .i64 (mtE K id ver)]) ∧ Below w.heap.size w w' := by
  have hfin : ∀ (tm : Array Value) (e : Int) (f : Bf), tm.getD 6 undef = .pointer (some ⟨w.heap.size, 0, none⟩) → tm.getD 7 undef = .int .i64 e → ∀ (w2 : World), Below w.heap.size w w2 → row w2 w.heap.size = some (ba 32 f) →
      bodyPost Tryz.prog Tryz.f40 (fun e' w' => e' = .returned (.tuple #[.agg (ba 32 f), .int .i64 e]) ∧ Below w.heap.size w w') .ret { tmps := tm, defers := [] } w2 := by
    intro tm e f h6 h7 w2 hb q2
    refine bodyPost_ret (v := .tuple #[.agg (ba 32 f), .int .i64 e]) ?_ rfl ⟨rfl, hb⟩
    rw [← h7]
    exact res_ctK (p := 6) (u := 7) rfl _ _ w.heap.size (ba 32 f) _ h6 q2 kk_u rfl (by rw [ba_size]; exact kk_i)
  have HFIN := Lib.hid hfin
  obtain ⟨w0, hw0⟩ : ∃ w0, w0 = w.alloc (.cells (ba 32 fun _ => 0#8) 32) := ⟨_, rfl⟩
  have B0 := Lib.hid (show Below w.heap.size w w0 by rw [hw0]; exact (Below.refl w.heap.size w).alloc (by simp) _)
  have hz0 : w0.heap.size = w.heap.size + 1 := by rw [hw0]; simp
  have rk0 : row w0 w.heap.size = some (ba 32 fun _ => 0#8) := by rw [hw0]; exact row_alloc_at _ _ _ _ rfl
  clear hfin
  cases hok : hasK K id
  · obtain ⟨A, c, hc, hrow, hrs⟩ := h.open_
    have hno : hasV K id ver = false := by unfold hasV; rw [hok]; rfl
    have hE : mtE K id ver = 130 := by unfold mtE; rw [hno]; rfl
    rw [show mtM K id ver = fun _ => 0#8 by unfold mtM; rw [hE]; rfl, hE]
    have hc0 := (B0.out.cell (p := ⟨B, 0, none⟩) (row_lt hrow)).trans hc
    have HIS := Lib.hid (ris_any B A K.length c id w0 hc0)
    clear h hrs
    go_enter Tryz.func40, Tryz.ntmps40
    go_wp2_with fail
    rw [← hw0]
    refine HIS.out.mono ?_
    rintro e w1 ⟨rfl, rfl⟩
    rw [show (decide (1 ≤ id) && decide (id ≤ (K.length : Int))) = false from hok]
    clear hw0
    go_wp2_with fail
    rw [setRow_self rk0]
    exact HFIN.out _ _ _ rfl rfl _ B0.out rk0
  · obtain ⟨i, hi, g, c, vi, rfl, hi8, hl8, hrg, hg, hc, hrow, hrs, hle, hfr, hcell, hcell2, hvs, hput⟩ := h.ring hok
    have hR := h.ok.ring hok
    rw [hrg] at hR
    obtain ⟨g2, c2, cur2, rfl, hle2, hm2, hg2, hr2, hfr2, hcells⟩ := hvs.open_ (by have := hR.1.1; omega)
    have hl4 := hR.1.2
    have e1 : (i : Int) + 1 - 1 = (i : Int) := by omega
    have zg : g < w.heap.size := World.block_lt_of_cell? w _ hcell
    have zg2 : g2 < w.heap.size := row_lt hr2
    have hc0 := (B0.out.cell (p := ⟨B, 0, none⟩) (row_lt hrow)).trans hc
    have HIS := Lib.hid (ris_any B _ K.length c ((i : Int) + 1) w0 hc0)
    have y0 := (B0.out.cell (p := ⟨g, i * 2, none⟩) zg).trans hcell
    have y1 := (B0.out.cell (p := ⟨g, i * 2 + 1, none⟩) zg).trans hcell2
    by_cases hv1 : ver < 1
    · have hno : hasV K ((i : Int) + 1) ver = false := by
        cases hh : hasV K ((i : Int) + 1) ver
        · rfl
        · have := (hasV_iff.1 hh).2.1; omega
      have hE : mtE K ((i : Int) + 1) ver = 130 := by unfold mtE; rw [hno]; rfl
      rw [show mtM K ((i : Int) + 1) ver = fun _ => 0#8 by unfold mtM; rw [hE]; rfl, hE]
      have hd : decide (ver < 1) = true := by simpa using hv1
      clear h hcells hrs hput hvs hR hE hfr hfr2 hcell hcell2 hz0 hr2 hc
      go_enter Tryz.func40, Tryz.ntmps40
      go_wp2_with fail
      rw [← hw0]
      refine HIS.out.mono ?_
      rintro e w1 ⟨rfl, rfl⟩
      rw [show (decide (1 ≤ (i : Int) + 1) && decide ((i : Int) + 1 ≤ (K.length : Int))) = true from hok]
      clear hw0
      go_wp2_with fail
      rw [setRow_self rk0]
      exact HFIN.out _ _ _ rfl rfl _ B0.out rk0
    have hd : decide (ver < 1) = false := by simpa using hv1
    by_cases hv2 : (K[i].l.length : Int) < ver
    · have hno : hasV K ((i : Int) + 1) ver = false := by
        cases hh : hasV K ((i : Int) + 1) ver
        · rfl
        · have := (hasV_iff.1 hh).2.2; rw [hrg] at this; omega
      have hE : mtE K ((i : Int) + 1) ver = 130 := by unfold mtE; rw [hno]; rfl
      rw [show mtM K ((i : Int) + 1) ver = fun _ => 0#8 by unfold mtM; rw [hE]; rfl, hE]
      have hd2 : decide ((K[i].l.length : Int) < ver) = true := by simpa using hv2
      clear h hcells hrs hput hvs hR hE hfr hfr2 hcell hcell2 hz0 hr2 hc
      go_enter Tryz.func40, Tryz.ntmps40
      go_wp2_with fail
      rw [← hw0]
      refine HIS.out.mono ?_
      rintro e w1 ⟨rfl, rfl⟩
      rw [show (decide (1 ≤ (i : Int) + 1) && decide ((i : Int) + 1 ≤ (K.length : Int))) = true from hok]
      clear hw0
      go_wp2_with fail
      rw [setRow_self rk0]
      exact HFIN.out _ _ _ rfl rfl _ B0.out rk0
    have hd2 : decide ((K[i].l.length : Int) < ver) = false := by simpa using hv2
    obtain ⟨k, hk, rfl, hve, hpv⟩ := ver_num (r := K[i]) (v := ver) (by omega) (by omega)
    have hk4 : k < 4 := by omega
    have e2 : (k : Int) + 1 - 1 = (k : Int) := by omega
    have hyes : hasV K ((i : Int) + 1) ((k : Int) + 1) = true := hasV_iff.2 ⟨hasK_iff.1 hok, by omega, by rw [hrg]; omega⟩
    obtain ⟨k1, k2, k3⟩ := hcells k hk
    cases hoff : K[i].off
    · rw [hoff] at y0
      obtain ⟨x, hx⟩ : ∃ x, x = K[i].l[k] := ⟨_, rfl⟩
      rw [← hx] at k1 hve
      have hld := ver_cells w0 g2 (k * 34) x fun j hj => (B0.out.cell (p := ⟨g2, k * 34 + j, none⟩) zg2).trans (k1 j hj)
      have B1 := Lib.hid (B0.out.alloc B0.out.size (.cells (veA x) 56))
      have rk1 := row_alloc rk0 (.cells (veA x) 56)
      cases hgn : x.g
      · have hE : mtE K ((i : Int) + 1) ((k : Int) + 1) = 0 := by unfold mtE; rw [hyes, hrg, hve, hoff, hgn]; rfl
        rw [show mtM K ((i : Int) + 1) ((k : Int) + 1) = x.m by unfold mtM; rw [if_pos hE, hrg, hve], hE]
        clear h hcells hrs hput hvs hR hE hfr hfr2 hcell hcell2 k1 hz0 hr2 hc hx hyes hpv hve
        go_enter Tryz.func40, Tryz.ntmps40
        go_wp2_with fail
        rw [← hw0]
        refine HIS.out.mono ?_
        rintro e w1 ⟨rfl, rfl⟩
        rw [show (decide (1 ≤ (i : Int) + 1) && decide ((i : Int) + 1 ≤ (K.length : Int))) = true from hok]
        clear hw0
        go_wp2_with fail
        exact HFIN.out _ _ _ rfl rfl _ (below_setRow B1.out (Nat.le_refl _) _) (row_setRow rk1 _)
      · have hE : mtE K ((i : Int) + 1) ((k : Int) + 1) = 132 := by unfold mtE; rw [hyes, hrg, hve, hoff, hgn]; rfl
        rw [show mtM K ((i : Int) + 1) ((k : Int) + 1) = fun _ => 0#8 by unfold mtM; rw [hE]; rfl, hE]
        clear h hcells hrs hput hvs hR hE hfr hfr2 hcell hcell2 k1 hz0 hr2 hc hx hyes hpv hve
        go_enter Tryz.func40, Tryz.ntmps40
        go_wp2_with fail
        rw [← hw0]
        refine HIS.out.mono ?_
        rintro e w1 ⟨rfl, rfl⟩
        rw [show (decide (1 ≤ (i : Int) + 1) && decide ((i : Int) + 1 ≤ (K.length : Int))) = true from hok]
        clear hw0
        go_wp2_with fail
        rw [setRow_self rk1]
        exact HFIN.out _ _ _ rfl rfl _ B1.out rk1
    · rw [hoff] at y0
      have hE : mtE K ((i : Int) + 1) ((k : Int) + 1) = 131 := by unfold mtE; rw [hyes, hrg, hoff]; rfl
      rw [show mtM K ((i : Int) + 1) ((k : Int) + 1) = fun _ => 0#8 by unfold mtM; rw [hE]; rfl, hE]
      clear h hcells hrs hput hvs hR hE hfr hfr2 hcell hcell2 hz0 hr2 hc
      go_enter Tryz.func40, Tryz.ntmps40
      go_wp2_with fail
      rw [← hw0]
      refine HIS.out.mono ?_
      rintro e w1 ⟨rfl, rfl⟩
      rw [show (decide (1 ≤ (i : Int) + 1) && decide ((i : Int) + 1 ≤ (K.length : Int))) = true from hok]
      clear hw0
      go_wp2_with fail
      rw [setRow_self rk0]
      exact HFIN.out _ _ _ rfl rfl _ B0.out rk0
end Go.Proofs.YtamemjldafoolaaGreat.Oct

/-! ## KrE -/
/- Contract of the reference's Rotate. -/
namespace Go.Proofs.YtamemjldafoolaaGreat.Oct
open Go.ChangeShapes Go.WideShapes Go.ChangeAt Go.RowKit
set_option linter.unusedVariables false

theorem ownsRow_calmK {w w' : World} {b n k : Nat} {u : TypeId} {v : Value} {xs : List Value} (h : w.ownsRow b u k v n xs) (hb : Below w.heap.size w w') : w'.ownsRow b u k v n xs := by
  refine ⟨h.1, ?_⟩
  rcases h.2 with hn | ⟨g, cap, cur, e, hbg, hg, rest⟩
  · exact .inl hn
  · exact .inr ⟨g, cap, cur, e, hbg, by rw [hb.block g (Array.getElem?_eq_some_iff.1 hg).1]; exact hg, rest⟩
theorem wpl_appK {P : Program} {w : World} {ops : Array Oper} {rest : List Oper} {o : Oper} {a : Act} {Q : Exit → Act → World → Prop} (hgd : o.guard = none) (s y : Operand) {t u : TypeId} {z : Value} {k bytes : Nat} (ho : o.op = .call { callee := .builtin .append, args := #[s, y], argTypes := #[t, t] })
    (ht : P.underlying t = some (.slice u)) (hi : (P.info? u).map (fun i => (i.zero, i.size, i.bytes)) = some (some z, k, bytes)) (hz : z.cells.size = k) (hk : 0 < k) (hb : bytes ≤ 64)
    {v : Value} {n : Nat} {xs : List Value} (hown : w.ownsRow 0 u k v n xs) {p : Nat} {vs : List Value} (hr : row w p = some vs.toArray) (hl : vs.length = k) (h1 : ∀ x ∈ vs, x.oneCell' = true) (hn : n ≤ 1000000000000)
    (hv : a.eval s = v) (hy : a.eval y = .slice (some ⟨p, 0, none⟩) 1 1)
    (h : ∀ v' w', w'.ownsRow 0 u k v' (n + 1) (xs ++ vs) → w.grownBy w' v.ownBlock → (v'.ownBlock = v.ownBlock ∨ v'.ownBlock = some w.heap.size) → wpList P ops Q rest (a.put o.dst v') w') : wpList P ops Q (o :: rest) a w := by
  refine wpList_plain hgd fun K hK => ?_
  cases hq : P.info? u with
  | none => rw [hq] at hi; cases hi
  | some i =>
    rw [hq] at hi
    have h0 : (i.zero, i.size, i.bytes) = (some z, k, bytes) := Option.some.inj hi
    simp only [Prod.mk.injEq] at h0
    obtain ⟨z0, z1, z2⟩ := h0
    obtain ⟨v', w', a1, a2, a3, _, a5⟩ := run_append_own_at (P := P) w 0 t o.type u i z k bytes ht hq z0 z1 z2 hz hk v n xs hown ⟨p, 0, none⟩ 1 1 vs (by omega)
      (fun j x hx => by rw [add_mid, Nat.zero_add, cell_row hr, List.getElem?_toArray]; exact hx) h1 (by unfold maxLen; omega) (by have := Nat.mul_le_mul (show n + 1 ≤ 1000000000001 by omega) hb; omega) (Nat.zero_le _)
    unfold Oper.wp execOp
    simp only [ho, resolve, invoke, builtin, Sem.run_bind, Sem.run_pure, Result.andThen_ok, List.map_toArray, List.map_cons, List.map_nil, hv, hy, a1]
    exact hK _ _ (h v' w' a2 a3 a5)
/-- two blocks are known -/
def TwoK (a : Nat) (x : Array Value) (b : Nat) (y : Array Value) (w : World) : Prop := row w a = some x ∧ row w b = some y
section
variable {a b : Nat} {x y : Array Value} {w : World}
theorem TwoK.of (h1 : row w a = some x) (h2 : row w b = some y) : TwoK a x b y w := ⟨h1, h2⟩
theorem TwoK.fst (h : TwoK a x b y w) : row w a = some x := h.1
theorem TwoK.snd (h : TwoK a x b y w) : row w b = some y := h.2
theorem TwoK.alloc (w : World) (z : Obj) (h : TwoK a x b y w) : TwoK a x b y (w.alloc z) := ⟨row_alloc h.1 z, row_alloc h.2 z⟩
theorem TwoK.drewN (h : TwoK a x b y w) (n : Nat) : TwoK a x b y (w.drewN n) := ⟨by rw [row_drewN]; exact h.1, by rw [row_drewN]; exact h.2⟩
end
theorem RsAt.row_ {T : Mk} {w : World} {t : Nat} {eR eV : TypeId} {K : Ks} {g n c : Nat} (h : RsAt T w t eR eV (.slice (some ⟨g, 0, none⟩) n c) K) (hn : 0 < n) : ∃ cur, Oct.row w g = some cur := by
  obtain ⟨A, c', e1, -, -, h3⟩ := h.form
  simp only [Value.slice.injEq] at e1
  obtain ⟨rfl, rfl, rfl⟩ := e1
  obtain ⟨g', cur, e2, -, hr, -⟩ := h3 hn
  cases e2
  exact ⟨cur, hr⟩
theorem ex_verK (ρ : Operand → Value) {o : Oper} (t : Operand) (ho : o.op = .buildSlice 64 1 #[(0, t)]) (v : Ve) (hx : ρ t = .agg (veA v)) (w : World) : (execOp ρ o).run Tryz.prog w = .ok (.value (.slice (some ⟨w.heap.size, 0, none⟩) 1 1)) (w.alloc (.cells (veA v) 56)) := by
  unfold execOp
  simp only [ho, Sem.run_bind, List.map_toArray, List.map_cons, List.map_nil, hx]
  rw [vers_bs, vers_b1]
  rfl

set_option maxRecDepth 20000 in
set_option maxHeartbeats 4000000 in
theorem rrt_any (T : Mk) (t B : Nat) (K : Ks) (id : Int) (m : Bf) (w : World) (h : KAt T w t 66 56 B K) :
    Calls Tryz.prog 11 #[.pointer (some ⟨B, 0, none⟩), .int .i64 id, .agg (ba 32 m)] w fun e w' => e = .returned (.tuple #[.int .i64 (rtN K id), .int .i64 (rtE K id)]) ∧ ∃ T', KAt T' w' t 66 56 B (rtK K id m) ∧ Fk T T' t w w' := by
  obtain ⟨w0, hw0⟩ : ∃ w0, w0 = w.alloc (.cells (ba 32 m) 32) := ⟨_, rfl⟩
  have B0 := Lib.hid (show Below w.heap.size w w0 by rw [hw0]; exact (Below.refl w.heap.size w).alloc (by simp) _)
  have hz0 : w0.heap.size = w.heap.size + 1 := by rw [hw0]; simp
  have rm0 : row w0 w.heap.size = some (ba 32 m) := by rw [hw0]; exact row_alloc_at _ _ _ _ rfl
  have h0 := h.fr (Fr.same (H := fun _ => False) B0.out) (fun _ _ e => e)
  have HK0 := Lib.hid (show ∃ T', KAt T' w0 t 66 56 B K ∧ Fk T T' t w w0 from ⟨T, h0, .same (Fr.same B0.out)⟩)
  cases hok : hasK K id
  · obtain ⟨A, c, hc, hrow, hrs⟩ := h0.open_
    have hE : rtE K id = 130 := by unfold rtE; rw [hok]; rfl
    rw [show rtN K id = 0 by unfold rtN; rw [hE]; rfl, show rtK K id m = K by unfold rtK; rw [hE]; rfl, hE]
    have HIS := Lib.hid (ris_any B A K.length c id w0 hc)
    clear h h0 hrs
    go_enter Tryz.func11, Tryz.ntmps11
    go_wp2_with fail
    rw [← hw0]
    refine HIS.out.mono ?_
    rintro e w1 ⟨rfl, rfl⟩
    rw [show (decide (1 ≤ id) && decide (id ≤ (K.length : Int))) = false from hok]
    clear hw0
    go_wp2_with fail
    exact bodyPost_ret (v := .tuple #[.int .i64 0, .int .i64 130]) (by simp [results, Tryz.results11, go_sem]) rfl ⟨rfl, HK0.out⟩
  · obtain ⟨i, hi, g, c, vi, rfl, hi8, hl8, hrg, hg, hcw, hroww, hrsw, hle, hfrw, hcellw, hcell2w, hvsw, hput⟩ := h.ring hok
    have hR := h.ok.ring hok
    rw [hrg] at hR
    obtain ⟨g2, c2, cur2, rfl, hle2, hm2, hg2, hr2w, -, -⟩ := hvsw.open_ (by have := hR.1.1; omega)
    have zgw : g < w.heap.size := World.block_lt_of_cell? w _ hcellw
    have zg2w : g2 < w.heap.size := row_lt hr2w
    have hc := (B0.out.cell (p := ⟨B, 0, none⟩) (row_lt hroww)).trans hcw
    have hrow := carry B0.out hroww
    have hrs := hrsw.fr (Fr.same (H := fun _ => False) B0.out) (fun _ _ _ e => e)
    have hvs := hvsw.fr (Fr.same (H := fun _ => False) B0.out) (fun e => e)
    have hcell2 := (B0.out.cell (p := ⟨g, i * 2 + 1, none⟩) zgw).trans hcell2w
    have hr2 := carry B0.out hr2w
    clear hcw hroww hrsw hfrw hcellw hcell2w hvsw hr2w
    have hl4 := hR.1.2
    have hl1 := hR.1.1
    have e1 : (i : Int) + 1 - 1 = (i : Int) := by omega
    have HIS := Lib.hid (ris_any B _ K.length c ((i : Int) + 1) w0 hc)
    by_cases hfull : 4 ≤ K[i].l.length
    · have hE : rtE K ((i : Int) + 1) = 134 := by unfold rtE; rw [if_pos hok, hrg, if_pos hfull]
      rw [show rtN K ((i : Int) + 1) = 0 by unfold rtN; rw [hE]; rfl, show rtK K ((i : Int) + 1) m = K by unfold rtK; rw [hE]; rfl, hE]
      have hd : decide ((4 : Int) ≤ (K[i].l.length : Int)) = true := by simp; omega
      clear h h0 hrs hput hvs hR hE hr2
      go_enter Tryz.func11, Tryz.ntmps11
      go_wp2_with fail
      rw [← hw0]
      refine HIS.out.mono ?_
      rintro e w1 ⟨rfl, rfl⟩
      rw [show (decide (1 ≤ (i : Int) + 1) && decide ((i : Int) + 1 ≤ (K.length : Int))) = true from hok]
      clear hw0
      go_wp2_with fail
      exact bodyPost_ret (v := .tuple #[.int .i64 0, .int .i64 134]) (by simp [results, Tryz.results11, go_sem]) rfl ⟨rfl, HK0.out⟩
    · have hE : rtE K ((i : Int) + 1) = 0 := by unfold rtE; rw [if_pos hok, hrg, if_neg hfull]
      have hd : decide ((4 : Int) ≤ (K[i].l.length : Int)) = false := by simp; omega
      obtain ⟨n, hn⟩ : ∃ n, n = K[i].l.length := ⟨_, rfl⟩
      have hKK : rtK K ((i : Int) + 1) m = K.set i ⟨K[i].off, K[i].l ++ [⟨m, 0, false⟩]⟩ := by unfold rtK; rw [if_pos hE, hput, hrg]
      have hokK := hKK ▸ rtK_ok (id := (i : Int) + 1) h.ok m
      rw [show rtN K ((i : Int) + 1) = (n : Int) + 1 by unfold rtN; rw [if_pos hE, hrg, hn], hKK, hE]
      obtain ⟨curG, hrG⟩ := hrs.row_ (by omega)
      have hcG : curG[i * 2 + 1]? = some (.slice (some ⟨g2, 0, none⟩) K[i].l.length c2) := by rw [← cell_row hrG]; exact hcell2
      have HVS := Lib.hid hvs
      have HRS := Lib.hid hrs
      have HCG := Lib.hid hcG
      have HG2 := Lib.hid hg2
      have HGG := Lib.hid hg
      have HTB := Lib.hid h0.tg
      have HROW := Lib.hid hrow
      have HOK := Lib.hid hokK
      have zg2 : g2 < w0.heap.size := row_lt hr2
      have zg : g < w0.heap.size := row_lt hrG
      rw [← hn] at hd hcell2 HVS HCG
      have HN := Lib.hid hn
      rw [← hn] at hl4 hl1 hfull hle2
      clear hn
      have hn4 : n < 4 := by omega
      clear h h0 hrs hput hvs hR hE hr2 hKK hokK hcG hrow
      go_enter Tryz.func11, Tryz.ntmps11
      go_wp2_with fail
      rw [← hw0]
      refine HIS.out.mono ?_
      rintro e w1 ⟨rfl, rfl⟩
      rw [show (decide (1 ≤ (i : Int) + 1) && decide ((i : Int) + 1 ≤ (K.length : Int))) = true from hok]
      clear hw0
      go_wp2_with fail
      refine flow_shut 11 [.inl [0, 1, 2, 3, 4, 5, 6], pS 7, pU 7, pE 8, .inl [9, 10], pE 11] (TwoK g curG w.heap.size (ba 32 m)) [g, g2] (by kernel_rfl) (by kernel_rfl) (fun _ _ _ _ _ h => h) (fun _ _ _ _ _ h => h) TwoK.alloc (TwoK.of hrG rm0 |>.drewN 1) (fun k hk => by
        simp only [List.mem_cons, List.not_mem_nil, or_false] at hk
        rcases hk with rfl | rfl
        · exact zg
        · exact zg2) ?_
      have hne : Nonempty (In (TwoK g curG w.heap.size (ba 32 m))) := ⟨⟨w0, TwoK.of hrG rm0⟩⟩
      have B2 := Lib.hid (below_drewN (Below.refl w0.heap.size w0) 1)
      have z2 : (w0.drewN 1).heap.size = w0.heap.size := rfl
      obtain ⟨w2, hw2⟩ : ∃ w2, w2 = w0.drewN 1 := ⟨_, rfl⟩
      rw [← hw2] at B2 z2 ⊢
      clear hw2 hc hcell2
      have q1 : ∀ y : In (TwoK g curG w.heap.size (ba 32 m)), y.val.cell? ⟨g, i * 2 + 1, none⟩ = some (.slice (some ⟨g2, 0, none⟩) n c2) := fun y => by rw [cell_row (TwoK.fst y.ok)]; exact HCG.out
      have q2 : ∀ y : In (TwoK g curG w.heap.size (ba 32 m)), row y.val w.heap.size = some (ba 32 m) := fun y => TwoK.snd y.ok
      refine wpM_q ?_
      simp only [pk, List.getElem?_cons_zero, List.getElem?_cons_succ]
      repeat (go_big_quiet_step (fail))
      refine wpQuiet_nil ?_
      clear q1 q2
      refine wpM_s (fun p => .slice (some ⟨p, 0, none⟩) 1 1) (.cells (veA ⟨m, 0, false⟩) 56) _ rfl rfl (fun w => ex_verK _ (.tmp 32) rfl _ rfl w) ?_
      refine wpM_u _ _ _ 33 (.head _) rfl rfl (fun y hy p hp1 hp2 hp3 hp4 => ?_)
      refine wpM_e _ rfl (fun y2 hy2 => ?_)
      have B3 := Lib.hid (onto (onto B2.out B2.out.size y.below) (by have := B2.out.size; have := y.below.size; omega) y2.below)
      have R3 := Lib.hid (carry y2.below (row_of hp4))
      have C3 := Lib.hid hy2
      obtain ⟨w3, hw3⟩ : ∃ w3, w3 = y2.val := ⟨_, rfl⟩
      rw [← hw3] at B3 R3 C3 ⊢
      clear hw3 hy2 hy hp3 hp4 hp2 B2 y2 y
      have V3 := Lib.hid (HVS.out.fr (Fr.same (H := fun _ => False) B3.out) (fun e => e))
      have hrow3 : row w3 p = some (veC ⟨m, 0, false⟩).toArray := by rw [R3.out]; unfold veA; rfl
      have own3 := V3.out.own
      rw [← HN.out] at own3
      go_wp2_with (refine wpl_appK rfl (.tmp 30) (.tmp 33) rfl vers_u ver_info (veA_size _) (by decide) (by decide) own3 hrow3 (veC_len _) (veC_one _) (by omega) rfl rfl ?_; intro v4 w4 ho4 hg4 ht4)
      have ho4' : w4.ownsRow 0 56 34 v4 (K[i].l.length + [(⟨m, 0, false⟩ : Ve)].length) (vsC K[i].l ++ vsC [⟨m, 0, false⟩]) := by rw [vsC_one1, ← HN.out]; exact ho4
      have V4 := Lib.hid (V3.out.app ho4' hg4 ht4)
      have hgo : (Value.slice (some ⟨g2, 0, none⟩ : Option Addr) n c2).ownBlock = some g2 := rfl
      have hne2 : g ≠ g2 := fun e => by have h1 := HG2.out; have h2 := HGG.out; rw [← e, h2] at h1; omega
      have R4 := Lib.hid (TwoK.of (grown_row hg4 (TwoK.fst C3.out) (fun e => by rw [hgo] at e; exact hne2 (Option.some.inj e).symm)) (grown_row hg4 (TwoK.snd C3.out) (fun e => by rw [hgo] at e; have := Option.some.inj e; omega)))
      have F4 := Lib.hid ((Fr.same (T := T) (H := fun c => c = t + 1 + 1 + i) B3.out).trans (Fr.grown (H := fun c => c = t + 1 + 1 + i) hg4 (fun k hk => by rw [hgo] at hk; cases hk; exact HG2.out) (t + 1 + 1 + i)))
      refine same_class (C := TwoK g curG w.heap.size _) [g] ((Frm.app hg4).more (fun k hk => by rw [hgo] at hk; simp at hk; rw [hk]; simp)) (fun k hk => by simp at hk; subst hk; exact ⟨.inl (by simp), row_lt (TwoK.fst R4.out)⟩) R4.out TwoK.alloc ?_
      clear ho4 ho4' hg4 ht4 R3 C3 V3 hrow3 own3
      refine wpM_q ?_
      simp only [pk, List.getElem?_cons_zero, List.getElem?_cons_succ]
      repeat (go_big_quiet_step (fail))
      refine wpQuiet_nil ?_
      clear hne
      refine wpM_e _ rfl (fun y hy => ?_)
      have T5 := Lib.hid (TwoK.fst hy)
      have F5 := Lib.hid (F4.out.trans (Fr.same y.below))
      have V5 := Lib.hid (V4.out.fr (Fr.same (H := fun _ => False) y.below) (fun e => e))
      obtain ⟨w5, hw5⟩ : ∃ w5, w5 = y.val := ⟨_, rfl⟩
      obtain ⟨T9, hT9⟩ : ∃ T9, T9 = paint T w3.heap.size (t + 1 + 1 + i) := ⟨_, rfl⟩
      have HM9 := Lib.hid (show ∀ k, T9 k = T k ∨ Hk t (T9 k) from fun k => by
        rw [hT9]
        by_cases hk : k < w3.heap.size
        · exact .inl (paint_old hk)
        · rw [paint_new (by omega)]; exact .inr ⟨by omega, by omega⟩)
      rw [← hw5] at T5 F5 V5 ⊢
      rw [← hT9] at F5 V5
      clear hw5 hT9 y hy R4 V4 F4
      obtain ⟨A6, c6, hv6, hle6, -⟩ := V5.out.form
      subst hv6
      obtain ⟨N6, hN6⟩ : ∃ N6, N6 = (K[i].l ++ [(⟨m, 0, false⟩ : Ve)]).length := ⟨_, rfl⟩
      have HN6 := Lib.hid (show N6 = n + 1 by rw [hN6, List.length_append, ← HN.out]; rfl)
      have V5' := V5.out
      rw [← hN6] at V5' ⊢
      have k0 : w5.cell? ⟨g, i * 2 + 1, none⟩ = some (.slice (some ⟨g2, 0, none⟩) n c2) := by rw [cell_row T5.out]; exact HCG.out
      have k1 := froz_row T5.out (i * 2 + 1)
      have hRS := HRS.out.setL hi F5.out V5'
      have hF6 := F5.out.mono (H' := fun c => c = t + 1 ∨ c = t + 1 + 1 + i) (fun c e => .inr e)
      have hF7 := hF6.trans (Fr.cell (T := T9) (w := w5) (H := fun c => c = t + 1 ∨ c = t + 1 + 1 + i) (a := ⟨g, i * 2 + 1, none⟩) (.inl (by show T9 g = t + 1; rw [F5.out.tag g zg]; exact HGG.out)) (.slice A6 N6 c6))
      have HK := Lib.hid (KAt.back HTB.out HROW.out hF7 (by omega) hRS HOK.out)
      have HF := Lib.hid ((Fr.same (T := T) (H := Hk t) B0.out).trans (hF7.mono (H' := Hk t) fun c e => by rcases e with rfl | rfl <;> exact ⟨by omega, by omega⟩))
      have hcN : (w5.setCell ⟨g, i * 2 + 1, none⟩ (.slice A6 N6 c6)).cell? ⟨g, i * 2 + 1, none⟩ = some (.slice A6 N6 c6) := by
        rw [setCell_row T5.out, cell_row (row_setRow T5.out _)]
        exact Array.getElem?_setIfInBounds_self_of_lt (Array.getElem?_eq_some_iff.1 HCG.out).1
      have hfrm := Frm.row (hot := [g]) w5 (curG.setIfInBounds (i * 2 + 1) (.slice A6 N6 c6)) (p := g) (by simp)
      rw [← setCell_row T5.out] at hfrm
      clear hN6 V5 V5' hRS hF6 hF7 F5
      go_wp2_with fail
      refine end_class (fun _ => True) [] hfrm hot_none trivial (fun _ _ h => h) ?_
      obtain ⟨w6, hw6⟩ : ∃ w6, w6 = w5.setCell ⟨g, i * 2 + 1, none⟩ (.slice A6 N6 c6) := ⟨_, rfl⟩
      rw [← hw6] at HK HF hcN ⊢
      clear hw6 k0 k1 hfrm T5
      refine wpM_nil (fun y => ?_)
      have HK7 := Lib.hid (HK.out.fr (Fr.same (H := fun _ => False) y.below) (fun _ _ e => e))
      have HF7 := Lib.hid (HF.out.trans (Fr.same (H := Hk t) y.below))
      have hc7 := (y.below.cell (p := ⟨g, i * 2 + 1, none⟩) (World.block_lt_of_cell? w6 _ hcN)).trans hcN
      go_wp2_with fail
      have e6 : (N6 : Int) = (n : Int) + 1 := by rw [HN6.out]; rfl
      rw [← e6]
      exact bodyPost_ret (v := .tuple #[.int .i64 N6, .int .i64 0]) (by simp [results, Tryz.results11, go_sem]) rfl ⟨rfl, T9, HK7.out, ⟨HF7.out, HM9.out⟩⟩
end Go.Proofs.YtamemjldafoolaaGreat.Oct

/-! ## KrF -/
/- Contract of the reference's Create. -/
namespace Go.Proofs.YtamemjldafoolaaGreat.Oct
open Go.ChangeShapes Go.WideShapes Go.ChangeAt Go.RowKit
set_option linter.unusedVariables false

/-- a literal of one version -/
theorem VsAt.lit {T : Mk} {w : World} {t p : Nat} {e : TypeId} {x : Ve} (hp : w.heap[p]? = some (.cells (veA x) e)) (hT : T p = t) : VsAt T w t e (.slice (some ⟨p, 0, none⟩) 1 1) [x] := by
  refine ⟨⟨by rw [vsC_len], .inr ⟨p, 1, veA x, rfl, Nat.zero_le _, hp, Nat.le_refl _, by unfold maxLen; omega, by rw [veA_size], ?_⟩⟩, fun g hg => by cases hg; exact hT⟩
  rw [veA_list, vsC_one1]
  exact List.take_of_length_le (by rw [veC_len]; simp)
theorem ex_rinK (ρ : Operand → Value) {o : Oper} (t : Operand) (ho : o.op = .buildSlice 27 1 #[(0, t)]) (b : Bool) (A : Option Addr) (n c : Nat) (hx : ρ t = .agg (rgA b (.slice A n c))) (w : World) : (execOp ρ o).run Tryz.prog w = .ok (.value (.slice (some ⟨w.heap.size, 0, none⟩) 1 1)) (w.alloc (.cells (rgA b (.slice A n c)) 66)) := by
  unfold execOp
  simp only [ho, Sem.run_bind, List.map_toArray, List.map_cons, List.map_nil, hx]
  rw [rins_bs, rins_b1]
  rfl

set_option maxRecDepth 20000 in
set_option maxHeartbeats 4000000 in
theorem rcr_any (T : Mk) (t B : Nat) (K : Ks) (m : Bf) (w : World) (h : KAt T w t 66 56 B K) :
    Calls Tryz.prog 9 #[.pointer (some ⟨B, 0, none⟩), .agg (ba 32 m)] w fun e w' => e = .returned (.tuple #[.int .i64 (crN K), .int .i64 (crE K)]) ∧ ∃ T', KAt T' w' t 66 56 B (crK K m) ∧ Fk T T' t w w' := by
  obtain ⟨w0, hw0⟩ : ∃ w0, w0 = w.alloc (.cells (ba 32 m) 32) := ⟨_, rfl⟩
  have B0 := Lib.hid (show Below w.heap.size w w0 by rw [hw0]; exact (Below.refl w.heap.size w).alloc (by simp) _)
  have hz0 : w0.heap.size = w.heap.size + 1 := by rw [hw0]; simp
  have rm0 : row w0 w.heap.size = some (ba 32 m) := by rw [hw0]; exact row_alloc_at _ _ _ _ rfl
  have h0 := h.fr (Fr.same (H := fun _ => False) B0.out) (fun _ _ e => e)
  obtain ⟨A, c, hcw, hroww, hrsw⟩ := h.open_
  have hc := (B0.out.cell (p := ⟨B, 0, none⟩) (row_lt hroww)).trans hcw
  have hrow := carry B0.out hroww
  have hrs := hrsw.fr (Fr.same (H := fun _ => False) B0.out) (fun _ _ _ e => e)
  have zB : B < w.heap.size := row_lt hroww
  have hl8 := h.ok.1
  by_cases hfull : 8 ≤ K.length
  · have hd : decide ((8 : Int) ≤ (K.length : Int)) = true := by simp; omega
    rw [show crN K = 0 by unfold crN; rw [if_pos hfull], show crE K = 134 by unfold crE; rw [if_pos hfull], show crK K m = K by unfold crK; rw [if_pos hfull]]
    have HK0 := Lib.hid (show ∃ T', KAt T' w0 t 66 56 B K ∧ Fk T T' t w w0 from ⟨T, h0, .same (Fr.same B0.out)⟩)
    clear h h0 hrs hrsw hroww
    go_enter Tryz.func9, Tryz.ntmps9
    go_wp2_with fail
    rw [← hw0]
    exact bodyPost_ret (v := .tuple #[.int .i64 0, .int .i64 134]) (by simp [results, Tryz.results9, go_sem]) rfl ⟨rfl, HK0.out⟩
  · have hd : decide ((8 : Int) ≤ (K.length : Int)) = false := by simp; omega
    obtain ⟨n, hn⟩ : ∃ n, n = K.length := ⟨_, rfl⟩
    have hKK : crK K m = K ++ [(⟨false, [⟨m, 0, false⟩]⟩ : Rg)] := by unfold crK; rw [if_neg hfull]
    have hokK := hKK ▸ crK_ok h.ok m
    rw [show crN K = (n : Int) + 1 by unfold crN; rw [if_neg hfull, hn], show crE K = 0 by unfold crE; rw [if_neg hfull], hKK]
    have HRS := Lib.hid hrs
    have HRW := Lib.hid hrsw
    have HTB := Lib.hid h.tg
    have HROW := Lib.hid hrow
    have HOK := Lib.hid hokK
    rw [← hn] at hd hc hcw HROW HRS HRW hfull hl8
    have HN := Lib.hid hn
    clear h h0 hrs hrsw hroww hKK hokK hn hrow
    go_enter Tryz.func9, Tryz.ntmps9
    go_wp2_with fail
    rw [← hw0]
    clear hw0
    clear hcw
    refine flow_shut 13 [.inl [0, 1, 2, 3, 4, 5, 6], pS 7, pU 7, .inl [8], pS 9, pU 9, pE 10, .inl [11, 12], pE 13] (TwoK B #[.slice A n c] w.heap.size (ba 32 m)) (B :: (Value.slice A n c).ownBlock.toList) (by kernel_rfl) (by kernel_rfl) (fun _ _ _ _ _ h => h) (fun _ _ _ _ _ h => h) TwoK.alloc (TwoK.of HROW.out rm0 |>.drewN 1) (fun k hk => by
      rcases List.mem_cons.1 hk with rfl | hk
      · omega
      · obtain ⟨xs, hxs, -⟩ := HRS.out.own
        exact (World.ownsRow.lt hxs k (by simpa using hk)).2) ?_
    have hne : Nonempty (In (TwoK B #[.slice A n c] w.heap.size (ba 32 m))) := ⟨⟨w0, TwoK.of HROW.out rm0⟩⟩
    have B2 := Lib.hid (below_drewN (Below.refl w0.heap.size w0) 1)
    have z2 : (w0.drewN 1).heap.size = w0.heap.size := rfl
    obtain ⟨w2, hw2⟩ : ∃ w2, w2 = w0.drewN 1 := ⟨_, rfl⟩
    rw [← hw2] at B2 z2 ⊢
    clear hw2 hc
    have q1 : ∀ y : In (TwoK B #[.slice A n c] w.heap.size (ba 32 m)), y.val.cell? ⟨B, 0, none⟩ = some (.slice A n c) := fun y => by rw [cell_row (TwoK.fst y.ok)]; rfl
    have q2 : ∀ y : In (TwoK B #[.slice A n c] w.heap.size (ba 32 m)), row y.val w.heap.size = some (ba 32 m) := fun y => TwoK.snd y.ok
    refine wpM_q ?_
    simp only [pk, List.getElem?_cons_zero, List.getElem?_cons_succ]
    repeat (go_big_quiet_step (fail))
    refine wpQuiet_nil ?_
    clear q1 q2
    refine wpM_s (fun p => .slice (some ⟨p, 0, none⟩) 1 1) (.cells (veA ⟨m, 0, false⟩) 56) _ rfl rfl (fun w => ex_verK _ (.tmp 18) rfl _ rfl w) ?_
    refine wpM_u _ _ _ 19 (.head _) rfl rfl (fun y hy p hp1 hp2 hp3 hp4 => ?_)
    have B3 := Lib.hid (onto B2.out B2.out.size y.below)
    obtain ⟨w3, hw3⟩ : ∃ w3, w3 = y.val := ⟨_, rfl⟩
    rw [← hw3] at B3 hp2 hp4 ⊢
    have HP4 := Lib.hid hp4
    clear hw3 hy hp3 hp4 B2 y
    refine wpM_q ?_
    simp only [pk, List.getElem?_cons_zero, List.getElem?_cons_succ]
    simp only [Act.put, List.setIfInBounds_toArray, List.set_cons_succ, List.set_cons_zero]
    repeat (go_big_quiet_step (fail))
    refine wpQuiet_nil ?_
    refine wpM_s (fun p' => .slice (some ⟨p', 0, none⟩) 1 1) (.cells (rgA false (.slice (some ⟨p, 0, none⟩) 1 1)) 66) _ rfl rfl (fun w => ex_rinK _ (.tmp 20) rfl _ _ _ _ rfl w) ?_
    refine wpM_u _ _ _ 21 (.head _) rfl rfl (fun y hy p2 hp21 hp22 hp23 hp24 => ?_)
    refine wpM_e _ rfl (fun y2 hy2 => ?_)
    have b34 := onto y.below y.below.size y2.below
    have B4 := Lib.hid (onto B3.out (by have := B3.out.size; omega) b34)
    have R4 := Lib.hid (carry y2.below (row_of hp24))
    have C4 := Lib.hid hy2
    have HP5 := Lib.hid (show y2.val.heap[p]? = some (.cells (veA ⟨m, 0, false⟩) 56) by rw [b34.block p hp2]; exact HP4.out)
    obtain ⟨w4, hw4⟩ : ∃ w4, w4 = y2.val := ⟨_, rfl⟩
    rw [← hw4] at B4 R4 C4 HP5 ⊢
    clear hw4 hy2 hy hp23 hp24 hp22 b34 HP4 y2 y
    have F4 := Lib.hid (Fr.new (T := T) (H := fun c => c = t + 1) B4.out (t + 1 + 1 + n))
    have hrs4 := HRS.out.fr (Fr.new (T := T) (H := fun _ => False) B4.out (t + 1 + 1 + n)) (fun _ _ _ e => e)
    have hvs4 := VsAt.lit (T := paint T w0.heap.size (t + 1 + 1 + n)) HP5.out (paint_new (by omega))
    have HRS4 := Lib.hid hrs4
    have HVS4 := Lib.hid hvs4
    obtain ⟨xs, hxs, hel⟩ := hrs4.own
    have HEL := Lib.hid hel
    have HXS := Lib.hid hxs
    rw [← HN.out] at hxs
    have hrow4 : row w4 p2 = some ([.bool false, .slice (some ⟨p, 0, none⟩) 1 1] : List Value).toArray := by rw [R4.out]; unfold rgA; rfl
    have zA : ∀ k, (Value.slice A n c).ownBlock = some k → k < w.heap.size ∧ T k = t + 1 := fun k hk => by
      obtain ⟨ys, hys, -⟩ := HRW.out.own
      exact ⟨(World.ownsRow.lt hys k hk).2, HRW.out.tg k hk⟩
    have ZA := Lib.hid zA
    clear hel hrs4 hvs4 zA
    go_wp2_with (refine wpl_appK rfl (.tmp 16) (.tmp 21) rfl rins_u rin_info (rgA_size _ _) (by decide) (by decide) hxs hrow4 rfl (fun v hv => by simp at hv; rcases hv with rfl | rfl <;> rfl) (by omega) rfl rfl ?_; intro v5 w5 ho5 hg5 ht5)
    have ho5' := ho5
    rw [HN.out] at ho5'
    have hvs4 : VsAt (paint T w0.heap.size (t + 1 + 1 + n)) w4 (t + 1 + 1 + K.length) 56 (.slice (some ⟨p, 0, none⟩) 1 1) [⟨m, 0, false⟩] := by rw [← HN.out]; exact HVS4.out
    have V5 := Lib.hid (HRS4.out.app (r := ⟨false, [⟨m, 0, false⟩]⟩) HXS.out HEL.out ho5' hg5 ht5 hvs4)
    have R5 := Lib.hid (TwoK.of (grown_row hg5 (TwoK.fst C4.out) (fun e => by have := (ZA.out _ e).2; rw [HTB.out] at this; omega)) (grown_row hg5 (TwoK.snd C4.out) (fun e => by have := (ZA.out _ e).1; omega)))
    have F5 := Lib.hid (F4.out.trans (Fr.grown (H := fun c => c = t + 1) hg5 (fun k hk => by rw [paint_old (by have := (ZA.out _ hk).1; omega)]; exact (ZA.out _ hk).2) (t + 1)))
    refine same_class (C := TwoK B #[.slice A n c] w.heap.size _) [B] ((Frm.app hg5).more (fun k hk => by simp; right; right; right; simpa using hk)) (fun k hk => by simp at hk; subst hk; exact ⟨.inl (by simp), row_lt (TwoK.fst R5.out)⟩) R5.out TwoK.alloc ?_
    clear ho5 ho5' hg5 ht5 hvs4 R4 C4 hrow4 HXS HEL HVS4 HRS4 F4 hxs
    refine wpM_q ?_
    simp only [pk, List.getElem?_cons_zero, List.getElem?_cons_succ]
    repeat (go_big_quiet_step (fail))
    refine wpQuiet_nil ?_
    clear hne
    refine wpM_e _ rfl (fun y hy => ?_)
    have T6 := Lib.hid (TwoK.fst hy)
    have F6 := Lib.hid (F5.out.trans (Fr.same y.below))
    have V6 := Lib.hid (V5.out.fr (Fr.same (H := fun _ => False) y.below) (fun _ _ _ e => e))
    obtain ⟨w6, hw6⟩ : ∃ w6, w6 = y.val := ⟨_, rfl⟩
    obtain ⟨T9, hT9⟩ : ∃ T9, T9 = paint (paint T w0.heap.size (t + 1 + 1 + n)) w4.heap.size (t + 1) := ⟨_, rfl⟩
    have HM9 := Lib.hid (show ∀ k, T9 k = T k ∨ Hk t (T9 k) from fun k => by
      rw [hT9]
      by_cases hk : k < w4.heap.size
      · rw [paint_old hk]
        by_cases hk0 : k < w0.heap.size
        · exact .inl (paint_old hk0)
        · rw [paint_new (by omega)]; exact .inr ⟨by omega, by omega⟩
      · rw [paint_new (by omega)]; exact .inr ⟨by omega, by omega⟩)
    rw [← hw6] at T6 F6 V6 ⊢
    rw [← hT9] at F6 V6
    clear hw6 hT9 y hy R5 V5 F5
    obtain ⟨A7, c7, hv7, hle7, -⟩ := V6.out.form
    subst hv7
    obtain ⟨N7, hN7⟩ : ∃ N7, N7 = (K ++ [(⟨false, [⟨m, 0, false⟩]⟩ : Rg)]).length := ⟨_, rfl⟩
    have HN7 := Lib.hid (show N7 = n + 1 by rw [hN7, List.length_append, ← HN.out]; rfl)
    have V6' := V6.out
    rw [← hN7] at V6' ⊢
    have k0 : w6.cell? ⟨B, 0, none⟩ = some (.slice A n c) := by rw [cell_row T6.out]; rfl
    have k1 := froz_row T6.out 0
    have k2 := Lib.hid (setCell_row T6.out 0 (.slice A7 N7 c7))
    have hsb : (#[.slice A n c] : Array Value).setIfInBounds 0 (.slice A7 N7 c7) = #[.slice A7 N7 c7] := rfl
    rw [hsb] at k2
    have hT9B : T9 B = t := by rw [F6.out.tag B (by omega)]; exact HTB.out
    have hF7 := (F6.out.mono (H' := fun c => c = t ∨ c = t + 1) (fun c e => .inr e)).trans (Fr.row (T := T9) (w := w6) (H := fun c => c = t ∨ c = t + 1) (B := B) (.inl hT9B) #[.slice A7 N7 c7])
    have hV7 := V6'.fr (Fr.row (T := T9) (w := w6) (H := fun c => c = t) (B := B) hT9B #[.slice A7 N7 c7]) (fun c e1 e2 e3 => by omega)
    have hr7 := row_setRow T6.out #[.slice A7 N7 c7]
    have HK := Lib.hid (show KAt T9 (w6.setRow B #[.slice A7 N7 c7]) t 66 56 B (K ++ [⟨false, [⟨m, 0, false⟩]⟩]) from ⟨hT9B, ⟨_, hr7, hV7⟩, HOK.out⟩)
    have HF := Lib.hid ((Fr.same (T := T) (H := Hk t) B0.out).trans (hF7.mono (H' := Hk t) fun c e => by rcases e with rfl | rfl <;> exact ⟨by omega, by omega⟩))
    have hcN : (w6.setRow B #[.slice A7 N7 c7]).cell? ⟨B, 0, none⟩ = some (.slice A7 N7 c7) := by rw [cell_row hr7]; rfl
    have hfrm := Frm.row (hot := [B]) w6 #[.slice A7 N7 c7] (p := B) (by simp)
    clear hN7 V6 V6' hV7 hF7 F6 hr7 hT9B
    go_wp2_with fail
    rw [k2.out]
    refine end_class (fun _ => True) [] hfrm hot_none trivial (fun _ _ h => h) ?_
    obtain ⟨w7, hw7⟩ : ∃ w7, w7 = w6.setRow B #[.slice A7 N7 c7] := ⟨_, rfl⟩
    rw [← hw7] at HK HF hcN ⊢
    clear hw7 k0 k1 k2 hfrm T6
    refine wpM_nil (fun y => ?_)
    have HK8 := Lib.hid (HK.out.fr (Fr.same (H := fun _ => False) y.below) (fun _ _ e => e))
    have HF8 := Lib.hid (HF.out.trans (Fr.same (H := Hk t) y.below))
    have hc8 := (y.below.cell (p := ⟨B, 0, none⟩) (World.block_lt_of_cell? w7 _ hcN)).trans hcN
    go_wp2_with fail
    have e6 : (N7 : Int) = (n : Int) + 1 := by rw [HN7.out]; rfl
    rw [← e6]
    exact bodyPost_ret (v := .tuple #[.int .i64 N7, .int .i64 0]) (by simp [results, Tryz.results9, go_sem]) rfl ⟨rfl, T9, HK8.out, ⟨HF8.out, HM9.out⟩⟩
end Go.Proofs.YtamemjldafoolaaGreat.Oct

/-! ## KrG -/
/- Contract of the reference's Copy. -/
namespace Go.Proofs.YtamemjldafoolaaGreat.Oct
open Go.ChangeShapes Go.WideShapes Go.ChangeAt Go.RowKit
set_option linter.unusedVariables false

/-- versions that are read, laid behind an empty row of the call's own -/
theorem run_appRd {P : Program} {w : World} {tt ty u : TypeId} {z : Value} {bytes p : Nat} (ht : P.underlying tt = some (.slice u)) (hi : (P.info? u).map (fun i => (i.zero, i.size, i.bytes)) = some (some z, 34, bytes)) (hz : z.cells.size = 34) (hb : bytes ≤ 64)
    (hown : w.ownsRow 0 u 34 (.slice (some ⟨p, 0, none⟩) 0 0) 0 []) {s : Value} {l : List Ve} (hs : VRd w s l) (hl : l.length ≤ 1000000) :
    ∃ v' w', (Builtin.append_ #[tt, tt] ty #[.slice (some ⟨p, 0, none⟩) 0 0, s]).run P w = .ok v' w' ∧ w'.ownsRow 0 u 34 v' l.length (vsC l) ∧ w.grownBy w' (some p) ∧ (v'.ownBlock = some p ∨ v'.ownBlock = some w.heap.size) := by
  cases hq : P.info? u with
  | none => rw [hq] at hi; cases hi
  | some i =>
    rw [hq] at hi
    have h0 : (i.zero, i.size, i.bytes) = (some z, 34, bytes) := Option.some.inj hi
    simp only [Prod.mk.injEq] at h0
    obtain ⟨z0, z1, z2⟩ := h0
    obtain ⟨A, c, rfl, hle, hm, hnil, hat⟩ := hs.at_
    cases A with
    | none =>
      have hc0 := hnil rfl
      have hl0 : l = [] := List.length_eq_zero_iff.1 (by omega)
      subst hl0
      subst hc0
      have hr := run_append_room_src (P := P) w tt tt ty u i ht hq p 0 0 0 (.slice none 0 0) 0 [] (Src.ofNil (P := P) w (e' := u) ht 0) (by omega) (fun j hj => by cases hj) (fun j hj => by cases hj)
      exact ⟨_, _, hr, hown, ⟨rfl, rfl, rfl, Nat.le_refl _, fun k hk hne => rfl⟩, .inl rfl⟩
    | some a =>
      obtain ⟨v', w', a1, a2, a3, _, a5⟩ := run_append_own_at (P := P) w 0 tt ty u i z 34 bytes ht hq z0 z1 z2 hz (by omega) _ 0 [] hown a l.length c (vsC l) (vsC_len l)
        (fun j x hx => by
          have hj : j < l.length * 34 := by rw [← vsC_len]; exact (List.getElem?_eq_some_iff.1 hx).1
          obtain ⟨g, o, e, hg, hc⟩ := hat (by omega)
          cases e
          rw [add_mid]
          have h1 := hc (j / 34) (j % 34) (by omega) (by omega)
          rw [show o + j = o + j / 34 * 34 + j % 34 by omega, h1, ← vsC_get l (j / 34) (j % 34) (by omega) (by omega), show j / 34 * 34 + j % 34 = j by omega]
          exact hx) (vsC_one l) (by unfold maxLen; omega) (by have := Nat.mul_le_mul (show 0 + l.length ≤ 1000000 by omega) hb; omega) (Nat.zero_le _)
      rw [Nat.zero_add] at a2
      exact ⟨v', w', a1, a2, a3, a5⟩
theorem wpl_appRd {P : Program} {w : World} {ops : Array Oper} {rest : List Oper} {o : Oper} {a : Act} {Q : Exit → Act → World → Prop} (hgd : o.guard = none) (x y : Operand) {tt u : TypeId} {z : Value} {bytes p : Nat} (ho : o.op = .call { callee := .builtin .append, args := #[x, y], argTypes := #[tt, tt] })
    (ht : P.underlying tt = some (.slice u)) (hi : (P.info? u).map (fun i => (i.zero, i.size, i.bytes)) = some (some z, 34, bytes)) (hz : z.cells.size = 34) (hb : bytes ≤ 64)
    (hown : w.ownsRow 0 u 34 (.slice (some ⟨p, 0, none⟩) 0 0) 0 []) {s : Value} {l : List Ve} (hs : VRd w s l) (hl : l.length ≤ 1000000) (hv : a.eval x = .slice (some ⟨p, 0, none⟩) 0 0) (hy : a.eval y = s)
    (h : ∀ v' w', w'.ownsRow 0 u 34 v' l.length (vsC l) → w.grownBy w' (some p) → (v'.ownBlock = some p ∨ v'.ownBlock = some w.heap.size) → wpList P ops Q rest (a.put o.dst v') w') : wpList P ops Q (o :: rest) a w := by
  refine wpList_plain hgd fun K hK => ?_
  obtain ⟨v', w', a1, a2, a3, a5⟩ := run_appRd (ty := o.type) ht hi hz hb hown hs hl
  unfold Oper.wp execOp
  simp only [ho, resolve, invoke, builtin, Sem.run_bind, Sem.run_pure, Result.andThen_ok, List.map_toArray, List.map_cons, List.map_nil, hv, hy, a1]
  exact hK _ _ (h v' w' a2 a3 a5)
theorem ex_ver0 (ρ : Operand → Value) {o : Oper} (ho : o.op = .buildSlice 64 0 #[]) (w : World) : (execOp ρ o).run Tryz.prog w = .ok (.value (.slice (some ⟨w.heap.size, 0, none⟩) 0 0)) (w.alloc (.cells #[] 56)) := by
  unfold execOp
  simp only [ho, Sem.run_bind, List.map_toArray, List.map_nil]
  rw [vers_bs, vers_b0]
  rfl
theorem own_lit0 {w : World} {p : Nat} {e : TypeId} (h : w.heap[p]? = some (.cells #[] e)) (k : Nat) : w.ownsRow 0 e k (.slice (some ⟨p, 0, none⟩) 0 0) 0 [] :=
  ⟨by simp, .inr ⟨p, 0, #[], rfl, Nat.zero_le _, h, Nat.le_refl _, Nat.zero_le _, by simp, by simp⟩⟩

end Go.Proofs.YtamemjldafoolaaGreat.Oct

/-! ## KrI -/
/- Contract of the reference's Same, where it answers true. -/
namespace Go.Proofs.YtamemjldafoolaaGreat.Oct
open Go.ChangeShapes Go.WideShapes Go.ChangeAt Go.RowKit
set_option linter.unusedVariables false

theorem eqB_reflK (n : Nat) (f : Bf) : eqB n f f = true := (eqB_iff n f f).2 fun _ _ => rfl
theorem eqf_stepK {P : Program} {d : Nat} {xs ys : Array Value} {f : Field} {fs : List Field} {a b : Value} {r : Bool} {w : World} (hn : f.name ≠ "_") (ha : (Go.part f.type xs f.offset).run P w = .ok a w) (hb : (Go.part f.type ys f.offset).run P w = .ok b w) (he : (Op.equalIn d f.type a b).run P w = .ok r w) :
    (Op.eqFields d xs ys (f :: fs)).run P w = if r then (Op.eqFields d xs ys fs).run P w else .ok false w := by
  rw [Op.eqFields, if_pos hn]
  simp only [Sem.run_bind, ha, hb, he, Result.andThen_ok]
  cases r <;> simp
theorem eq_intK (a x : Int) (w : World) : (Op.equalIn 9999 3 (.int .i64 a) (.int .i64 x)).run Tryz.prog w = .ok (a == x) w := by
  rw [show (9999 : Nat) = 9998 + 1 from rfl, run_equalIn_int w 9998 3 .i64 .i64 a x Tryz.underlying3]
theorem part_m (v : Ve) (w : World) : (Go.part 32 (veA v) 0).run Tryz.prog w = .ok (.agg (ba 32 v.m)) w := by unfold veA veC ba; kernel_rfl
theorem part_u (v : Ve) (w : World) : (Go.part 3 (veA v) 32).run Tryz.prog w = .ok (.int .i64 v.u) w := by unfold veA veC ba; kernel_rfl
theorem part_g (v : Ve) (w : World) : (Go.part 4 (veA v) 33).run Tryz.prog w = .ok (.bool v.g) w := by unfold veA veC ba; kernel_rfl
theorem eq_boolK (a x : Bool) (w : World) : (Op.equalIn 9999 4 (.bool a) (.bool x)).run Tryz.prog w = .ok (a == x) w := by cases a <;> cases x <;> kernel_rfl
set_option maxRecDepth 20000 in
set_option maxHeartbeats 1000000 in
theorem ne_ver (a b : Ve) (w : World) : (binOp .neq 56 (.agg (veA a)) (.agg (veA b))).run Tryz.prog w = .ok (.bool (!veB a b)) w := by
  have hS : Tryz.prog.underlying 56 = some (.struct (Tryz.prog.fieldsOf 56)) := by kernel_rfl
  have hp : Tryz.prog.stoodInHeld 56 = false := by kernel_rfl
  rw [run_neq_struct, show (10000 : Nat) = 9999 + 1 from rfl, run_equalIn_agg w 9999 56 _ _ hS hp]
  simp only [Program.fieldsOf, Tryz.underlying56]
  rw [eqf_stepK (by decide) (part_m a w) (part_m b w) (kk_eq 9997 a.m b.m w), eqf_stepK (by decide) (part_u a w) (part_u b w) (eq_intK _ _ w), eqf_stepK (by decide) (part_g a w) (part_g b w) (eq_boolK _ _ w), Op.eqFields]
  unfold veB
  generalize eqB 32 a.m b.m = b1
  generalize (a.u == b.u) = b2
  generalize (a.g == b.g) = b3
  cases b1 <;> cases b2 <;> cases b3 <;> rfl
theorem veB_refl (a : Ve) : veB a a = true := by unfold veB; rw [eqB_reflK]; simp

set_option maxRecDepth 20000 in
set_option maxHeartbeats 4000000 in
theorem rsame_any (K : Ks) (v v' : Value) (w : World) (h : RRd w v K) (h' : RRd w v' K) (hK : K.length ≤ 1000) (hV : ∀ r ∈ K, r.l.length ≤ 1000) :
    Calls Tryz.prog 22 #[v, v'] w fun e w' => e = .returned (.bool true) ∧ Below w.heap.size w w' := by
  obtain ⟨A, c, rfl, hle, hmx, hat⟩ := h.at_
  obtain ⟨A', c', rfl, hle', hmx', hat'⟩ := h'.at_
  have HAT := Lib.hid hat
  have HAT' := Lib.hid hat'
  have HV := Lib.hid hV
  obtain ⟨n, hn⟩ : ∃ n, n = K.length := ⟨_, rfl⟩
  have HN := Lib.hid hn
  rw [← hn] at hle hle' hK ⊢
  clear h h' hat hat' hV hn
  go_enter Tryz.func22, Tryz.ntmps22
  go_wp2_with fail
  go_loopw [5] (fun iv wr => ∃ i : Nat, i ≤ n ∧ iv = .int .i64 i ∧ Below w.heap.size w wr) (fun iv _ => n - (intOf iv).toNat)
  case atStart => exact ⟨0, by omega, rfl, Below.refl _ _⟩
  case round =>
    obtain ⟨i, hi, rfl, hb⟩ := hrel
    obtain ⟨w1, rfl⟩ : ∃ w1 : World, w1 = wr := ⟨_, rfl⟩
    have HB := Lib.hid hb
    by_cases hlt : i < n
    · have hiK : i < K.length := by have := HN.out; omega
      obtain ⟨g, o, rfl, hg, hc⟩ := HAT.out (by omega)
      obtain ⟨g', o', rfl, hg', hc'⟩ := HAT'.out (by omega)
      obtain ⟨h0, vi, h1, h2⟩ := hc i hiK
      obtain ⟨h0', vi', h1', h2'⟩ := hc' i hiK
      obtain ⟨A2, c2, rfl, hle2, -, -, hat2⟩ := h2.at_
      obtain ⟨A2', c2', rfl, hle2', -, -, hat2'⟩ := h2'.at_
      obtain ⟨r, hr⟩ : ∃ r, r = K[i] := ⟨_, rfl⟩
      have hr1 := HV.out K[i] (List.getElem_mem _)
      rw [← hr] at h0 h1 h2 hle2 h0' h1' h2' hle2' hat2 hat2' hr1
      obtain ⟨L, hL⟩ : ∃ L, L = r.l.length := ⟨_, rfl⟩
      rw [← hL] at h1 h1' hle2 hle2' hr1
      have HL := Lib.hid hL
      have H0 := Lib.hid h0
      have H1 := Lib.hid h1
      have H0' := Lib.hid h0'
      have H1' := Lib.hid h1'
      have HAT2 := Lib.hid hat2
      have HAT2' := Lib.hid hat2'
      clear hc hc' hb hr h0 h1 h2 h0' h1' h2' hat2 hat2' hL
      have q0 : ∀ y : After w1, y.val.cell? ⟨g, o + i * 2, none⟩ = some (.bool r.off) := fun y => ((onto HB.out HB.out.size y.below).cell (p := ⟨g, o + i * 2, none⟩) hg).trans H0.out
      have q1 : ∀ y : After w1, y.val.cell? ⟨g, o + i * 2 + 1, none⟩ = some (.slice A2 L c2) := fun y => ((onto HB.out HB.out.size y.below).cell (p := ⟨g, o + i * 2 + 1, none⟩) hg).trans H1.out
      have q0' : ∀ y : After w1, y.val.cell? ⟨g', o' + i * 2, none⟩ = some (.bool r.off) := fun y => ((onto HB.out HB.out.size y.below).cell (p := ⟨g', o' + i * 2, none⟩) hg').trans H0'.out
      have q1' : ∀ y : After w1, y.val.cell? ⟨g', o' + i * 2 + 1, none⟩ = some (.slice A2' L c2') := fun y => ((onto HB.out HB.out.size y.below).cell (p := ⟨g', o' + i * 2 + 1, none⟩) hg').trans H1'.out
      go_wp2_with fail
      refine seen_region (by kernel_rfl) (by kernel_rfl) ?_
      repeat (go_big_quiet_step (fail))
      refine wpQuiet_nil ?_
      rintro _ ⟨x, rfl⟩
      clear q0 q1 q0' q1'
      have B2 := Lib.hid (onto HB.out HB.out.size x.below)
      obtain ⟨w2, hw2⟩ : ∃ w2, w2 = x.val := ⟨_, rfl⟩
      rw [← hw2] at B2 ⊢
      clear hw2 x
      go_wp2_with fail
      go_loopw [6] (fun kv wr => ∃ k : Nat, k ≤ L ∧ kv = .int .i64 k ∧ Below w.heap.size w wr) (fun kv _ => L - (intOf kv).toNat)
      case atStart => exact ⟨0, by omega, rfl, B2.out⟩
      case round =>
        clear B2 HB
        obtain ⟨k, hk, rfl, hb⟩ := hrel
        obtain ⟨w3, rfl⟩ : ∃ w3 : World, w3 = wr := ⟨_, rfl⟩
        have HB := Lib.hid hb
        have y1 := (HB.out.cell (p := ⟨g, o + i * 2 + 1, none⟩) hg).trans H1.out
        clear hb
        by_cases hlk : k < L
        · have hkl : k < r.l.length := by have := HL.out; omega
          obtain ⟨g2, o2, rfl, hg2, hc2⟩ := HAT2.out (by omega)
          obtain ⟨g2', o2', rfl, hg2', hc2'⟩ := HAT2'.out (by omega)
          obtain ⟨x, hx⟩ : ∃ x, x = r.l[k] := ⟨_, rfl⟩
          have q1 : ∀ y : After w3, y.val.cell? ⟨g, o + i * 2 + 1, none⟩ = some (.slice (some ⟨g2, o2, none⟩) L c2) := fun y => ((onto HB.out HB.out.size y.below).cell (p := ⟨g, o + i * 2 + 1, none⟩) hg).trans H1.out
          have q1' : ∀ y : After w3, y.val.cell? ⟨g', o' + i * 2 + 1, none⟩ = some (.slice (some ⟨g2', o2', none⟩) L c2') := fun y => ((onto HB.out HB.out.size y.below).cell (p := ⟨g', o' + i * 2 + 1, none⟩) hg').trans H1'.out
          have q2 : ∀ y : After w3, ldR Tryz.prog 56 34 y.val g2 (o2 + k * 34) (row y.val g2) = .ok (.agg (veA x)) y.val := fun y => ver_cells y.val g2 (o2 + k * 34) x fun j hj => by
            rw [hx, ← hc2 k j hkl hj]; exact (onto HB.out HB.out.size y.below).cell (p := ⟨g2, o2 + k * 34 + j, none⟩) hg2
          have q2' : ∀ y : After w3, ldR Tryz.prog 56 34 y.val g2' (o2' + k * 34) (row y.val g2') = .ok (.agg (veA x)) y.val := fun y => ver_cells y.val g2' (o2' + k * 34) x fun j hj => by
            rw [hx, ← hc2' k j hkl hj]; exact (onto HB.out HB.out.size y.below).cell (p := ⟨g2', o2' + k * 34 + j, none⟩) hg2'
          have hq := ne_ver x x
          rw [veB_refl] at hq
          clear hc2 hc2' hx
          go_wp2_with fail
          refine seen_region (by kernel_rfl) (by kernel_rfl) ?_
          repeat (go_big_quiet_step (fail))
          refine wpQuiet_nil ?_
          rintro _ ⟨z, rfl⟩
          have B4 := Lib.hid (onto HB.out HB.out.size z.below)
          clear q1 q1' q2 q2' hq y1
          go_wp2_with fail
          go_roundw
          case rel => exact ⟨k + 1, by omega, by go_num, B4.out⟩
          case measure => simp [intOf]; omega
        · obtain rfl : k = L := by omega
          go_wp2_with fail
          go_roundw
          case rel => exact ⟨i + 1, by omega, by go_num, HB.out⟩
          case measure => simp [intOf]; omega
    · obtain rfl : i = n := by omega
      go_wp2_with fail
      go_ret
      exact ⟨rfl, HB.out⟩
end Go.Proofs.YtamemjldafoolaaGreat.Oct
