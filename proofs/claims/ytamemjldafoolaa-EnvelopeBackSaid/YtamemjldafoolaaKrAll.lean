import Derived.Test.YtamemjldafoolaaDkB0
import Derived.Test.YtamemjldafoolaaLib
import Derived.Laws.Tables
import Derived.Test.YtamemjldafoolaaTySl
import Derived.Laws.StructEq
import Derived.WalkKit
import Derived.ProofKit
import Derived.OpenShut
import Derived.Outline
import Derived.Lib.Hide
import Derived.BigQuiet
import Derived.Deep.QuietTactic
import Derived.OwnWalk

/-! ## KrMath -/
/- Layer 13's model: rings of versions, and what the calls answer. Program-free. -/
namespace Go.Proofs.Ytamemjldafoolaa.Oct
set_option linter.unusedVariables false

/-- a version: its material, its uses, whether it is gone -/
structure Ve where
  m : Bf
  u : Int
  g : Bool
/-- a ring: whether it is off, and its versions -/
structure Rg where
  off : Bool
  l : List Ve
abbrev Ks := List Rg
def ve0 : Ve := ⟨fun _ => 0#8, 0, false⟩
def rg0 : Rg := ⟨false, []⟩
/-- the ring of a number, the version of a number -/
def rgAt (K : Ks) (id : Int) : Rg := K.getD (id - 1).toNat rg0
def veAt (r : Rg) (v : Int) : Ve := r.l.getD (v - 1).toNat ve0
def hasK (K : Ks) (id : Int) : Bool := decide (1 ≤ id) && decide (id ≤ (K.length : Int))
def hasV (K : Ks) (id v : Int) : Bool := hasK K id && (decide (1 ≤ v) && decide (v ≤ ((rgAt K id).l.length : Int)))
def putR (K : Ks) (id : Int) (r : Rg) : Ks := K.set (id - 1).toNat r
def putV (r : Rg) (v : Int) (x : Ve) : Rg := ⟨r.off, r.l.set (v - 1).toNat x⟩
/-- what may stand in a keyring -/
def okV (v : Ve) : Prop := (0 ≤ v.u ∧ v.u ≤ 16) ∧ (v.g = true → ∀ i, i < 32 → v.m i = 0#8)
def okR (r : Rg) : Prop := (1 ≤ r.l.length ∧ r.l.length ≤ 4) ∧ ∀ v ∈ r.l, okV v
def okK (K : Ks) : Prop := K.length ≤ 8 ∧ ∀ r ∈ K, okR r

/-! Create -/
def crE (K : Ks) : Int := if 8 ≤ K.length then 134 else 0
def crN (K : Ks) : Int := if 8 ≤ K.length then 0 else (K.length : Int) + 1
def crK (K : Ks) (m : Bf) : Ks := if 8 ≤ K.length then K else K ++ [⟨false, [⟨m, 0, false⟩]⟩]
/-! Rotate -/
def rtE (K : Ks) (id : Int) : Int := if hasK K id = true then (if 4 ≤ (rgAt K id).l.length then 134 else 0) else 130
def rtN (K : Ks) (id : Int) : Int := if rtE K id = 0 then ((rgAt K id).l.length : Int) + 1 else 0
def rtK (K : Ks) (id : Int) (m : Bf) : Ks := if rtE K id = 0 then putR K id ⟨(rgAt K id).off, (rgAt K id).l ++ [⟨m, 0, false⟩]⟩ else K
/-! Switch -/
def swE (K : Ks) (id : Int) : Int := if hasK K id = true then 0 else 130
def swK (K : Ks) (id : Int) (on : Bool) : Ks := if hasK K id = true then putR K id ⟨!on, (rgAt K id).l⟩ else K
/-! Destroy -/
def dsE (K : Ks) (id v : Int) : Int := if hasV K id v = true then (if (veAt (rgAt K id) v).g = true then 132 else 0) else 130
def dsK (K : Ks) (id v : Int) : Ks := if dsE K id v = 0 then putR K id (putV (rgAt K id) v ⟨fun _ => 0#8, (veAt (rgAt K id) v).u, true⟩) else K
/-! Use -/
def lastV (r : Rg) : Ve := veAt r (r.l.length : Int)
def usE (K : Ks) (id : Int) : Int :=
  if hasK K id = true then (if (rgAt K id).off = true then 131 else if (lastV (rgAt K id)).g = true then 132 else if 16 ≤ (lastV (rgAt K id)).u then 133 else 0) else 130
def usV (K : Ks) (id : Int) : Int := if usE K id = 0 then ((rgAt K id).l.length : Int) else 0
def usC (K : Ks) (id : Int) : Int := if usE K id = 0 then (lastV (rgAt K id)).u else 0
def usM (K : Ks) (id : Int) : Bf := if usE K id = 0 then (lastV (rgAt K id)).m else fun _ => 0#8
def usK (K : Ks) (id : Int) : Ks :=
  if usE K id = 0 then putR K id (putV (rgAt K id) ((rgAt K id).l.length : Int) ⟨(lastV (rgAt K id)).m, (lastV (rgAt K id)).u + 1, (lastV (rgAt K id)).g⟩) else K
/-! Material -/
def mtE (K : Ks) (id v : Int) : Int := if hasV K id v = true then (if (rgAt K id).off = true then 131 else if (veAt (rgAt K id) v).g = true then 132 else 0) else 130
def mtM (K : Ks) (id v : Int) : Bf := if mtE K id v = 0 then (veAt (rgAt K id) v).m else fun _ => 0#8

section
variable {K : Ks} {id v : Int}
theorem hasK_iff : hasK K id = true ↔ 1 ≤ id ∧ id ≤ (K.length : Int) := by unfold hasK; simp only [Bool.and_eq_true, decide_eq_true_eq]
theorem hasV_iff : hasV K id v = true ↔ (1 ≤ id ∧ id ≤ (K.length : Int)) ∧ 1 ≤ v ∧ v ≤ ((rgAt K id).l.length : Int) := by
  unfold hasV; rw [Bool.and_eq_true, hasK_iff]; simp only [Bool.and_eq_true, decide_eq_true_eq]
theorem rgAt_get (i : Nat) (h : i < K.length) (hi : (id - 1).toNat = i) : rgAt K id = K[i] := by unfold rgAt; rw [hi]; simp [h]
theorem veAt_get {r : Rg} (i : Nat) (h : i < r.l.length) (hi : (v - 1).toNat = i) : veAt r v = r.l[i] := by unfold veAt; rw [hi]; simp [h]
theorem rgAt_mem (h : hasK K id = true) : rgAt K id ∈ K := by
  obtain ⟨h1, h2⟩ := hasK_iff.1 h
  rw [rgAt_get (id - 1).toNat (by omega) rfl]
  exact List.getElem_mem _
theorem veAt_mem {r : Rg} (h1 : 1 ≤ v) (h2 : v ≤ (r.l.length : Int)) : veAt r v ∈ r.l := by
  rw [veAt_get (v - 1).toNat (by omega) rfl]
  exact List.getElem_mem _
theorem putR_len (r : Rg) : (putR K id r).length = K.length := by unfold putR; rw [List.length_set]
theorem putV_len {r : Rg} (x : Ve) : (putV r v x).l.length = r.l.length := by unfold putV; rw [List.length_set]
theorem putR_ok {r : Rg} (h : okK K) (hr : okR r) : okK (putR K id r) := by
  refine ⟨by rw [putR_len]; exact h.1, fun y hy => ?_⟩
  unfold putR at hy
  rcases List.mem_or_eq_of_mem_set hy with h1 | h1
  · exact h.2 y h1
  · rw [h1]; exact hr
theorem putV_ok {r : Rg} {x : Ve} (h : okR r) (hx : okV x) : okR (putV r v x) := by
  refine ⟨by rw [putV_len]; exact h.1, fun y hy => ?_⟩
  unfold putV at hy
  rcases List.mem_or_eq_of_mem_set hy with h1 | h1
  · exact h.2 y h1
  · rw [h1]; exact hx
theorem okK.ring (h : okK K) (hk : hasK K id = true) : okR (rgAt K id) := h.2 _ (rgAt_mem hk)
theorem okR.last {r : Rg} (h : okR r) : okV (lastV r) := h.2 _ (veAt_mem (by have := h.1.1; omega) (Int.le_refl _))
theorem ok_nil : okK [] := ⟨Nat.zero_le _, fun r hr => by cases hr⟩
theorem ok_new (m : Bf) : okV ⟨m, 0, false⟩ := ⟨⟨Int.le_refl 0, show (0 : Int) ≤ 16 by decide⟩, fun e => by cases e⟩
theorem crK_ok (h : okK K) (m : Bf) : okK (crK K m) := by
  unfold crK
  split
  · exact h
  · refine ⟨by rw [List.length_append]; simp; omega, fun r hr => ?_⟩
    rcases List.mem_append.1 hr with h1 | h1
    · exact h.2 r h1
    · rw [List.mem_singleton] at h1
      subst h1
      exact ⟨⟨by simp, by simp⟩, fun v hv => by rw [List.mem_singleton] at hv; subst hv; exact ok_new m⟩
theorem rtE_zero (h : rtE K id = 0) : hasK K id = true ∧ (rgAt K id).l.length < 4 := by
  unfold rtE at h
  by_cases h1 : hasK K id = true
  · rw [if_pos h1] at h
    by_cases h2 : 4 ≤ (rgAt K id).l.length
    · rw [if_pos h2] at h; omega
    · exact ⟨h1, by omega⟩
  · rw [if_neg h1] at h; omega
theorem rtK_ok (h : okK K) (m : Bf) : okK (rtK K id m) := by
  unfold rtK
  split
  · rename_i he
    obtain ⟨h1, h2⟩ := rtE_zero he
    have hr := h.ring h1
    refine putR_ok h ⟨⟨by simp, by simp; omega⟩, fun v hv => ?_⟩
    rcases List.mem_append.1 hv with h3 | h3
    · exact hr.2 v h3
    · rw [List.mem_singleton] at h3; subst h3; exact ok_new m
  · exact h
theorem swK_ok (h : okK K) (on : Bool) : okK (swK K id on) := by
  unfold swK
  split
  · rename_i h1
    have hr := h.ring h1
    exact putR_ok h ⟨hr.1, hr.2⟩
  · exact h
theorem dsE_zero (h : dsE K id v = 0) : hasV K id v = true ∧ (veAt (rgAt K id) v).g = false := by
  unfold dsE at h
  by_cases h1 : hasV K id v = true
  · rw [if_pos h1] at h
    cases hg : (veAt (rgAt K id) v).g
    · exact ⟨h1, rfl⟩
    · rw [hg, if_pos rfl] at h; omega
  · rw [if_neg h1] at h; omega
theorem dsK_ok (h : okK K) : okK (dsK K id v) := by
  unfold dsK
  split
  · rename_i he
    obtain ⟨h1, _⟩ := dsE_zero he
    obtain ⟨h2, h3, h4⟩ := hasV_iff.1 h1
    have hr := h.ring (hasK_iff.2 h2)
    exact putR_ok h (putV_ok hr ⟨(hr.2 _ (veAt_mem h3 h4)).1, fun _ _ _ => rfl⟩)
  · exact h
theorem usE_zero (h : usE K id = 0) : hasK K id = true ∧ (rgAt K id).off = false ∧ (lastV (rgAt K id)).g = false ∧ (lastV (rgAt K id)).u < 16 := by
  unfold usE at h
  by_cases h1 : hasK K id = true
  · rw [if_pos h1] at h
    cases h2 : (rgAt K id).off
    · cases h3 : (lastV (rgAt K id)).g
      · by_cases h4 : 16 ≤ (lastV (rgAt K id)).u
        · rw [h2, h3, if_neg (by decide), if_neg (by decide), if_pos h4] at h; omega
        · exact ⟨h1, rfl, rfl, by omega⟩
      · rw [h2, h3, if_neg (by decide), if_pos rfl] at h; omega
    · rw [h2, if_pos rfl] at h; omega
  · rw [if_neg h1] at h; omega
theorem usK_ok (h : okK K) : okK (usK K id) := by
  unfold usK
  split
  · rename_i he
    obtain ⟨h1, _, h3, h4⟩ := usE_zero he
    have hr := h.ring h1
    have hl := hr.last
    exact putR_ok h (putV_ok hr ⟨⟨by have := hl.1.1; show 0 ≤ (lastV (rgAt K id)).u + 1; omega, by show (lastV (rgAt K id)).u + 1 ≤ 16; omega⟩, fun e => by rw [h3] at e; cases e⟩)
  · exact h
end
end Go.Proofs.Ytamemjldafoolaa.Oct

/-! ## KrT -/
/- Rows of versions and of rings: owned, by marks, and read. Of whatever program. -/
namespace Go.Proofs.Ytamemjldafoolaa.Oct
open Go.RowKit
set_option linter.unusedVariables false

/-- a version's cells -/
@[irreducible] def veC (v : Ve) : List Value := (ba 32 v.m).toList ++ [.int .i64 v.u, .bool v.g]
section
variable (v : Ve)
theorem veC_len : (veC v).length = 34 := by unfold veC; simp [ba_size]
theorem veC_m (i : Nat) (h : i < 32) : (veC v)[i]? = some (.int .u8 (I (v.m i))) := by
  unfold veC
  rw [List.getElem?_append_left (by rw [Array.length_toList, ba_size]; exact h), Array.getElem?_toList, ba_get _ _ _ h]
theorem veC_u : (veC v)[32]? = some (.int .i64 v.u) := by
  unfold veC
  rw [List.getElem?_append_right (by rw [Array.length_toList, ba_size]; omega), Array.length_toList, ba_size]; rfl
theorem veC_g : (veC v)[33]? = some (.bool v.g) := by
  unfold veC
  rw [List.getElem?_append_right (by rw [Array.length_toList, ba_size]; omega), Array.length_toList, ba_size]; rfl
theorem veC_one : ∀ x ∈ veC v, x.oneCell' = true := by
  intro x hx
  obtain ⟨i, hi, e⟩ := List.mem_iff_getElem.1 hx
  rw [veC_len] at hi
  have e2 : (veC v)[i]? = some x := by rw [List.getElem?_eq_getElem (by rw [veC_len]; exact hi), e]
  by_cases h1 : i < 32
  · rw [veC_m v i h1] at e2; cases e2; rfl
  · by_cases h2 : i = 32
    · subst h2; rw [veC_u] at e2; cases e2; rfl
    · obtain rfl : i = 33 := by omega
      rw [veC_g] at e2; cases e2; rfl
end
theorem veC_setU (v : Ve) (u : Int) : (veC v).set 32 (.int .i64 u) = veC ⟨v.m, u, v.g⟩ := by
  unfold veC
  rw [List.set_append_right _ _ (by rw [Array.length_toList, ba_size]; omega), Array.length_toList, ba_size]; rfl
theorem veC_setG (v : Ve) (g : Bool) : (veC v).set 33 (.bool g) = veC ⟨v.m, v.u, g⟩ := by
  unfold veC
  rw [List.set_append_right _ _ (by rw [Array.length_toList, ba_size]; omega), Array.length_toList, ba_size]; rfl
/-- the cells of a row of them -/
def vsC (l : List Ve) : List Value := l.flatMap veC
theorem vsC_len (l : List Ve) : (vsC l).length = l.length * 34 := by
  unfold vsC
  induction l with
  | nil => rfl
  | cons x l ih => rw [List.flatMap_cons, List.length_append, veC_len, ih, List.length_cons]; omega
theorem vsC_app (l m : List Ve) : vsC (l ++ m) = vsC l ++ vsC m := by unfold vsC; rw [List.flatMap_append]
theorem vsC_one1 (x : Ve) : vsC [x] = veC x := by unfold vsC; simp
theorem vsC_get (l : List Ve) : ∀ (i j : Nat) (h : i < l.length), j < 34 → (vsC l)[i * 34 + j]? = (veC l[i])[j]? := by
  induction l with
  | nil => intro i j h; exact absurd h (by simp)
  | cons x l ih =>
    intro i j h hj
    have e : vsC (x :: l) = veC x ++ vsC l := by unfold vsC; rw [List.flatMap_cons]
    rw [e]
    cases i with
    | zero => rw [List.getElem?_append_left (by rw [veC_len]; omega)]; simp
    | succ i =>
      rw [List.getElem?_append_right (by rw [veC_len]; omega), veC_len, show (i + 1) * 34 + j - 34 = i * 34 + j by omega, ih i j (by simpa using h) hj]
      rfl
theorem vsC_one (l : List Ve) : ∀ x ∈ vsC l, x.oneCell' = true := by
  intro x hx
  unfold vsC at hx
  obtain ⟨v, _, h⟩ := List.mem_flatMap.1 hx
  exact veC_one v x h
/-- a cell of one of them laid -/
theorem vsC_set (l : List Ve) (i j : Nat) (h : i < l.length) (hj : j < 34) (u : Value) (x : Ve) (hx : (veC l[i]).set j u = veC x) : (vsC l).set (i * 34 + j) u = vsC (l.set i x) := by
  induction l generalizing i with
  | nil => exact absurd h (by simp)
  | cons y l ih =>
    have e : ∀ (y : Ve) l, vsC (y :: l) = veC y ++ vsC l := fun y l => by unfold vsC; rw [List.flatMap_cons]
    cases i with
    | zero =>
      rw [List.set_cons_zero, e, e, List.set_append_left _ _ (by rw [veC_len]; omega), Nat.zero_mul, Nat.zero_add]
      rw [show (veC y).set j u = veC x from hx]
    | succ i =>
      rw [List.set_cons_succ, e, e, List.set_append_right _ _ (by rw [veC_len]; omega), veC_len, show (i + 1) * 34 + j - 34 = i * 34 + j by omega, ih i (by simpa using h) (by simpa using hx)]
/-- owned: a row of versions in a block of mark t -/
structure VsAt (T : Mk) (w : World) (t : Nat) (e : TypeId) (v : Value) (l : List Ve) : Prop where
  own : w.ownsRow 0 e 34 v l.length (vsC l)
  tg : ∀ g, v.ownBlock = some g → T g = t
section
variable {T T' T2 : Mk} {H : Nat → Prop} {w w' : World} {t : Nat} {e : TypeId} {v : Value} {l : List Ve}
theorem ownsRow_fr {n k : Nat} {xs : List Value} (h : w.ownsRow 0 e k v n xs) (tg : ∀ g, v.ownBlock = some g → T g = t) (hf : Fr T T' H w w') (ht : ¬ H t) : w'.ownsRow 0 e k v n xs := by
  refine ⟨h.1, ?_⟩
  rcases h.2 with hn | ⟨g, cap, cur, rfl, hb, hg, rest⟩
  · exact .inl hn
  · exact .inr ⟨g, cap, cur, rfl, hb, by rw [hf.keep g (Array.getElem?_eq_some_iff.1 hg).1 (by rw [tg g rfl]; exact ht)]; exact hg, rest⟩
theorem tg_fr {n k : Nat} {xs : List Value} (h : w.ownsRow 0 e k v n xs) (tg : ∀ g, v.ownBlock = some g → T g = t) (hf : Fr T T' H w w') : ∀ g, v.ownBlock = some g → T' g = t :=
  fun g hg => by rw [hf.tag g (World.ownsRow.lt h g hg).2]; exact tg g hg
theorem VsAt.fr (h : VsAt T w t e v l) (hf : Fr T T' H w w') (ht : ¬ H t) : VsAt T' w' t e v l := ⟨ownsRow_fr h.own h.tg hf ht, tg_fr h.own h.tg hf⟩
theorem VsAt.nil : VsAt T w t e (.slice none 0 0) [] := ⟨World.ownsRow_nil _ _ _ _, fun g hg => by cases hg⟩
/-- its form -/
theorem VsAt.form (h : VsAt T w t e v l) : ∃ A c, v = .slice A l.length c ∧ l.length ≤ c ∧ c ≤ maxLen ∧ (0 < l.length → ∃ g cur, A = some ⟨g, 0, none⟩ ∧ T g = t ∧ Oct.row w g = some cur ∧ w.heap[g]? = some (.cells cur e (0, 0)) ∧ cur.size = c * 34 ∧ ∀ i j (hi : i < l.length), j < 34 → cur[i * 34 + j]? = (veC l[i])[j]?) := by
  rcases h.own.2 with ⟨rfl, h0⟩ | ⟨g, cap, cur, rfl, hb, hg, hc, hm, hcs, htk⟩
  · obtain rfl := List.length_eq_zero_iff.1 h0
    exact ⟨none, 0, rfl, Nat.le_refl _, Nat.zero_le _, fun hn => absurd hn (by omega)⟩
  · refine ⟨some ⟨g, 0, none⟩, cap, rfl, hc, hm, fun hn => ⟨g, cur, rfl, h.tg g rfl, row_of hg, hg, hcs, fun i j hi hj => ?_⟩⟩
    rw [← vsC_get l i j hi hj, ← htk, List.getElem?_take, if_pos (by omega), Array.getElem?_toList]
/-- a cell of one of them stored -/
theorem VsAt.set {g c i j : Nat} {u : Value} {x : Ve} (h : VsAt T w t e (.slice (some ⟨g, 0, none⟩) l.length c) l) (hi : i < l.length) (hj : j < 34) (hx : (veC l[i]).set j u = veC x) :
    VsAt T (w.setCell ⟨g, i * 34 + j, none⟩ u) t e (.slice (some ⟨g, 0, none⟩) l.length c) (l.set i x) := by
  refine ⟨?_, h.tg⟩
  have := (World.ownsRow.stored (w := w) h.own (i * 34 + j) u).1
  rw [vsC_set l i j hi hj u x hx] at this
  rw [List.length_set]
  exact this
/-- behind an append -/
theorem VsAt.app {m : List Ve} {v' : Value} (h : VsAt T w t e v l) (h1 : w'.ownsRow 0 e 34 v' (l.length + m.length) (vsC l ++ vsC m)) (h2 : w.grownBy w' v.ownBlock) (h3 : v'.ownBlock = v.ownBlock ∨ v'.ownBlock = some w.heap.size) :
    VsAt (paint T w.heap.size t) w' t e v' (l ++ m) := by
  refine ⟨by rw [List.length_append, vsC_app]; exact h1, fun g hg => ?_⟩
  rcases h3 with e' | e'
  · rw [e'] at hg
    rw [paint_old (World.ownsRow.lt h.own g hg).2]
    exact h.tg g hg
  · rw [e'] at hg
    cases hg
    exact paint_new (Nat.le_refl _)
end
/-- read: versions -/
structure VRd (w : World) (v : Value) (l : List Ve) : Prop where
  at_ : ∃ A c, v = .slice A l.length c ∧ l.length ≤ c ∧ c ≤ maxLen ∧ (A = none → c = 0) ∧ (0 < l.length → ∃ g o, A = some ⟨g, o, none⟩ ∧ g < w.heap.size ∧ ∀ i j (hi : i < l.length), j < 34 → w.cell? ⟨g, o + i * 34 + j, none⟩ = (veC l[i])[j]?)
/-- read: rings -/
structure RRd (w : World) (v : Value) (K : Ks) : Prop where
  at_ : ∃ A c, v = .slice A K.length c ∧ K.length ≤ c ∧ c ≤ maxLen ∧ (0 < K.length → ∃ g o, A = some ⟨g, o, none⟩ ∧ g < w.heap.size ∧ ∀ i (hi : i < K.length), w.cell? ⟨g, o + i * 2, none⟩ = some (.bool K[i].off) ∧ ∃ vi, w.cell? ⟨g, o + i * 2 + 1, none⟩ = some vi ∧ VRd w vi K[i].l)
theorem VRd.below {w w' : World} {v : Value} {l : List Ve} (h : VRd w v l) (hb : Below w.heap.size w w') : VRd w' v l := by
  obtain ⟨A, c, e, h1, h2, h4, h3⟩ := h.at_
  refine ⟨A, c, e, h1, h2, h4, fun hn => ?_⟩
  obtain ⟨g, o, e2, hg, hc⟩ := h3 hn
  refine ⟨g, o, e2, Nat.lt_of_lt_of_le hg hb.size, fun i j hi hj => ?_⟩
  rw [World.cell?_of_block (w := w) (hb.block g hg)]
  exact hc i j hi hj
theorem RRd.below {w w' : World} {v : Value} {K : Ks} (h : RRd w v K) (hb : Below w.heap.size w w') : RRd w' v K := by
  obtain ⟨A, c, e, h1, h2, h3⟩ := h.at_
  refine ⟨A, c, e, h1, h2, fun hn => ?_⟩
  obtain ⟨g, o, e2, hg, hc⟩ := h3 hn
  refine ⟨g, o, e2, Nat.lt_of_lt_of_le hg hb.size, fun i hi => ?_⟩
  obtain ⟨h4, vi, h5, h6⟩ := hc i hi
  exact ⟨by rw [World.cell?_of_block (w := w) (hb.block g hg)]; exact h4, vi, by rw [World.cell?_of_block (w := w) (hb.block g hg)]; exact h5, h6.below hb⟩
/-- owned: rings: the mark t, and their versions' t + 1 on -/
structure RsAt (T : Mk) (w : World) (t : Nat) (eR eV : TypeId) (v : Value) (K : Ks) : Prop where
  own : ∃ xs, w.ownsRow 0 eR 2 v K.length xs ∧ ∀ i (h : i < K.length), xs[i * 2]? = some (.bool K[i].off) ∧ ∃ vi, xs[i * 2 + 1]? = some vi ∧ VsAt T w (t + 1 + i) eV vi K[i].l
  tg : ∀ g, v.ownBlock = some g → T g = t
section
variable {T T' : Mk} {H : Nat → Prop} {w w' : World} {t : Nat} {eR eV : TypeId} {v : Value} {K : Ks}
theorem RsAt.nil : RsAt T w t eR eV (.slice none 0 0) [] := ⟨⟨[], World.ownsRow_nil _ _ _ _, fun i hi => absurd hi (by simp)⟩, fun g hg => by cases hg⟩
theorem RsAt.fr (h : RsAt T w t eR eV v K) (hf : Fr T T' H w w') (hn : ∀ c, t ≤ c → c ≤ t + K.length → ¬ H c) : RsAt T' w' t eR eV v K := by
  obtain ⟨xs, h1, h2⟩ := h.own
  refine ⟨⟨xs, ownsRow_fr h1 h.tg hf (hn t (Nat.le_refl _) (by omega)), fun i hi => ?_⟩, tg_fr h1 h.tg hf⟩
  obtain ⟨h3, vi, h4, h5⟩ := h2 i hi
  exact ⟨h3, vi, h4, h5.fr hf (hn _ (by omega) (by omega))⟩
theorem VsAt.rd {e : TypeId} {l : List Ve} (h : VsAt T w t e v l) : VRd w v l := by
  obtain ⟨A, c, e1, h1, h2, h3⟩ := h.form
  refine ⟨A, c, e1, h1, h2, fun hA => ?_, fun hn => ?_⟩
  · rcases h.own.2 with ⟨e2, h0⟩ | ⟨g, cap, cur, e2, _⟩
    · rw [e1] at e2; simp only [Value.slice.injEq] at e2; exact e2.2.2
    · rw [e1, hA] at e2; simp at e2
  · obtain ⟨g, cur, e2, _, hr, hh, hs, hc⟩ := h3 hn
    refine ⟨g, 0, e2, row_lt hr, fun i j hi hj => ?_⟩
    rw [Nat.zero_add, cell_row hr]
    exact hc i j hi hj
/-- its form -/
theorem RsAt.form (h : RsAt T w t eR eV v K) : ∃ A c, v = .slice A K.length c ∧ K.length ≤ c ∧ c ≤ maxLen ∧ (0 < K.length → ∃ g cur, A = some ⟨g, 0, none⟩ ∧ T g = t ∧ Oct.row w g = some cur ∧ w.heap[g]? = some (.cells cur eR (0, 0)) ∧ cur.size = c * 2 ∧
    ∀ i (hi : i < K.length), cur[i * 2]? = some (.bool K[i].off) ∧ ∃ vi, cur[i * 2 + 1]? = some vi ∧ VsAt T w (t + 1 + i) eV vi K[i].l) := by
  obtain ⟨xs, h1, h2⟩ := h.own
  rcases h1.2 with ⟨rfl, h0⟩ | ⟨g, cap, cur, rfl, hb, hg, hc, hm, hcs, htk⟩
  · obtain rfl := List.length_eq_zero_iff.1 h0
    exact ⟨none, 0, rfl, Nat.le_refl _, Nat.zero_le _, fun hn => absurd hn (by omega)⟩
  · refine ⟨some ⟨g, 0, none⟩, cap, rfl, hc, hm, fun hn => ⟨g, cur, rfl, h.tg g rfl, row_of hg, hg, hcs, fun i hi => ?_⟩⟩
    obtain ⟨h3, vi, h4, h5⟩ := h2 i hi
    have e : ∀ j, j < K.length * 2 → cur[j]? = xs[j]? := fun j hj => by rw [← htk, List.getElem?_take, if_pos hj, Array.getElem?_toList]
    exact ⟨by rw [e _ (by omega)]; exact h3, vi, by rw [e _ (by omega)]; exact h4, h5⟩
theorem RsAt.rd (h : RsAt T w t eR eV v K) : RRd w v K := by
  obtain ⟨A, c, e1, h1, h2, h3⟩ := h.form
  refine ⟨A, c, e1, h1, h2, fun hn => ?_⟩
  obtain ⟨g, cur, e2, _, hr, _, _, hc⟩ := h3 hn
  refine ⟨g, 0, e2, row_lt hr, fun i hi => ?_⟩
  obtain ⟨h4, vi, h5, h6⟩ := hc i hi
  exact ⟨by rw [Nat.zero_add, cell_row hr]; exact h4, vi, by rw [Nat.zero_add, cell_row hr]; exact h5, h6.rd⟩
/-- one ring more -/
theorem RsAt.app {r : Rg} {vi : Value} {v' : Value} {xs : List Value} (h : RsAt T w t eR eV v K) (hxs : w.ownsRow 0 eR 2 v K.length xs)
    (hel : ∀ i (h : i < K.length), xs[i * 2]? = some (.bool K[i].off) ∧ ∃ vi, xs[i * 2 + 1]? = some vi ∧ VsAt T w (t + 1 + i) eV vi K[i].l)
    (h1 : w'.ownsRow 0 eR 2 v' (K.length + 1) (xs ++ [.bool r.off, vi])) (h2 : w.grownBy w' v.ownBlock) (h3 : v'.ownBlock = v.ownBlock ∨ v'.ownBlock = some w.heap.size)
    (hv : VsAt T w (t + 1 + K.length) eV vi r.l) : RsAt (paint T w.heap.size t) w' t eR eV v' (K ++ [r]) := by
  have hf : Fr T (paint T w.heap.size t) (fun c => c = t) w w' := Fr.grown h2 (fun g hg => h.tg g hg) t
  have hl := hxs.1
  refine ⟨⟨_, by rw [List.length_append]; exact h1, fun i hi => ?_⟩, fun g hg => ?_⟩
  · by_cases hlt : i < K.length
    · obtain ⟨h4, wi, h5, h6⟩ := hel i hlt
      rw [List.getElem_append_left hlt]
      exact ⟨by rw [List.getElem?_append_left (by omega)]; exact h4, wi, by rw [List.getElem?_append_left (by omega)]; exact h5, h6.fr hf (by omega)⟩
    · obtain rfl : i = K.length := by simp at hi; omega
      rw [List.getElem_append_right (Nat.le_refl _)]
      refine ⟨by rw [List.getElem?_append_right (by omega), hl, Nat.sub_self]; simp, vi, by rw [List.getElem?_append_right (by omega), hl, Nat.add_sub_cancel_left]; rfl, ?_⟩
      simpa using hv.fr hf (by omega)
  · rcases h3 with e | e
    · rw [e] at hg
      rw [paint_old (World.ownsRow.lt hxs g hg).2]
      exact h.tg g hg
    · rw [e] at hg
      cases hg
      exact paint_new (Nat.le_refl _)
/-- a ring's versions changed, its slice as it was -/
theorem RsAt.inner {i : Nat} (hi : i < K.length) {l' : List Ve} (h : RsAt T w t eR eV v K) (hf : Fr T T' H w w') (hH : ∀ c, H c → c = t + 1 + i) (hv : ∀ vi, VsAt T w (t + 1 + i) eV vi K[i].l → VsAt T' w' (t + 1 + i) eV vi l') (hlen : l'.length = K[i].l.length) :
    RsAt T' w' t eR eV v (K.set i ⟨K[i].off, l'⟩) := by
  obtain ⟨xs, h1, h2⟩ := h.own
  refine ⟨⟨xs, by rw [List.length_set]; exact ownsRow_fr h1 h.tg hf (fun e => by have := hH _ e; omega), fun j hj => ?_⟩, tg_fr h1 h.tg hf⟩
  rw [List.length_set] at hj
  obtain ⟨h3, vj, h4, h5⟩ := h2 j hj
  by_cases hji : j = i
  · subst hji
    rw [List.getElem_set_self]
    exact ⟨h3, vj, h4, hv vj h5⟩
  · rw [List.getElem_set_ne (fun e => hji e.symm)]
    exact ⟨h3, vj, h4, h5.fr hf (fun e => by have := hH _ e; omega)⟩
/-- a cell of the rings' row stored -/
theorem RsAt.setOff {g c i : Nat} (h : RsAt T w t eR eV (.slice (some ⟨g, 0, none⟩) K.length c) K) (hi : i < K.length) (b : Bool) :
    RsAt T (w.setCell ⟨g, i * 2, none⟩ (.bool b)) t eR eV (.slice (some ⟨g, 0, none⟩) K.length c) (K.set i ⟨b, K[i].l⟩) := by
  obtain ⟨xs, h1, h2⟩ := h.own
  have hf : Fr T T (fun c => c = t) w (w.setCell ⟨g, i * 2, none⟩ (.bool b)) := Fr.cell (h.tg g rfl) _
  refine ⟨⟨xs.set (i * 2) (.bool b), by rw [List.length_set]; exact (World.ownsRow.stored (w := w) h1 (i * 2) _).1, fun j hj => ?_⟩, h.tg⟩
  rw [List.length_set] at hj
  obtain ⟨h3, vj, h4, h5⟩ := h2 j hj
  have hl := h1.1
  by_cases hji : j = i
  · subst hji
    rw [List.getElem_set_self]
    exact ⟨by rw [List.getElem?_set_self (by omega)], vj, by rw [List.getElem?_set_ne (by omega)]; exact h4, h5.fr hf (by omega)⟩
  · rw [List.getElem_set_ne (fun e => hji e.symm)]
    exact ⟨by rw [List.getElem?_set_ne (by omega)]; exact h3, vj, by rw [List.getElem?_set_ne (by omega)]; exact h4, h5.fr hf (by omega)⟩
/-- a ring's slice stored: other versions, that are there -/
theorem RsAt.setL {g c i : Nat} {vi : Value} {l' : List Ve} (h : RsAt T w t eR eV (.slice (some ⟨g, 0, none⟩) K.length c) K) (hi : i < K.length) (hf : Fr T T' (fun c => c = t + 1 + i) w w') (hv : VsAt T' w' (t + 1 + i) eV vi l') :
    RsAt T' (w'.setCell ⟨g, i * 2 + 1, none⟩ vi) t eR eV (.slice (some ⟨g, 0, none⟩) K.length c) (K.set i ⟨K[i].off, l'⟩) := by
  obtain ⟨xs, h1, h2⟩ := h.own
  have h1' := ownsRow_fr h1 h.tg hf (by omega)
  have ht' := tg_fr h1 h.tg hf
  have hf2 : Fr T' T' (fun c => c = t) w' (w'.setCell ⟨g, i * 2 + 1, none⟩ vi) := Fr.cell (ht' g rfl) _
  refine ⟨⟨xs.set (i * 2 + 1) vi, by rw [List.length_set]; exact (World.ownsRow.stored (w := w') h1' (i * 2 + 1) _).1, fun j hj => ?_⟩, ht'⟩
  rw [List.length_set] at hj
  obtain ⟨h3, vj, h4, h5⟩ := h2 j hj
  have hl := h1.1
  by_cases hji : j = i
  · subst hji
    rw [List.getElem_set_self]
    exact ⟨by rw [List.getElem?_set_ne (by omega)]; exact h3, vi, by rw [List.getElem?_set_self (by omega)], hv.fr hf2 (by omega)⟩
  · rw [List.getElem_set_ne (fun e => hji e.symm)]
    exact ⟨by rw [List.getElem?_set_ne (by omega)]; exact h3, vj, by rw [List.getElem?_set_ne (by omega)]; exact h4, (h5.fr hf (by omega)).fr hf2 (by omega)⟩
end
/-- a keyring in block B: the mark t; its rings' t + 1, their versions' t + 2 to t + 9 -/
structure KAt (T : Mk) (w : World) (t : Nat) (eR eV : TypeId) (B : Nat) (K : Ks) : Prop where
  tg : T B = t
  row : ∃ v, Oct.row w B = some #[v] ∧ RsAt T w (t + 1) eR eV v K
  ok : okK K
/-- the marks of one keyring -/
def Hk (t : Nat) : Nat → Prop := fun c => t ≤ c ∧ c ≤ t + 9
theorem KAt.fr {T T' : Mk} {H : Nat → Prop} {w w' : World} {t B : Nat} {eR eV : TypeId} {K : Ks} (h : KAt T w t eR eV B K) (hf : Fr T T' H w w') (hn : ∀ c, Hk t c → ¬ H c) : KAt T' w' t eR eV B K := by
  obtain ⟨v, hr, h2⟩ := h.row
  have hl := h.ok.1
  exact ⟨by rw [hf.tag B (row_lt hr)]; exact h.tg, ⟨v, hf.rowAt hr (by rw [h.tg]; exact hn t ⟨by omega, by omega⟩), h2.fr hf fun c h3 h4 => hn c ⟨by omega, by omega⟩⟩, h.ok⟩
end Go.Proofs.Ytamemjldafoolaa.Oct

/-! ## KrU -/
/- A version of a row: its cells as they are read; its material stored. Of whatever program. -/
namespace Go.Proofs.Ytamemjldafoolaa.Oct
open Go.RowKit
set_option linter.unusedVariables false

theorem spl_sizeK : ∀ (vs : List Value) (o : Nat) (c : Array Value), (spl c o vs).size = c.size
  | [], _, _ => rfl
  | v :: r, o, c => by simp only [spl]; rw [spl_sizeK r]; simp
section
variable {T T' T2 : Mk} {H : Nat → Prop} {w w' : World} {t : Nat} {e : TypeId} {v : Value} {l : List Ve}
/-- versions, one at least, taken apart -/
theorem VsAt.open_ (h : VsAt T w t e v l) (hn : 0 < l.length) : ∃ g c cur, v = .slice (some ⟨g, 0, none⟩) l.length c ∧ l.length ≤ c ∧ c ≤ maxLen ∧ T g = t ∧ Oct.row w g = some cur ∧ (∀ j, w.frozen? ⟨g, j, none⟩ = false) ∧
    ∀ k (hk : k < l.length), (∀ j, j < 34 → w.cell? ⟨g, k * 34 + j, none⟩ = (veC l[k])[j]?) ∧ w.cell? ⟨g, k * 34 + 32, none⟩ = some (.int .i64 l[k].u) ∧ w.cell? ⟨g, k * 34 + 33, none⟩ = some (.bool l[k].g) := by
  obtain ⟨A, c, rfl, h1, h2, h3⟩ := h.form
  obtain ⟨g, cur, rfl, hg, hr, hh, hs, hc⟩ := h3 hn
  refine ⟨g, c, cur, rfl, h1, h2, hg, hr, fun j => froz_row hr j, fun k hk => ?_⟩
  have hcell : ∀ j, j < 34 → w.cell? ⟨g, k * 34 + j, none⟩ = (veC l[k])[j]? := fun j hj => by rw [cell_row hr]; exact hc k j hk hj
  exact ⟨hcell, by rw [hcell 32 (by omega), veC_u], by rw [hcell 33 (by omega), veC_g]⟩
/-- its material stored -/
theorem VsAt.setMat_ {g c i : Nat} {f : Bf} {cur : Array Value} (h : VsAt T w t e (.slice (some ⟨g, 0, none⟩) l.length c) l) (hi : i < l.length) (hr : Oct.row w g = some cur) :
    (∀ (P : Program) (t' : Nat), stR P t' 32 w g (i * 34) (.agg (ba 32 f)) (some cur) = .ok () (w.setRow g (spl cur (i * 34) (ba 32 f).toList))) ∧
    VsAt T (w.setRow g (spl cur (i * 34) (ba 32 f).toList)) t e (.slice (some ⟨g, 0, none⟩) l.length c) (l.set i ⟨f, l[i].u, l[i].g⟩) := by
  rcases h.own.2 with ⟨h0, _⟩ | ⟨g', cap, cur', e1, hb, hg, hc, hm, hcs, htk⟩
  · cases h0
  · simp only [Value.slice.injEq, Option.some.injEq, Addr.mk.injEq] at e1
    obtain ⟨⟨rfl, -⟩, -, rfl⟩ := e1
    obtain rfl : cur' = cur := by have := row_of hg; rw [hr] at this; exact (Option.some.inj this).symm
    have hfit : i * 34 + 32 ≤ cur'.size := by rw [hcs]; omega
    have hlen : (ba 32 f).toList.length = 32 := by rw [Array.length_toList, ba_size]
    constructor
    · intro P t'
      unfold stR
      have e : i * 34 + 32 ≤ cur'.size ∧ (Value.agg (ba 32 f)).cells.size = 32 ∧ Ones (Value.agg (ba 32 f)).cells := ⟨hfit, ba_size _ _, ones_ba _ _⟩
      simp only [if_pos e]
      rfl
    · have hsz : (spl cur' (i * 34) (ba 32 f).toList).size = cur'.size := spl_sizeK _ _ _
      refine ⟨⟨by rw [vsC_len], .inr ⟨g, c, _, by rw [List.length_set], hb, setRow_heap w g _ _ _ _ hg, by rw [List.length_set]; exact hc, hm, by rw [hsz]; exact hcs, ?_⟩⟩, h.tg⟩
      apply List.ext_getElem?
      intro q
      rw [List.getElem?_take]
      by_cases hq : q < (l.set i ⟨f, l[i].u, l[i].g⟩).length * 34
      · rw [if_pos hq, Array.getElem?_toList, spl_get _ _ _ _ (by rw [hlen]; exact hfit), hlen]
        rw [List.length_set] at hq
        have hk : q / 34 < l.length := by omega
        have hq2 : q = q / 34 * 34 + q % 34 := by omega
        have hj : q % 34 < 34 := by omega
        have h1 := vsC_get l (q / 34) (q % 34) hk hj
        have h2 := vsC_get (l.set i ⟨f, l[i].u, l[i].g⟩) (q / 34) (q % 34) (by rw [List.length_set]; exact hk) hj
        rw [← hq2] at h1 h2
        rw [h2]
        have h3 : cur'[q]? = (vsC l)[q]? := by rw [← htk, List.getElem?_take, if_pos (by omega), Array.getElem?_toList]
        by_cases hki : q / 34 = i
        · have e2 : (l.set i ⟨f, l[i].u, l[i].g⟩)[q / 34]'(by rw [List.length_set]; exact hk) = ⟨f, l[i].u, l[i].g⟩ := by simp [hki]
          rw [e2]
          by_cases hj2 : q % 34 < 32
          · rw [if_pos (by omega), Array.getElem?_toList, show q - i * 34 = q % 34 by omega, ba_get _ _ _ hj2, veC_m _ _ hj2]
          · rw [if_neg (by omega), h3, h1]
            have e3 : l[q / 34] = l[i] := by simp [hki]
            rw [e3]
            by_cases hj3 : q % 34 = 32
            · rw [hj3, veC_u, veC_u]
            · rw [show q % 34 = 33 by omega, veC_g, veC_g]
        · rw [if_neg (by omega), h3, h1]
          congr 2
          exact (List.getElem_set_ne (fun e => hki e.symm) _).symm
      · rw [if_neg hq, List.getElem?_eq_none (by rw [vsC_len]; omega)]
/-- the same, in other words -/
theorem VsAt.setMat {g n c i : Nat} {f : Bf} {cur : Array Value} {x : Ve} (h : VsAt T w t e v l) (hv : v = .slice (some ⟨g, 0, none⟩) n c) (hx : l[i]? = some x) (hr : Oct.row w g = some cur) :
    (∀ (P : Program) (t' : Nat), stR P t' 32 w g (i * 34) (.agg (ba 32 f)) (some cur) = .ok () (w.setRow g (spl cur (i * 34) (ba 32 f).toList))) ∧
    VsAt T (w.setRow g (spl cur (i * 34) (ba 32 f).toList)) t e v (l.set i ⟨f, x.u, x.g⟩) := by
  obtain ⟨hi, rfl⟩ := List.getElem?_eq_some_iff.1 hx
  obtain ⟨A, c', e1, -⟩ := h.form
  rw [hv] at e1
  simp only [Value.slice.injEq] at e1
  obtain ⟨rfl, rfl, rfl⟩ := e1
  subst hv
  exact h.setMat_ hi hr
/-- a cell of one of them stored -/
theorem VsAt.setOne {g n c i j : Nat} {u : Value} {x y : Ve} (h : VsAt T w t e v l) (hv : v = .slice (some ⟨g, 0, none⟩) n c) (hx : l[i]? = some x) (hj : j < 34) (hy : (veC x).set j u = veC y) : VsAt T (w.setCell ⟨g, i * 34 + j, none⟩ u) t e v (l.set i y) := by
  obtain ⟨hi, rfl⟩ := List.getElem?_eq_some_iff.1 hx
  obtain ⟨A, c', e1, -⟩ := h.form
  rw [hv] at e1
  simp only [Value.slice.injEq] at e1
  obtain ⟨rfl, rfl, rfl⟩ := e1
  subst hv
  exact h.set hi hj hy
/-- its block's row -/
theorem VsAt.row_ {g n c : Nat} (h : VsAt T w t e v l) (hv : v = .slice (some ⟨g, 0, none⟩) n c) (hn : 0 < n) : ∃ cur, Oct.row w g = some cur := by
  obtain ⟨A, c', e1, -, -, h3⟩ := h.form
  rw [hv] at e1
  simp only [Value.slice.injEq] at e1
  obtain ⟨rfl, rfl, rfl⟩ := e1
  obtain ⟨g', cur, e2, -, hr, -⟩ := h3 hn
  cases e2
  exact ⟨cur, hr⟩
end
end Go.Proofs.Ytamemjldafoolaa.Oct

/-! ## Fld -/
/- The cells of a struct, field by field: a list of the fields' cells, laid one behind the other. Loads, stores, literals by it. Of whatever program. -/
namespace Go.Proofs.Ytamemjldafoolaa.Oct
open Go.RowKit

@[irreducible] def flt (fs : List (Array Value)) : Array Value := (fs.flatMap Array.toList).toArray
def szs : List (Array Value) → Nat
  | [] => 0
  | c :: r => c.size + szs r
theorem szs_cons (c : Array Value) (r : List (Array Value)) : szs (c :: r) = c.size + szs r := rfl
theorem szs_app (a b : List (Array Value)) : szs (a ++ b) = szs a + szs b := by
  induction a with
  | nil => simp [szs]
  | cons c r ih => simp only [List.cons_append, szs, ih]; omega
theorem flat_len (fs : List (Array Value)) : (fs.flatMap Array.toList).length = szs fs := by
  induction fs with
  | nil => rfl
  | cons c r ih => simp only [List.flatMap_cons, List.length_append, szs, ih, Array.length_toList]
theorem flt_size (fs : List (Array Value)) : (flt fs).size = szs fs := by unfold flt; rw [List.size_toArray, flat_len]
theorem flt_at (pre post : List (Array Value)) (c : Array Value) (k : Nat) : (flt (pre ++ c :: post))[k]? = if k < szs pre then (flt pre)[k]? else if k < szs pre + c.size then c[k - szs pre]? else (flt post)[k - szs pre - c.size]? := by
  unfold flt
  simp only [List.getElem?_toArray, List.flatMap_append, List.flatMap_cons]
  by_cases h : k < szs pre
  · rw [if_pos h, List.getElem?_append_left (by rw [flat_len]; exact h)]
  · rw [if_neg h, List.getElem?_append_right (by rw [flat_len]; omega), flat_len]
    by_cases h2 : k < szs pre + c.size
    · rw [if_pos h2, List.getElem?_append_left (by rw [Array.length_toList]; omega), Array.getElem?_toList]
    · rw [if_neg h2, List.getElem?_append_right (by rw [Array.length_toList]; omega), Array.length_toList]
theorem flt_get (pre post : List (Array Value)) (c : Array Value) {o j : Nat} (ho : o = szs pre) (h : j < c.size) : (flt (pre ++ c :: post))[o + j]? = c[j]? := by
  subst ho
  rw [flt_at, if_neg (by omega), if_pos (by omega), Nat.add_sub_cancel_left]
theorem flt_ext (pre post : List (Array Value)) (c : Array Value) : (flt (pre ++ c :: post)).extract (szs pre) (szs pre + c.size) = c := by
  apply Array.ext_getElem?
  intro j
  rw [Array.getElem?_extract, flt_size, szs_app, szs_cons]
  by_cases h : j < c.size
  · rw [if_pos (by omega), flt_get pre post c rfl h]
  · rw [if_neg (by omega), Array.getElem?_eq_none (by omega)]
theorem flt_set (pre post : List (Array Value)) (c : Array Value) {o j : Nat} (v : Value) (ho : o = szs pre) (h : j < c.size) : (flt (pre ++ c :: post)).setIfInBounds (o + j) v = flt (pre ++ c.setIfInBounds j v :: post) := by
  subst ho
  apply Array.ext_getElem?
  intro k
  rw [Array.getElem?_setIfInBounds, flt_at, flt_at, flt_size, szs_app, szs_cons, Array.size_setIfInBounds]
  by_cases hk : szs pre + j = k
  · subst hk
    rw [if_pos rfl, if_pos (by omega), if_neg (by omega), if_pos (by omega), Nat.add_sub_cancel_left, Array.getElem?_setIfInBounds, if_pos rfl, if_pos h]
  · rw [if_neg hk]
    split
    · rfl
    · split
      · rw [Array.getElem?_setIfInBounds, if_neg (by omega)]
      · rfl
theorem flt_spl (pre post : List (Array Value)) (c c' : Array Value) {o : Nat} (ho : o = szs pre) (h : c'.size = c.size) : spl (flt (pre ++ c :: post)) o c'.toList = flt (pre ++ c' :: post) := by
  subst ho
  apply Array.ext_getElem?
  intro k
  rw [spl_get _ _ _ _ (by rw [flt_size, szs_app, szs_cons, Array.length_toList]; omega), flt_at, flt_at, Array.length_toList, h]
  by_cases h1 : k < szs pre
  · rw [if_neg (by omega), if_pos h1, if_pos h1]
  · rw [if_neg h1, if_neg h1]
    by_cases h2 : k < szs pre + c.size
    · rw [if_pos ⟨by omega, h2⟩, if_pos h2, Array.getElem?_toList]
    · rw [if_neg (by omega), if_neg h2, if_neg h2]
theorem flt_ones (fs : List (Array Value)) (h : ∀ c ∈ fs, Ones c) : Ones (flt fs) := by
  unfold Ones flt
  rw [Array.all_eq_true_iff_forall_mem]
  intro v hv
  obtain ⟨c, hc, hm⟩ := List.mem_flatMap.1 (by simpa using hv : v ∈ fs.flatMap Array.toList)
  exact (Array.all_eq_true_iff_forall_mem.1 (h c hc)) v (by simpa using hm)
/- loads and stores -/
theorem ldR_flt (P : Program) (t m : Nat) (w : World) (b : Nat) {o : Nat} (pre post : List (Array Value)) (c : Array Value) (ho : o = szs pre) (hm : m = c.size) : ldR P t m w b o (some (flt (pre ++ c :: post))) = .ok (.agg c) w := by
  subst ho hm
  unfold ldR
  have e : szs pre + c.size ≤ (flt (pre ++ c :: post)).size := by rw [flt_size, szs_app, szs_cons]; omega
  simp only [if_pos e]
  rw [flt_ext]
theorem ldR_whole (P : Program) (t m : Nat) (w : World) (b : Nat) (c : Array Value) (hm : m = c.size) : ldR P t m w b 0 (some c) = .ok (.agg c) w := by
  subst hm
  unfold ldR
  simp only [Nat.zero_add]
  rw [if_pos (Nat.le_refl _), Array.extract_size]
theorem stR_flt (P : Program) (t m : Nat) (w : World) (b : Nat) {o : Nat} (pre post : List (Array Value)) (c c' : Array Value) (ho : o = szs pre) (hm : m = c.size) (hc : c'.size = c.size) (h1 : Ones c') :
    stR P t m w b o (.agg c') (some (flt (pre ++ c :: post))) = .ok () (w.setRow b (flt (pre ++ c' :: post))) := by
  have e : o + m ≤ (flt (pre ++ c :: post)).size ∧ (Value.agg c').cells.size = m ∧ Ones (Value.agg c').cells := ⟨by rw [flt_size, szs_app, szs_cons]; omega, by rw [hm, ← hc]; rfl, h1⟩
  unfold stR
  simp only [if_pos e]
  exact congrArg (fun c => Result.ok () (w.setRow b c)) (flt_spl pre post c c' ho hc)
theorem stR_whole (P : Program) (t m : Nat) (w : World) (b : Nat) (c c' : Array Value) (hm : m = c.size) (hc : c'.size = c.size) (h1 : Ones c') : stR P t m w b 0 (.agg c') (some c) = .ok () (w.setRow b c') := by
  have e : 0 + m ≤ c.size ∧ (Value.agg c').cells.size = m ∧ Ones (Value.agg c').cells := ⟨by omega, by rw [hm, ← hc]; rfl, h1⟩
  unfold stR
  simp only [if_pos e]
  refine congrArg (fun c => Result.ok () (w.setRow b c)) ?_
  apply Array.ext_getElem?
  intro k
  show (spl c 0 c'.toList)[k]? = _
  rw [spl_get _ _ _ _ (by rw [Array.length_toList]; omega), Array.length_toList, Nat.zero_add]
  by_cases hk : k < c'.size
  · rw [if_pos ⟨Nat.zero_le _, hk⟩, Array.getElem?_toList, Nat.sub_zero]
  · rw [if_neg (by omega), Array.getElem?_eq_none (by omega), Array.getElem?_eq_none (by omega)]
/- literals -/
theorem fold_spl (v : Array Value) (o : Nat) (cells : Array Value) : v.zipIdx.foldl (fun cs (c, j) => cs.setIfInBounds (o + j) c) cells = spl cells o v.toList := by
  have key : ∀ (vs : List Value) (i : Nat) (cs : Array Value), (vs.zipIdx i).foldl (fun cs (c, j) => cs.setIfInBounds (o + j) c) cs = spl cs (o + i) vs := by
    intro vs
    induction vs with
    | nil => intro i cs; rfl
    | cons x r ih => intro i cs; simp only [List.zipIdx_cons, List.foldl_cons, ih (i + 1), spl]; rfl
  have h := key v.toList 0 cells
  rw [Nat.add_zero] at h
  rw [← h, ← Array.foldl_toList, Array.toList_zipIdx]
theorem fill_flt {place : Nat → Option (Nat × Nat)} {pre post : List (Array Value)} {c : Array Value} {i o m : Nat} {v : Value} {rest : List (Nat × Value)} (hp : place i = some (o, m)) (ho : o = szs pre) (hm : m = c.size) (hv : v.cells.size = c.size) :
    Instr.fill place (flt (pre ++ c :: post)) ((i, v) :: rest) = Instr.fill place (flt (pre ++ v.cells :: post)) rest := by
  have hs : (flt (pre ++ c :: post)).size = szs pre + (c.size + szs post) := by rw [flt_size, szs_app]; rfl
  rw [Instr.fill]
  simp only [hp]
  rw [if_neg (by simp only [ne_eq, Bool.or_eq_true, decide_eq_true_eq]; omega), fold_spl, flt_spl pre post c v.cells ho hv]
theorem run_lit {P : Program} (t : TypeId) (parts : Array (Nat × Value)) (z cells : Array Value) (places : List (Nat × Nat))
    (hz : (P.info? t).map (·.zero) = some (some (.agg z))) (hp : (P.underlying t).bind (fun d => match d with | .struct fs => fs.toList.mapM (fun f => (P.info? f.type).map fun i => (f.offset, i.size)) | _ => none) = some places)
    (hf : Instr.fill (places.toArray[·]?) z parts.toList = some cells) (w : World) : (Instr.build t parts).run P w = .ok (.agg cells) w := by
  refine run_build w t parts cells ?_
  unfold Program.built
  cases hq : P.info? t with
  | none => rw [hq] at hz; cases hz
  | some it =>
    cases hu : P.underlying t with
    | none => rw [hu] at hp; cases hp
    | some d =>
      rw [hu] at hp
      rw [hq] at hz
      have hz' : it.zero = some (.agg z) := Option.some.inj hz
      cases d <;> first | (simp at hp; done) | skip
      rename_i fs
      have hp' : fs.toList.mapM (fun f => (P.info? f.type).map fun i => (f.offset, i.size)) = some places := hp
      simp only [hz', hp']
      exact hf
/-- a struct's literal keeps its name till its parts are known -/
def bdA (t : TypeId) (parts : Array (Nat × Value)) : Sem Value := Instr.build t parts
end Go.Proofs.Ytamemjldafoolaa.Oct

/-! ## KrTy -/
/- The types of layer 13: api.Version, api.Ring, slices of them, api.Key: loads, stores, literals. -/
namespace Go.Proofs.Ytamemjldafoolaa.Oct
open Go.ChangeShapes Go.WideShapes Go.ChangeAt Go.RowKit
set_option linter.unusedVariables false

theorem ld_ruleK {P : Program} (t : TypeId) (d : TypeDesc) (hu : P.underlying t = some d) (hd : d.isRow = true) (m : Nat) (hi : (P.info? t).map (·.size) = some m) (w : World) (b o : Nat) :
    (ldA t (.pointer (some ⟨b, o, none⟩))).run P w = ldR P t m w b o (row w b) := by
  unfold ldR
  split
  · rename_i c hr
    split
    · rename_i hc
      obtain ⟨t', ht⟩ := row_is hr
      have hx := run_loadAt_mid (P := P) w b o t (c.extract o (o + m)).toList _ (World.rangeAt_of_block ht o m) hu hd (by rw [hi]; simp; omega)
      rw [Array.toArray_toList] at hx
      exact hx
    · rfl
  · rfl
/- api.Key -/
theorem kk_u : Try.prog.underlying 39 = some (.array 32 5) := by kernel_rfl
theorem kk_i : (Try.prog.info? 39).map (·.size) = some 32 := by kernel_rfl
@[go_sem ↓] theorem kk_l (p : Value) : Instr.loadAt 39 p = ldA 39 p := rfl
@[go_sem ↓] theorem kk_s (p v : Value) : Instr.storeAt 39 p v = stA 39 p v := rfl
@[go_sem] theorem kk_ld (w : World) (b o : Nat) : (ldA 39 (.pointer (some ⟨b, o, none⟩))).run Try.prog w = ldR Try.prog 39 32 w b o (row w b) := ld_rule _ _ _ kk_u 32 kk_i w b o
@[go_sem] theorem kk_st (w : World) (b o : Nat) (c : Array Value) : (stA 39 (.pointer (some ⟨b, o, none⟩)) (.agg c)).run Try.prog w = stR Try.prog 39 32 w b o (.agg c) (row w b) := st_rule _ 32 kk_i w b o c
theorem kk_z : (Try.prog.info? 39).map (·.zero) = some (some (.agg (ba 32 fun _ => 0#8))) := by unfold ba; kernel_rfl
@[go_sem ↓] theorem kk_zero (w : World) : (zeroValue 39).run Try.prog w = .ok (.agg (ba 32 fun _ => 0#8)) w := zero_rule _ _ kk_z w
@[go_sem] theorem kk_gd (op : BinOp) (x y : Operand) (xs ys : Array Value) (w : World) : (eqGuard op 39 x y (.agg xs) (.agg ys)).run Try.prog w = .ok () w := run_eqGuard_agg w op _ x y xs ys (by kernel_rfl)
@[go_sem] theorem kk_eq (d : Nat) (f g : Nat → BitVec 8) (w : World) : (Op.equalIn (d + 2) 39 (.agg (ba 32 f)) (.agg (ba 32 g))).run Try.prog w = .ok (eqB 32 f g) w := eq_bytes _ 32 d _ .u8 kk_u u8_u u8_i f g w
@[go_sem] theorem kk_b0 (w : World) : (Instr.build 39 #[]).run Try.prog w = .ok (.agg (ba 32 fun _ => 0#8)) w := by unfold ba; kernel_rfl
/- api.Version -/
@[irreducible] def veA (v : Ve) : Array Value := (veC v).toArray
@[go_sem] theorem veA_size (v : Ve) : (veA v).size = 34 := by unfold veA; rw [List.size_toArray, veC_len]
@[go_sem] theorem veA_ne (v : Ve) : (veA v = #[]) = False := eq_false fun e => by have := congrArg Array.size e; rw [veA_size] at this; simp at this
theorem veA_flt (v : Ve) : veA v = flt [ba 32 v.m, #[.int .i64 v.u], #[.bool v.g]] := by
  unfold veA veC flt
  congr 1
theorem veA_list (v : Ve) : (veA v).toList = veC v := by unfold veA; rfl
theorem veA_ones (v : Ve) : Ones (veA v) := by
  show (veA v).all _ = true
  rw [← Array.all_toList, veA_list, List.all_eq_true]
  exact veC_one v
@[go_sem] theorem veA_ldm (P : Program) (T : Nat) (v : Ve) (w : World) (B : Nat) : ldR P T 32 w B 0 (some (veA v)) = .ok (.agg (ba 32 v.m)) w := by
  rw [veA_flt]; exact ldR_flt P T 32 w B [] _ _ rfl (by rw [ba_size])
@[go_sem] theorem veA_ldw (P : Program) (T : Nat) (v : Ve) (w : World) (B : Nat) : ldR P T 34 w B 0 (some (veA v)) = .ok (.agg (veA v)) w := ldR_whole P T 34 w B _ (veA_size v).symm
@[go_sem] theorem veA_stw (P : Program) (T : Nat) (v x : Ve) (w : World) (B : Nat) : stR P T 34 w B 0 (.agg (veA x)) (some (veA v)) = .ok () (w.setRow B (veA x)) := stR_whole P T 34 w B _ _ (veA_size v).symm (by rw [veA_size, veA_size]) (veA_ones x)
@[go_sem] theorem veA_g32 (v : Ve) : (veA v)[32]? = some (.int .i64 v.u) := by rw [← Array.getElem?_toList, veA_list, veC_u]
@[go_sem] theorem veA_g33 (v : Ve) : (veA v)[33]? = some (.bool v.g) := by rw [← Array.getElem?_toList, veA_list, veC_g]
@[go_sem] theorem veA_e32 (v : Ve) (h : 32 < (veA v).size) : (veA v)[32] = .int .i64 v.u := by have := veA_g32 v; rw [Array.getElem?_eq_getElem h] at this; exact Option.some.inj this
@[go_sem] theorem veA_e33 (v : Ve) (h : 33 < (veA v).size) : (veA v)[33] = .bool v.g := by have := veA_g33 v; rw [Array.getElem?_eq_getElem h] at this; exact Option.some.inj this
theorem ver_i : (Try.prog.info? 57).map (·.size) = some 34 := by kernel_rfl
@[go_sem ↓] theorem ver_l (p : Value) : Instr.loadAt 57 p = ldA 57 p := rfl
@[go_sem ↓] theorem ver_s (p v : Value) : Instr.storeAt 57 p v = stA 57 p v := rfl
@[go_sem] theorem ver_ld (w : World) (b o : Nat) : (ldA 57 (.pointer (some ⟨b, o, none⟩))).run Try.prog w = ldR Try.prog 57 34 w b o (row w b) := ld_ruleK _ _ Try.underlying57 rfl 34 ver_i w b o
@[go_sem] theorem ver_st (w : World) (b o : Nat) (c : Array Value) : (stA 57 (.pointer (some ⟨b, o, none⟩)) (.agg c)).run Try.prog w = stR Try.prog 57 34 w b o (.agg c) (row w b) := st_rule _ 34 ver_i w b o c
theorem ver_z : (Try.prog.info? 57).map (·.zero) = some (some (.agg (veA ve0))) := by unfold veA veC ba; kernel_rfl
@[go_sem ↓] theorem ver_zero (w : World) : (zeroValue 57).run Try.prog w = .ok (.agg (veA ve0)) w := by
  have h := ver_z
  cases hq : Try.prog.info? 57 with
  | none => rw [hq] at h; cases h
  | some i =>
    rw [hq] at h
    have h' : i.zero = some (.agg (veA ve0)) := Option.some.inj h
    simp [zeroValue, typeInfo, hq, h']
@[go_sem ↓] theorem ver_bd (parts : Array (Nat × Value)) : Instr.build 57 parts = bdA 57 parts := rfl
@[go_sem] theorem ver_b1 (m : Bf) (w : World) : (bdA 57 #[(0, .agg (ba 32 m))]).run Try.prog w = .ok (.agg (veA ⟨m, 0, false⟩)) w := by
  refine run_lit _ _ _ _ [(0, 32), (32, 1), (33, 1)] ver_z (by kernel_rfl) ?_ w
  rw [veA_flt, veA_flt]
  exact fill_flt (pre := []) (o := 0) (m := 32) rfl rfl (by rw [ba_size]) (by rw [ba_size]; exact ba_size _ _)
@[go_sem] theorem ver_b2 (u : Int) (w : World) : (bdA 57 #[(1, .int .i64 u)]).run Try.prog w = .ok (.agg (veA ⟨fun _ => 0#8, u, false⟩)) w := by
  refine run_lit _ _ _ _ [(0, 32), (32, 1), (33, 1)] ver_z (by kernel_rfl) ?_ w
  rw [veA_flt, veA_flt]
  exact fill_flt (pre := [ba 32 fun _ => 0#8]) (o := 32) (m := 1) rfl (by simp [szs, ba_size]) rfl rfl
/-- two versions compared -/
def veB (a b : Ve) : Bool := eqB 32 a.m b.m && ((a.u == b.u) && (a.g == b.g))
/- slices of versions -/
theorem ver_info : (Try.prog.info? 57).map (fun i => (i.zero, i.size, i.bytes)) = some (some (.agg (veA ve0)), 34, 48) := by unfold veA veC ba; kernel_rfl
def bsK (t : TypeId) (n : Nat) (parts : Array (Nat × Value)) : Sem Value := Instr.buildSlice t n parts
theorem bsK_of (t : TypeId) (n : Nat) (parts : Array (Nat × Value)) (w : World) (v : Value) (w' : World) (h : (Instr.buildSlice t n parts).run Try.prog w = .ok v w') : (bsK t n parts).run Try.prog w = .ok v w' := h
/- api.Ring -/
@[irreducible] def rgA (b : Bool) (v : Value) : Array Value := #[.bool b, v]
@[go_sem] theorem rgA_size (b : Bool) (v : Value) : (rgA b v).size = 2 := by unfold rgA; rfl
@[go_sem] theorem rgA_ne (b : Bool) (v : Value) : (rgA b v = #[]) = False := eq_false fun e => by have := congrArg Array.size e; rw [rgA_size] at this; simp at this
@[go_sem] theorem rgA_e0 (b : Bool) (v : Value) (h : 0 < (rgA b v).size) : (rgA b v)[0] = .bool b := by unfold rgA; rfl
@[go_sem] theorem rgA_e1 (b : Bool) (v : Value) (h : 1 < (rgA b v).size) : (rgA b v)[1] = v := by unfold rgA; rfl
@[go_sem] theorem rgA_g0 (b : Bool) (v : Value) : (rgA b v)[0]? = some (.bool b) := by unfold rgA; rfl
@[go_sem] theorem rgA_g1 (b : Bool) (v : Value) : (rgA b v)[1]? = some v := by unfold rgA; rfl
theorem rgA_ones (b : Bool) (A : Option Addr) (n c : Nat) : Ones (rgA b (.slice A n c)) := by unfold rgA; simp [Ones, Value.oneCell']
@[go_sem] theorem rgA_ldw (P : Program) (T : Nat) (b : Bool) (v : Value) (w : World) (B : Nat) : ldR P T 2 w B 0 (some (rgA b v)) = .ok (.agg (rgA b v)) w := ldR_whole P T 2 w B _ (rgA_size b v).symm
@[go_sem] theorem rgA_stw (P : Program) (T : Nat) (b b' : Bool) (v : Value) (A : Option Addr) (n c : Nat) (w : World) (B : Nat) : stR P T 2 w B 0 (.agg (rgA b' (.slice A n c))) (some (rgA b v)) = .ok () (w.setRow B (rgA b' (.slice A n c))) :=
  stR_whole P T 2 w B _ _ (rgA_size b v).symm (by rw [rgA_size, rgA_size]) (rgA_ones _ _ _ _)
theorem rgA_c0 {w : World} {B : Nat} {b : Bool} {v : Value} (h : row w B = some (rgA b v)) : w.cell? ⟨B, 0, none⟩ = some (.bool b) := by rw [cell_row h]; unfold rgA; rfl
theorem rgA_c1 {w : World} {B : Nat} {b : Bool} {v : Value} (h : row w B = some (rgA b v)) : w.cell? ⟨B, 1, none⟩ = some v := by rw [cell_row h]; unfold rgA; rfl
/-- a version out of cells, wherever they lie -/
theorem ver_cells (w : World) (g o : Nat) (v : Ve) (hc : ∀ j, j < 34 → w.cell? ⟨g, o + j, none⟩ = (veC v)[j]?) :
    ldR Try.prog 57 34 w g o (row w g) = .ok (.agg (veA v)) w := by
  rw [← ver_ld]
  have h := run_loadAt_mid (P := Try.prog) w g o 57 (veC v) _ (fun j x hx => by
    by_cases hj : j < 34
    · rw [hc j hj]; exact hx
    · rw [List.getElem?_eq_none (by rw [veC_len]; omega)] at hx; cases hx) Try.underlying57 rfl (by rw [ver_i, veC_len])
  unfold veA
  exact h
/-- its material out of cells -/
theorem mat_cells (w : World) (g o : Nat) (v : Ve) (hc : ∀ j, j < 34 → w.cell? ⟨g, o + j, none⟩ = (veC v)[j]?) :
    ldR Try.prog 39 32 w g o (row w g) = .ok (.agg (ba 32 v.m)) w := by
  rw [← kk_ld]
  have h := run_loadAt_mid (P := Try.prog) w g o 39 (ba 32 v.m).toList _ (fun j x hx => by
    rw [Array.getElem?_toList] at hx
    by_cases hj : j < 32
    · rw [hc j (by omega), veC_m v j hj]; rw [ba_get 32 v.m j hj] at hx; exact hx
    · rw [ba_none 32 v.m j hj] at hx; cases hx) kk_u rfl (by rw [kk_i, Array.length_toList, ba_size])
  rw [Array.toArray_toList] at h
  exact h
/- results -/
theorem ld_rowK {P : Program} {w : World} {b : Nat} {c : Array Value} {ty : TypeId} {d : TypeDesc} (hr : row w b = some c) (hu : P.underlying ty = some d) (hd : d.isRow = true) (hi : (P.info? ty).map (·.size) = some c.size) :
    (loadVar ty ⟨b, 0, none⟩).run P w = .ok (.agg c) w := by
  obtain ⟨t', ht⟩ := row_is hr
  have hg : w.rangeAt b 0 (c.extract 0 (0 + c.size)).toList := World.rangeAt_of_block ht 0 c.size
  have hx := run_loadVar_mid (P := P) w b 0 ty _ d hg hu hd (by rw [hi]; simp)
  rw [Array.toArray_toList, Nat.zero_add, Array.extract_size] at hx
  exact hx
theorem res_ctK {P : Program} {fn : Func} {p u : Tmp} {ty : TypeId} (h : fn.results = #[.cell p ty, .tmp u]) (tmps : Array Value) (w : World) (b : Nat) (c : Array Value) (d : TypeDesc)
    (hp : tmps.getD p undef = .pointer (some ⟨b, 0, none⟩)) (hr : row w b = some c) (hu : P.underlying ty = some d) (hd : d.isRow = true) (hi : (P.info? ty).map (·.size) = some c.size) :
    (results fn tmps).run P w = .ok (.tuple #[.agg c, tmps.getD u undef]) w := by
  have hp2 : tmps[p]?.getD undef = .pointer (some ⟨b, 0, none⟩) := by simpa using hp
  simp only [results, h]
  simp [hp2, asAddr, ld_rowK hr hu hd hi]
theorem res_ttctK {P : Program} {fn : Func} {q r p u : Tmp} {ty : TypeId} (h : fn.results = #[.tmp q, .tmp r, .cell p ty, .tmp u]) (tmps : Array Value) (w : World) (b : Nat) (c : Array Value) (d : TypeDesc)
    (hp : tmps.getD p undef = .pointer (some ⟨b, 0, none⟩)) (hr : row w b = some c) (hu : P.underlying ty = some d) (hd : d.isRow = true) (hi : (P.info? ty).map (·.size) = some c.size) :
    (results fn tmps).run P w = .ok (.tuple #[tmps.getD q undef, tmps.getD r undef, .agg c, tmps.getD u undef]) w := by
  have hp2 : tmps[p]?.getD undef = .pointer (some ⟨b, 0, none⟩) := by simpa using hp
  simp only [results, h]
  simp [hp2, asAddr, ld_rowK hr hu hd hi]
end Go.Proofs.Ytamemjldafoolaa.Oct

/-! ## FlowE -/
/- A region that draws its order: first those that yield the same in every world whatever (moves), then the segments of flow_region. Of whatever program. -/
namespace Go.Proofs.Ytamemjldafoolaa.Oct
open Go.RowKit
set_option linter.unusedVariables false
section
variable {P : Program} {Q : Exit → Act → World → Prop}
theorem TT.of_any {ops : Array Oper} : ∀ (f : Nat) (listed : Array Bool) (a : Act) (w : World), wpAny P .any ops Q f listed a w → TT P ops Q (fun _ => false) (fun _ => True) f listed a w := by
  intro f
  induction f with
  | zero => intro _ _ _ h; exact h
  | succ f ih =>
    intro listed a w h
    refine ⟨h.1, fun j hj => wpOp_mono (fun a' w' h' => ?_) (h.2 j hj)⟩
    rw [if_neg Bool.false_ne_true]
    exact ⟨trivial, ih _ _ _ h'⟩
def freeB (l : List Oper) (fr : List Nat) (s : List Seg) (last : List Nat) : Bool := Region.noSelect l.toArray && fr.length + lenS last s == l.length && qsB l.toArray fr (Array.replicate l.length false) && flB l.toArray last s (setAll (Array.replicate l.length false) fr)
theorem flow_free {id : Nat} {a : Act} {w : World} {l : List Oper} (fr : List Nat) (s : List Seg) (last : List Nat) (C : World → Prop) (hm : P.follows .mixedOrders = true) (hB : freeB l fr s last = true)
    (hQ : ∀ c a d v w, Q (.panic c) (a.put (some d) v) w → Q (.panic c) a w) (hC : C (w.drewN 1))
    (h : wpQuiet P l.toArray (fun w' => ∃ x : In (fun _ => True), w' = x.val) (fun a' => wpFl P l Q last s C a' (w.drewN 1)) (pk l fr) a) : (Code.region id l.toArray true).wp P Q a w := by
  simp only [freeB, Bool.and_eq_true, beq_iff_eq] at hB
  obtain ⟨⟨⟨hsel, hlen⟩, hq⟩, hf⟩ := hB
  rw [In_eq] at h
  refine wp_region_any hm ?_
  have e : (Array.replicate l.toArray.size false) = Array.replicate l.length false := by simp
  have T := TT.any _ _ _ _ (TT.quiets (C := fun _ => True) (cl := fun _ => false) (f := lenS last s) (w := w.drewN 1) hsel hQ trivial fr (Array.replicate l.length false) a hq (by rw [← e]; exact DC.none) (fun _ _ _ _ _ _ _ => rfl) h fun a' hd hK =>
    TT.of_any _ _ _ _ (TT.any _ _ _ _ (flow hsel hQ s C _ a' (w.drewN 1) hf hd hC hK)))
  rw [hlen] at T
  rw [e, show l.toArray.size = l.length by simp]
  exact T
end
end Go.Proofs.Ytamemjldafoolaa.Oct

/-! ## KrA -/
/- Contracts of the reference's is, Switch, Destroy. -/
namespace Go.Proofs.Ytamemjldafoolaa.Oct
open Go.ChangeShapes Go.WideShapes Go.ChangeAt Go.RowKit
set_option linter.unusedVariables false

/-- a call on one keyring: what it may change, and the marks of what is new -/
structure Fk (T T' : Mk) (t : Nat) (w w' : World) : Prop where
  fr : Fr T T' (Hk t) w w'
  mks : ∀ k, T' k = T k ∨ Hk t (T' k)
theorem Fk.same {T : Mk} {t : Nat} {w w' : World} (h : Fr T T (Hk t) w w') : Fk T T t w w' := ⟨h, fun _ => .inl rfl⟩
theorem Fk.trans {T T' T2 : Mk} {t : Nat} {w w' w2 : World} (h : Fk T T' t w w') (k : Fk T' T2 t w' w2) : Fk T T2 t w w2 := ⟨h.fr.trans k.fr, fun i => by
  rcases k.mks i with e | e
  · rw [e]; exact h.mks i
  · exact .inr e⟩
/-- a keyring, taken apart -/
theorem KAt.open_ {T : Mk} {w : World} {t B : Nat} {eR eV : TypeId} {K : Ks} (h : KAt T w t eR eV B K) : ∃ A c, w.cell? ⟨B, 0, none⟩ = some (.slice A K.length c) ∧ Oct.row w B = some #[.slice A K.length c] ∧ RsAt T w (t + 1) eR eV (.slice A K.length c) K := by
  obtain ⟨v, hr, h2⟩ := h.row
  obtain ⟨A, c, rfl, _⟩ := h2.form
  exact ⟨A, c, by rw [cell_row hr]; rfl, hr, h2⟩

/-- a ring of it -/
theorem KAt.ring {T : Mk} {w : World} {t B : Nat} {eR eV : TypeId} {K : Ks} {id : Int} (h : KAt T w t eR eV B K) (hok : hasK K id = true) : ∃ (i : Nat) (hi : i < K.length) (g c : Nat) (vi : Value),
    id = (i : Int) + 1 ∧ i < 8 ∧ K.length ≤ 8 ∧ rgAt K id = K[i] ∧ T g = t + 1 ∧ w.cell? ⟨B, 0, none⟩ = some (.slice (some ⟨g, 0, none⟩) K.length c) ∧ Oct.row w B = some #[.slice (some ⟨g, 0, none⟩) K.length c] ∧ RsAt T w (t + 1) eR eV (.slice (some ⟨g, 0, none⟩) K.length c) K ∧
    K.length ≤ c ∧ (∀ j, w.frozen? ⟨g, j, none⟩ = false) ∧ w.cell? ⟨g, i * 2, none⟩ = some (.bool K[i].off) ∧ w.cell? ⟨g, i * 2 + 1, none⟩ = some vi ∧ VsAt T w (t + 1 + 1 + i) eV vi K[i].l ∧ (∀ r, putR K id r = K.set i r) := by
  obtain ⟨a1, a2⟩ := hasK_iff.1 hok
  obtain ⟨A, c, hc, hrow, hrs⟩ := h.open_
  obtain ⟨i, hi⟩ : ∃ i : Nat, id = (i : Int) + 1 := ⟨(id - 1).toNat, by omega⟩
  have hlt : i < K.length := by omega
  have ei : (id - 1).toNat = i := by omega
  have h8 := h.ok.1
  obtain ⟨A', c', e', hle, hmx, hform⟩ := hrs.form
  simp only [Value.slice.injEq] at e'
  obtain ⟨rfl, -, rfl⟩ := e'
  obtain ⟨g, cur, rfl, hg, hgr, hgh, hgs, hgc⟩ := hform (by omega)
  obtain ⟨k1, vi, k2, k3⟩ := hgc i hlt
  exact ⟨i, hlt, g, c, vi, hi, by omega, h8, rgAt_get i hlt ei, hg, hc, hrow, hrs, hle, fun j => froz_row hgr j, by rw [cell_row hgr]; exact k1, by rw [cell_row hgr]; exact k2, k3, fun r => by unfold putR; rw [ei]⟩
/-- a ring's versions changed, its slice as it was -/
theorem RsAt.at_ {T T' : Mk} {H : Nat → Prop} {w w' : World} {t : Nat} {eR eV : TypeId} {K : Ks} {g c i : Nat} (hi : i < K.length) {vi : Value} {l' : List Ve} (h : RsAt T w t eR eV (.slice (some ⟨g, 0, none⟩) K.length c) K) (hc : w.cell? ⟨g, i * 2 + 1, none⟩ = some vi)
    (hf : Fr T T' H w w') (hH : ∀ c, H c → c = t + 1 + i) (hv : VsAt T' w' (t + 1 + i) eV vi l') (hlen : l'.length = K[i].l.length) : RsAt T' w' t eR eV (.slice (some ⟨g, 0, none⟩) K.length c) (K.set i ⟨K[i].off, l'⟩) := by
  obtain ⟨xs, h1, h2⟩ := h.own
  refine ⟨⟨xs, by rw [List.length_set]; exact ownsRow_fr h1 h.tg hf (fun e => by have := hH _ e; omega), fun j hj => ?_⟩, tg_fr h1 h.tg hf⟩
  rw [List.length_set] at hj
  obtain ⟨h3, vj, h4, h5⟩ := h2 j hj
  by_cases hji : j = i
  · subst hji
    rw [List.getElem_set_self]
    have e := World.ownsRow.cellAt (w := w) h1 (j * 2 + 1) (by omega)
    rw [hc, h4] at e
    obtain rfl := Option.some.inj e
    exact ⟨h3, _, h4, hv⟩
  · rw [List.getElem_set_ne (fun e => hji e.symm)]
    exact ⟨h3, vj, h4, h5.fr hf (fun e => by have := hH _ e; omega)⟩
/-- put together again -/
theorem KAt.back {T T' : Mk} {w w' : World} {t B : Nat} {eR eV : TypeId} {K' : Ks} {v : Value} {H : Nat → Prop} (hB : T B = t) (hr : Oct.row w B = some #[v]) (hf : Fr T T' H w w') (hH : ¬ H t) (hrs : RsAt T' w' (t + 1) eR eV v K') (hok : okK K') : KAt T' w' t eR eV B K' :=
  ⟨by rw [hf.tag B (row_lt hr)]; exact hB, ⟨v, hf.rowAt hr (by rw [hB]; exact hH), hrs⟩, hok⟩

end Go.Proofs.Ytamemjldafoolaa.Oct
