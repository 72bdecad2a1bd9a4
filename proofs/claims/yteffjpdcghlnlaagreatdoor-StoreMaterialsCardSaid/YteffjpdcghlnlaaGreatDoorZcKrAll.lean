import Derived.Test.YteffjpdcghlnlaaGreatDoorZcMat
import Derived.Test.YteffjpdcghlnlaaGreatDoorZcLib
import Derived.Laws.Tables
import Derived.Test.YteffjpdcghlnlaaGreatDoorZcAa
import Derived.Laws.StructEq
import Derived.WalkKit
import Derived.ProofKit
import Derived.OpenShut
import Derived.Outline
import Derived.Lib.Hide
import Derived.BigQuiet
import Derived.Deep.QuietTactic
import Derived.OwnWalk
import Derived.Deep.AppendSrc
set_option linter.unusedVariables false
set_option linter.unusedSimpArgs false
namespace Go.Proofs.YteffjpdcghlnlaaGreatDoor.Oct
structure Ve where
 m : Bf
 u : Int
 g : Bool
structure Rg where
 off : Bool
 l : List Ve
abbrev Ks := List Rg
def ve0 : Ve := ⟨fun _ => 0#8, 0, false⟩
def rg0 : Rg := ⟨false, []⟩
def rgAt (K : Ks) (id : Int) : Rg := K.getD (id - 1).toNat rg0
def veAt (r : Rg) (v : Int) : Ve := r.l.getD (v - 1).toNat ve0
def hasK (K : Ks) (id : Int) : Bool := decide (1 ≤ id) && decide (id ≤ (K.length : Int))
def hasV (K : Ks) (id v : Int) : Bool := hasK K id && (decide (1 ≤ v) && decide (v ≤ ((rgAt K id).l.length : Int)))
def putR (K : Ks) (id : Int) (r : Rg) : Ks := K.set (id - 1).toNat r
def putV (r : Rg) (v : Int) (x : Ve) : Rg := ⟨r.off, r.l.set (v - 1).toNat x⟩
def okV (v : Ve) : Prop := (0 ≤ v.u ∧ v.u ≤ 16) ∧ (v.g = true → ∀ i, i < 32 → v.m i = 0#8)
def okR (r : Rg) : Prop := (1 ≤ r.l.length ∧ r.l.length ≤ 4) ∧ ∀ v ∈ r.l, okV v
def okK (K : Ks) : Prop := K.length ≤ 8 ∧ ∀ r ∈ K, okR r
def crE (K : Ks) : Int := if 8 ≤ K.length then 134 else 0
def crN (K : Ks) : Int := if 8 ≤ K.length then 0 else (K.length : Int) + 1
def crK (K : Ks) (m : Bf) : Ks := if 8 ≤ K.length then K else K ++ [⟨false, [⟨m, 0, false⟩]⟩]
def rtE (K : Ks) (id : Int) : Int := if hasK K id = true then (if 4 ≤ (rgAt K id).l.length then 134 else 0) else 130
def rtN (K : Ks) (id : Int) : Int := if rtE K id = 0 then ((rgAt K id).l.length : Int) + 1 else 0
def rtK (K : Ks) (id : Int) (m : Bf) : Ks := if rtE K id = 0 then putR K id ⟨(rgAt K id).off, (rgAt K id).l ++ [⟨m, 0, false⟩]⟩ else K
def swE (K : Ks) (id : Int) : Int := if hasK K id = true then 0 else 130
def swK (K : Ks) (id : Int) (on : Bool) : Ks := if hasK K id = true then putR K id ⟨!on, (rgAt K id).l⟩ else K
def dsE (K : Ks) (id v : Int) : Int := if hasV K id v = true then (if (veAt (rgAt K id) v).g = true then 132 else 0) else 130
def dsK (K : Ks) (id v : Int) : Ks := if dsE K id v = 0 then putR K id (putV (rgAt K id) v ⟨fun _ => 0#8, (veAt (rgAt K id) v).u, true⟩) else K
def lastV (r : Rg) : Ve := veAt r (r.l.length : Int)
def usE (K : Ks) (id : Int) : Int :=
 if hasK K id = true then (if (rgAt K id).off = true then 131 else if (lastV (rgAt K id)).g = true then 132 else if 16 ≤ (lastV (rgAt K id)).u then 133 else 0) else 130
def usV (K : Ks) (id : Int) : Int := if usE K id = 0 then ((rgAt K id).l.length : Int) else 0
def usC (K : Ks) (id : Int) : Int := if usE K id = 0 then (lastV (rgAt K id)).u else 0
def usM (K : Ks) (id : Int) : Bf := if usE K id = 0 then (lastV (rgAt K id)).m else fun _ => 0#8
def usK (K : Ks) (id : Int) : Ks :=
 if usE K id = 0 then putR K id (putV (rgAt K id) ((rgAt K id).l.length : Int) ⟨(lastV (rgAt K id)).m, (lastV (rgAt K id)).u + 1, (lastV (rgAt K id)).g⟩) else K
def mtE (K : Ks) (id v : Int) : Int := if hasV K id v = true then (if (rgAt K id).off = true then 131 else if (veAt (rgAt K id) v).g = true then 132 else 0) else 130
def mtM (K : Ks) (id v : Int) : Bf := if mtE K id v = 0 then (veAt (rgAt K id) v).m else fun _ => 0#8
section
variable {K : Ks} {id v : Int}
theorem hasK_iff : hasK K id = true ↔ 1 ≤ id ∧ id ≤ (K.length : Int) := by unfold hasK; simp only [Bool.and_eq_true, decide_eq_true_eq]
theorem hasV_iff : hasV K id v = true ↔ (1 ≤ id ∧ id ≤ (K.length : Int)) ∧ 1 ≤ v ∧ v ≤ ((rgAt K id).l.length : Int) := by
 unfold hasV; rw [Bool.and_eq_true, hasK_iff]; simp only [Bool.and_eq_true, decide_eq_true_eq]
theorem rgAt_get (i : Nat) (h : i < K.length) (hi : (id - 1).toNat = i) : rgAt K id = K[i] := by unfold rgAt; rw [hi]; simp [h]
theorem veAt_get {r : Rg} (i : Nat) (h : i < r.l.length) (hi : (v - 1).toNat = i) : veAt r v = r.l[i] := by unfold veAt; rw [hi]; simp [h]
theorem rgAt_mem (h : hasK K id = true) : rgAt K id ∈ K := by
 obtain ⟨h1, h2⟩ := hasK_iff.1 h
 rw [rgAt_get (id - 1).toNat (by omega) rfl]
 exact List.getElem_mem _
theorem veAt_mem {r : Rg} (h1 : 1 ≤ v) (h2 : v ≤ (r.l.length : Int)) : veAt r v ∈ r.l := by
 rw [veAt_get (v - 1).toNat (by omega) rfl]
 exact List.getElem_mem _
theorem putR_len (r : Rg) : (putR K id r).length = K.length := by unfold putR; rw [List.length_set]
theorem putV_len {r : Rg} (x : Ve) : (putV r v x).l.length = r.l.length := by unfold putV; rw [List.length_set]
theorem putR_ok {r : Rg} (h : okK K) (hr : okR r) : okK (putR K id r) := by
 refine ⟨by rw [putR_len]; exact h.1, fun y hy => ?_⟩
 unfold putR at hy
 rcases List.mem_or_eq_of_mem_set hy with h1 | h1
 ·exact h.2 y h1
 ·rw [h1]; exact hr
theorem putV_ok {r : Rg} {x : Ve} (h : okR r) (hx : okV x) : okR (putV r v x) := by
 refine ⟨by rw [putV_len]; exact h.1, fun y hy => ?_⟩
 unfold putV at hy
 rcases List.mem_or_eq_of_mem_set hy with h1 | h1
 ·exact h.2 y h1
 ·rw [h1]; exact hx
theorem okK.ring (h : okK K) (hk : hasK K id = true) : okR (rgAt K id) := h.2 _ (rgAt_mem hk)
theorem okR.last {r : Rg} (h : okR r) : okV (lastV r) := h.2 _ (veAt_mem (by have := h.1.1; omega) (Int.le_refl _))
theorem ok_nil : okK [] := ⟨Nat.zero_le _, fun r hr => by cases hr⟩
theorem ok_new (m : Bf) : okV ⟨m, 0, false⟩ := ⟨⟨Int.le_refl 0, show (0 : Int) ≤ 16 by decide⟩, fun e => by cases e⟩
theorem crK_ok (h : okK K) (m : Bf) : okK (crK K m) := by
 unfold crK
 split
 ·exact h
 ·refine ⟨by rw [List.length_append]; simp; omega, fun r hr => ?_⟩
  rcases List.mem_append.1 hr with h1 | h1
  ·exact h.2 r h1
  ·rw [List.mem_singleton] at h1
   subst h1
   exact ⟨⟨by simp, by simp⟩, fun v hv => by rw [List.mem_singleton] at hv; subst hv; exact ok_new m⟩
theorem rtE_zero (h : rtE K id = 0) : hasK K id = true ∧ (rgAt K id).l.length < 4 := by
 unfold rtE at h
 by_cases h1 : hasK K id = true
 ·rw [if_pos h1] at h
  by_cases h2 : 4 ≤ (rgAt K id).l.length
  ·rw [if_pos h2] at h; omega
  ·exact ⟨h1, by omega⟩
 ·rw [if_neg h1] at h; omega
theorem rtK_ok (h : okK K) (m : Bf) : okK (rtK K id m) := by
 unfold rtK
 split
 ·rename_i he
  obtain ⟨h1, h2⟩ := rtE_zero he
  have hr := h.ring h1
  refine putR_ok h ⟨⟨by simp, by simp; omega⟩, fun v hv => ?_⟩
  rcases List.mem_append.1 hv with h3 | h3
  ·exact hr.2 v h3
  ·rw [List.mem_singleton] at h3; subst h3; exact ok_new m
 ·exact h
theorem swK_ok (h : okK K) (on : Bool) : okK (swK K id on) := by
 unfold swK
 split
 ·rename_i h1
  have hr := h.ring h1
  exact putR_ok h ⟨hr.1, hr.2⟩
 ·exact h
theorem dsE_zero (h : dsE K id v = 0) : hasV K id v = true ∧ (veAt (rgAt K id) v).g = false := by
 unfold dsE at h
 by_cases h1 : hasV K id v = true
 ·rw [if_pos h1] at h
  cases hg : (veAt (rgAt K id) v).g
  ·exact ⟨h1, rfl⟩
  ·rw [hg, if_pos rfl] at h; omega
 ·rw [if_neg h1] at h; omega
theorem dsK_ok (h : okK K) : okK (dsK K id v) := by
 unfold dsK
 split
 ·rename_i he
  obtain ⟨h1, _⟩ := dsE_zero he
  obtain ⟨h2, h3, h4⟩ := hasV_iff.1 h1
  have hr := h.ring (hasK_iff.2 h2)
  exact putR_ok h (putV_ok hr ⟨(hr.2 _ (veAt_mem h3 h4)).1, fun _ _ _ => rfl⟩)
 ·exact h
theorem usE_zero (h : usE K id = 0) : hasK K id = true ∧ (rgAt K id).off = false ∧ (lastV (rgAt K id)).g = false ∧ (lastV (rgAt K id)).u < 16 := by
 unfold usE at h
 by_cases h1 : hasK K id = true
 ·rw [if_pos h1] at h
  cases h2 : (rgAt K id).off
  ·cases h3 : (lastV (rgAt K id)).g
   ·by_cases h4 : 16 ≤ (lastV (rgAt K id)).u
    ·rw [h2, h3, if_neg (by decide), if_neg (by decide), if_pos h4] at h; omega
    ·exact ⟨h1, rfl, rfl, by omega⟩
   ·rw [h2, h3, if_neg (by decide), if_pos rfl] at h; omega
  ·rw [h2, if_pos rfl] at h; omega
 ·rw [if_neg h1] at h; omega
theorem usK_ok (h : okK K) : okK (usK K id) := by
 unfold usK
 split
 ·rename_i he
  obtain ⟨h1, _, h3, h4⟩ := usE_zero he
  have hr := h.ring h1
  have hl := hr.last
  exact putR_ok h (putV_ok hr ⟨⟨by have := hl.1.1; show 0 ≤ (lastV (rgAt K id)).u + 1; omega, by show (lastV (rgAt K id)).u + 1 ≤ 16; omega⟩, fun e => by rw [h3] at e; cases e⟩)
 ·exact h
end
open Go.RowKit
@[irreducible] def veC (v : Ve) : List Value := (ba 32 v.m).toList ++ [.int .i64 v.u, .bool v.g]
section
variable (v : Ve)
theorem veC_len : (veC v).length = 34 := by unfold veC; simp [zG]
theorem veC_m (i : Nat) (h : i < 32) : (veC v)[i]? = some (.int .u8 (I (v.m i))) := by
 unfold veC
 rw [List.getElem?_append_left (by rw [Array.length_toList, zG]; exact h), Array.getElem?_toList, zY _ _ _ h]
theorem veC_u : (veC v)[32]? = some (.int .i64 v.u) := by
 unfold veC
 rw [List.getElem?_append_right (by rw [Array.length_toList, zG]; omega), Array.length_toList, zG]; rfl
theorem veC_g : (veC v)[33]? = some (.bool v.g) := by
 unfold veC
 rw [List.getElem?_append_right (by rw [Array.length_toList, zG]; omega), Array.length_toList, zG]; rfl
theorem veC_one : ∀ x ∈ veC v, x.oneCell' = true := by
 intro x hx
 obtain ⟨i, hi, e⟩ := List.mem_iff_getElem.1 hx
 rw [veC_len] at hi
 have e2 : (veC v)[i]? = some x := by rw [List.getElem?_eq_getElem (by rw [veC_len]; exact hi), e]
 by_cases h1 : i < 32
 ·rw [veC_m v i h1] at e2; cases e2; rfl
 ·by_cases h2 : i = 32
  ·subst h2; rw [veC_u] at e2; cases e2; rfl
  ·obtain rfl : i = 33 := by omega
   rw [veC_g] at e2; cases e2; rfl
end
theorem veC_setU (v : Ve) (u : Int) : (veC v).set 32 (.int .i64 u) = veC ⟨v.m, u, v.g⟩ := by
 unfold veC
 rw [List.set_append_right _ _ (by rw [Array.length_toList, zG]; omega), Array.length_toList, zG]; rfl
theorem veC_setG (v : Ve) (g : Bool) : (veC v).set 33 (.bool g) = veC ⟨v.m, v.u, g⟩ := by
 unfold veC
 rw [List.set_append_right _ _ (by rw [Array.length_toList, zG]; omega), Array.length_toList, zG]; rfl
def vsC (l : List Ve) : List Value := l.flatMap veC
theorem vsC_len (l : List Ve) : (vsC l).length = l.length * 34 := by
 unfold vsC
 induction l with
 | nil => rfl
 | cons x l ih => rw [List.flatMap_cons, List.length_append, veC_len, ih, List.length_cons]; omega
theorem vsC_get (l : List Ve) : ∀ (i j : Nat) (h : i < l.length), j < 34 → (vsC l)[i * 34 + j]? = (veC l[i])[j]? := by
 induction l with
 | nil => intro i j h; exact absurd h (by simp)
 | cons x l ih =>
  intro i j h hj
  have e : vsC (x :: l) = veC x ++ vsC l := by unfold vsC; rw [List.flatMap_cons]
  rw [e]
  cases i with
  | zero => rw [List.getElem?_append_left (by rw [veC_len]; omega)]; simp
  | succ i =>
   rw [List.getElem?_append_right (by rw [veC_len]; omega), veC_len, show (i + 1) * 34 + j - 34 = i * 34 + j by omega, ih i j (by simpa using h) hj]
   rfl
theorem vsC_one (l : List Ve) : ∀ x ∈ vsC l, x.oneCell' = true := by
 intro x hx
 unfold vsC at hx
 obtain ⟨v, _, h⟩ := List.mem_flatMap.1 hx
 exact veC_one v x h
structure VsAt (T : Mk) (w : World) (t : Nat) (e : TypeId) (v : Value) (l : List Ve) : Prop where
 own : w.ownsRow 0 e 34 v l.length (vsC l)
 tg : ∀ g, v.ownBlock = some g → T g = t
section
variable {T T' T2 : Mk} {H : Nat → Prop} {w w' : World} {t : Nat} {e : TypeId} {v : Value} {l : List Ve}
theorem ownsRow_fr {n k : Nat} {xs : List Value} (h : w.ownsRow 0 e k v n xs) (tg : ∀ g, v.ownBlock = some g → T g = t) (hf : Fr T T' H w w') (ht : ¬ H t) : w'.ownsRow 0 e k v n xs := by
 refine ⟨h.1, ?_⟩
 rcases h.2 with hn | ⟨g, cap, cur, rfl, hb, hg, rest⟩
 ·exact .inl hn
 ·exact .inr ⟨g, cap, cur, rfl, hb, by rw [hf.keep g (Array.getElem?_eq_some_iff.1 hg).1 (by rw [tg g rfl]; exact ht)]; exact hg, rest⟩
theorem tg_fr {n k : Nat} {xs : List Value} (h : w.ownsRow 0 e k v n xs) (tg : ∀ g, v.ownBlock = some g → T g = t) (hf : Fr T T' H w w') : ∀ g, v.ownBlock = some g → T' g = t :=
 fun g hg => by rw [hf.tag g (World.ownsRow.lt h g hg).2]; exact tg g hg
theorem VsAt.fr (h : VsAt T w t e v l) (hf : Fr T T' H w w') (ht : ¬ H t) : VsAt T' w' t e v l := ⟨ownsRow_fr h.own h.tg hf ht, tg_fr h.own h.tg hf⟩
theorem VsAt.form (h : VsAt T w t e v l) : ∃ A c, v = .slice A l.length c ∧ l.length ≤ c ∧ c ≤ maxLen ∧ (0 < l.length → ∃ g cur, A = some ⟨g, 0, none⟩ ∧ T g = t ∧ Oct.row w g = some cur ∧ w.heap[g]? = some (.cells cur e (0, 0)) ∧ cur.size = c * 34 ∧ ∀ i j (hi : i < l.length), j < 34 → cur[i * 34 + j]? = (veC l[i])[j]?) := by
 rcases h.own.2 with ⟨rfl, h0⟩ | ⟨g, cap, cur, rfl, hb, hg, hc, hm, hcs, htk⟩
 ·obtain rfl := List.length_eq_zero_iff.1 h0
  exact ⟨none, 0, rfl, Nat.le_refl _, Nat.zero_le _, fun hn => absurd hn (by omega)⟩
 ·refine ⟨some ⟨g, 0, none⟩, cap, rfl, hc, hm, fun hn => ⟨g, cur, rfl, h.tg g rfl, row_of hg, hg, hcs, fun i j hi hj => ?_⟩⟩
  rw [← vsC_get l i j hi hj, ← htk, List.getElem?_take, if_pos (by omega), Array.getElem?_toList]
end
structure VRd (w : World) (v : Value) (l : List Ve) : Prop where
 at_ : ∃ A c, v = .slice A l.length c ∧ l.length ≤ c ∧ c ≤ maxLen ∧ (A = none → c = 0) ∧ (0 < l.length → ∃ g o, A = some ⟨g, o, none⟩ ∧ g < w.heap.size ∧ ∀ i j (hi : i < l.length), j < 34 → w.cell? ⟨g, o + i * 34 + j, none⟩ = (veC l[i])[j]?)
theorem VRd.below {w w' : World} {v : Value} {l : List Ve} (h : VRd w v l) (hb : Below w.heap.size w w') : VRd w' v l := by
 obtain ⟨A, c, e, h1, h2, h4, h3⟩ := h.at_
 refine ⟨A, c, e, h1, h2, h4, fun hn => ?_⟩
 obtain ⟨g, o, e2, hg, hc⟩ := h3 hn
 refine ⟨g, o, e2, Nat.lt_of_lt_of_le hg hb.size, fun i j hi hj => ?_⟩
 rw [World.cell?_of_block (w := w) (hb.block g hg)]
 exact hc i j hi hj
structure RsAt (T : Mk) (w : World) (t : Nat) (eR eV : TypeId) (v : Value) (K : Ks) : Prop where
 own : ∃ xs, w.ownsRow 0 eR 2 v K.length xs ∧ ∀ i (h : i < K.length), xs[i * 2]? = some (.bool K[i].off) ∧ ∃ vi, xs[i * 2 + 1]? = some vi ∧ VsAt T w (t + 1 + i) eV vi K[i].l
 tg : ∀ g, v.ownBlock = some g → T g = t
section
variable {T T' : Mk} {H : Nat → Prop} {w w' : World} {t : Nat} {eR eV : TypeId} {v : Value} {K : Ks}
theorem RsAt.nil : RsAt T w t eR eV (.slice none 0 0) [] := ⟨⟨[], World.ownsRow_nil _ _ _ _, fun i hi => absurd hi (by simp)⟩, fun g hg => by cases hg⟩
theorem RsAt.fr (h : RsAt T w t eR eV v K) (hf : Fr T T' H w w') (hn : ∀ c, t ≤ c → c ≤ t + K.length → ¬ H c) : RsAt T' w' t eR eV v K := by
 obtain ⟨xs, h1, h2⟩ := h.own
 refine ⟨⟨xs, ownsRow_fr h1 h.tg hf (hn t (Nat.le_refl _) (by omega)), fun i hi => ?_⟩, tg_fr h1 h.tg hf⟩
 obtain ⟨h3, vi, h4, h5⟩ := h2 i hi
 exact ⟨h3, vi, h4, h5.fr hf (hn _ (by omega) (by omega))⟩
theorem RsAt.form (h : RsAt T w t eR eV v K) : ∃ A c, v = .slice A K.length c ∧ K.length ≤ c ∧ c ≤ maxLen ∧ (0 < K.length → ∃ g cur, A = some ⟨g, 0, none⟩ ∧ T g = t ∧ Oct.row w g = some cur ∧ w.heap[g]? = some (.cells cur eR (0, 0)) ∧ cur.size = c * 2 ∧
  ∀ i (hi : i < K.length), cur[i * 2]? = some (.bool K[i].off) ∧ ∃ vi, cur[i * 2 + 1]? = some vi ∧ VsAt T w (t + 1 + i) eV vi K[i].l) := by
 obtain ⟨xs, h1, h2⟩ := h.own
 rcases h1.2 with ⟨rfl, h0⟩ | ⟨g, cap, cur, rfl, hb, hg, hc, hm, hcs, htk⟩
 ·obtain rfl := List.length_eq_zero_iff.1 h0
  exact ⟨none, 0, rfl, Nat.le_refl _, Nat.zero_le _, fun hn => absurd hn (by omega)⟩
 ·refine ⟨some ⟨g, 0, none⟩, cap, rfl, hc, hm, fun hn => ⟨g, cur, rfl, h.tg g rfl, row_of hg, hg, hcs, fun i hi => ?_⟩⟩
  obtain ⟨h3, vi, h4, h5⟩ := h2 i hi
  have e : ∀ j, j < K.length * 2 → cur[j]? = xs[j]? := fun j hj => by rw [← htk, List.getElem?_take, if_pos hj, Array.getElem?_toList]
  exact ⟨by rw [e _ (by omega)]; exact h3, vi, by rw [e _ (by omega)]; exact h4, h5⟩
theorem RsAt.app {r : Rg} {vi : Value} {v' : Value} {xs : List Value} (h : RsAt T w t eR eV v K) (hxs : w.ownsRow 0 eR 2 v K.length xs)
  (hel : ∀ i (h : i < K.length), xs[i * 2]? = some (.bool K[i].off) ∧ ∃ vi, xs[i * 2 + 1]? = some vi ∧ VsAt T w (t + 1 + i) eV vi K[i].l)
  (h1 : w'.ownsRow 0 eR 2 v' (K.length + 1) (xs ++ [.bool r.off, vi])) (h2 : w.grownBy w' v.ownBlock) (h3 : v'.ownBlock = v.ownBlock ∨ v'.ownBlock = some w.heap.size)
  (hv : VsAt T w (t + 1 + K.length) eV vi r.l) : RsAt (zH T w.heap.size t) w' t eR eV v' (K ++ [r]) := by
 have hf : Fr T (zH T w.heap.size t) (fun c => c = t) w w' := Fr.grown h2 (fun g hg => h.tg g hg) t
 have hl := hxs.1
 refine ⟨⟨_, by rw [List.length_append]; exact h1, fun i hi => ?_⟩, fun g hg => ?_⟩
 ·by_cases hlt : i < K.length
  ·obtain ⟨h4, wi, h5, h6⟩ := hel i hlt
   rw [List.getElem_append_left hlt]
   exact ⟨by rw [List.getElem?_append_left (by omega)]; exact h4, wi, by rw [List.getElem?_append_left (by omega)]; exact h5, h6.fr hf (by omega)⟩
  ·obtain rfl : i = K.length := by simp at hi; omega
   rw [List.getElem_append_right (Nat.le_refl _)]
   refine ⟨by rw [List.getElem?_append_right (by omega), hl, Nat.sub_self]; simp, vi, by rw [List.getElem?_append_right (by omega), hl, Nat.add_sub_cancel_left]; rfl, ?_⟩
   simpa using hv.fr hf (by omega)
 ·rcases h3 with e | e
  ·rw [e] at hg
   rw [zJ (World.ownsRow.lt hxs g hg).2]
   exact h.tg g hg
  ·rw [e] at hg
   cases hg
   exact zN (Nat.le_refl _)
end
def Hk (t : Nat) : Nat → Prop := fun c => t ≤ c ∧ c ≤ t + 9
theorem spl_sizeK : ∀ (vs : List Value) (o : Nat) (c : Array Value), (spl c o vs).size = c.size
 | [], _, _ => rfl
 | v :: r, o, c => by simp only [spl]; rw [spl_sizeK r]; simp
section
variable {T T' T2 : Mk} {H : Nat → Prop} {w w' : World} {t : Nat} {e : TypeId} {v : Value} {l : List Ve}
end
@[irreducible] def flt (fs : List (Array Value)) : Array Value := (fs.flatMap Array.toList).toArray
def szs : List (Array Value) → Nat
 | [] => 0
 | c :: r => c.size + szs r
theorem szs_cons (c : Array Value) (r : List (Array Value)) : szs (c :: r) = c.size + szs r := rfl
theorem szs_app (a b : List (Array Value)) : szs (a ++ b) = szs a + szs b := by
 induction a with
 | nil => simp [szs]
 | cons c r ih => simp only [List.cons_append, szs, ih]; omega
theorem flat_len (fs : List (Array Value)) : (fs.flatMap Array.toList).length = szs fs := by
 induction fs with
 | nil => rfl
 | cons c r ih => simp only [List.flatMap_cons, List.length_append, szs, ih, Array.length_toList]
theorem flt_size (fs : List (Array Value)) : (flt fs).size = szs fs := by unfold flt; rw [List.size_toArray, flat_len]
theorem flt_at (pre post : List (Array Value)) (c : Array Value) (k : Nat) : (flt (pre ++ c :: post))[k]? = if k < szs pre then (flt pre)[k]? else if k < szs pre + c.size then c[k - szs pre]? else (flt post)[k - szs pre - c.size]? := by
 unfold flt
 simp only [List.getElem?_toArray, List.flatMap_append, List.flatMap_cons]
 by_cases h : k < szs pre
 ·rw [if_pos h, List.getElem?_append_left (by rw [flat_len]; exact h)]
 ·rw [if_neg h, List.getElem?_append_right (by rw [flat_len]; omega), flat_len]
  by_cases h2 : k < szs pre + c.size
  ·rw [if_pos h2, List.getElem?_append_left (by rw [Array.length_toList]; omega), Array.getElem?_toList]
  ·rw [if_neg h2, List.getElem?_append_right (by rw [Array.length_toList]; omega), Array.length_toList]
theorem flt_get (pre post : List (Array Value)) (c : Array Value) {o j : Nat} (ho : o = szs pre) (h : j < c.size) : (flt (pre ++ c :: post))[o + j]? = c[j]? := by
 subst ho
 rw [flt_at, if_neg (by omega), if_pos (by omega), Nat.add_sub_cancel_left]
theorem flt_ext (pre post : List (Array Value)) (c : Array Value) : (flt (pre ++ c :: post)).extract (szs pre) (szs pre + c.size) = c := by
 apply Array.ext_getElem?
 intro j
 rw [Array.getElem?_extract, flt_size, szs_app, szs_cons]
 by_cases h : j < c.size
 ·rw [if_pos (by omega), flt_get pre post c rfl h]
 ·rw [if_neg (by omega), Array.getElem?_eq_none (by omega)]
theorem flt_set (pre post : List (Array Value)) (c : Array Value) {o j : Nat} (v : Value) (ho : o = szs pre) (h : j < c.size) : (flt (pre ++ c :: post)).setIfInBounds (o + j) v = flt (pre ++ c.setIfInBounds j v :: post) := by
 subst ho
 apply Array.ext_getElem?
 intro k
 rw [Array.getElem?_setIfInBounds, flt_at, flt_at, flt_size, szs_app, szs_cons, Array.size_setIfInBounds]
 by_cases hk : szs pre + j = k
 ·subst hk
  rw [if_pos rfl, if_pos (by omega), if_neg (by omega), if_pos (by omega), Nat.add_sub_cancel_left, Array.getElem?_setIfInBounds, if_pos rfl, if_pos h]
 ·rw [if_neg hk]
  split
  ·rfl
  ·split
   ·rw [Array.getElem?_setIfInBounds, if_neg (by omega)]
   ·rfl
theorem flt_spl (pre post : List (Array Value)) (c c' : Array Value) {o : Nat} (ho : o = szs pre) (h : c'.size = c.size) : spl (flt (pre ++ c :: post)) o c'.toList = flt (pre ++ c' :: post) := by
 subst ho
 apply Array.ext_getElem?
 intro k
 rw [xJ _ _ _ _ (by rw [flt_size, szs_app, szs_cons, Array.length_toList]; omega), flt_at, flt_at, Array.length_toList, h]
 by_cases h1 : k < szs pre
 ·rw [if_neg (by omega), if_pos h1, if_pos h1]
 ·rw [if_neg h1, if_neg h1]
  by_cases h2 : k < szs pre + c.size
  ·rw [if_pos ⟨by omega, h2⟩, if_pos h2, Array.getElem?_toList]
  ·rw [if_neg (by omega), if_neg h2, if_neg h2]
theorem flt_ones (fs : List (Array Value)) (h : ∀ c ∈ fs, Ones c) : Ones (flt fs) := by
 unfold Ones flt
 rw [Array.all_eq_true_iff_forall_mem]
 intro v hv
 obtain ⟨c, hc, hm⟩ := List.mem_flatMap.1 (by simpa using hv : v ∈ fs.flatMap Array.toList)
 exact (Array.all_eq_true_iff_forall_mem.1 (h c hc)) v (by simpa using hm)
theorem ldR_flt (P : Program) (t m : Nat) (w : World) (b : Nat) {o : Nat} (pre post : List (Array Value)) (c : Array Value) (ho : o = szs pre) (hm : m = c.size) : ldR P t m w b o (some (flt (pre ++ c :: post))) = .ok (.agg c) w := by
 subst ho hm
 unfold ldR
 have e : szs pre + c.size ≤ (flt (pre ++ c :: post)).size := by rw [flt_size, szs_app, szs_cons]; omega
 simp only [if_pos e]
 rw [flt_ext]
theorem ldR_whole (P : Program) (t m : Nat) (w : World) (b : Nat) (c : Array Value) (hm : m = c.size) : ldR P t m w b 0 (some c) = .ok (.agg c) w := by
 subst hm
 unfold ldR
 simp only [Nat.zero_add]
 rw [if_pos (Nat.le_refl _), Array.extract_size]
theorem stR_flt (P : Program) (t m : Nat) (w : World) (b : Nat) {o : Nat} (pre post : List (Array Value)) (c c' : Array Value) (ho : o = szs pre) (hm : m = c.size) (hc : c'.size = c.size) (h1 : Ones c') :
  stR P t m w b o (.agg c') (some (flt (pre ++ c :: post))) = .ok () (w.setRow b (flt (pre ++ c' :: post))) := by
 have e : o + m ≤ (flt (pre ++ c :: post)).size ∧ (Value.agg c').cells.size = m ∧ Ones (Value.agg c').cells := ⟨by rw [flt_size, szs_app, szs_cons]; omega, by rw [hm, ← hc]; rfl, h1⟩
 unfold stR
 simp only [if_pos e]
 exact congrArg (fun c => Result.ok () (w.setRow b c)) (flt_spl pre post c c' ho hc)
theorem stR_whole (P : Program) (t m : Nat) (w : World) (b : Nat) (c c' : Array Value) (hm : m = c.size) (hc : c'.size = c.size) (h1 : Ones c') : stR P t m w b 0 (.agg c') (some c) = .ok () (w.setRow b c') := by
 have e : 0 + m ≤ c.size ∧ (Value.agg c').cells.size = m ∧ Ones (Value.agg c').cells := ⟨by omega, by rw [hm, ← hc]; rfl, h1⟩
 unfold stR
 simp only [if_pos e]
 refine congrArg (fun c => Result.ok () (w.setRow b c)) ?_
 apply Array.ext_getElem?
 intro k
 show (spl c 0 c'.toList)[k]? = _
 rw [xJ _ _ _ _ (by rw [Array.length_toList]; omega), Array.length_toList, Nat.zero_add]
 by_cases hk : k < c'.size
 ·rw [if_pos ⟨Nat.zero_le _, hk⟩, Array.getElem?_toList, Nat.sub_zero]
 ·rw [if_neg (by omega), Array.getElem?_eq_none (by omega), Array.getElem?_eq_none (by omega)]
theorem fold_spl (v : Array Value) (o : Nat) (cells : Array Value) : v.zipIdx.foldl (fun cs (c, j) => cs.setIfInBounds (o + j) c) cells = spl cells o v.toList := by
 have key : ∀ (vs : List Value) (i : Nat) (cs : Array Value), (vs.zipIdx i).foldl (fun cs (c, j) => cs.setIfInBounds (o + j) c) cs = spl cs (o + i) vs := by
  intro vs
  induction vs with
  | nil => intro i cs; rfl
  | cons x r ih => intro i cs; simp only [List.zipIdx_cons, List.foldl_cons, ih (i + 1), spl]; rfl
 have h := key v.toList 0 cells
 rw [Nat.add_zero] at h
 rw [← h, ← Array.foldl_toList, Array.toList_zipIdx]
theorem fill_flt {place : Nat → Option (Nat × Nat)} {pre post : List (Array Value)} {c : Array Value} {i o m : Nat} {v : Value} {rest : List (Nat × Value)} (hp : place i = some (o, m)) (ho : o = szs pre) (hm : m = c.size) (hv : v.cells.size = c.size) :
  Instr.fill place (flt (pre ++ c :: post)) ((i, v) :: rest) = Instr.fill place (flt (pre ++ v.cells :: post)) rest := by
 have hs : (flt (pre ++ c :: post)).size = szs pre + (c.size + szs post) := by rw [flt_size, szs_app]; rfl
 rw [Instr.fill]
 simp only [hp]
 rw [if_neg (by simp only [ne_eq, Bool.or_eq_true, decide_eq_true_eq]; omega), fold_spl, flt_spl pre post c v.cells ho hv]
theorem run_lit {P : Program} (t : TypeId) (yF : Array (Nat × Value)) (z cells : Array Value) (places : List (Nat × Nat))
  (hz : (P.info? t).map (·.zero) = some (some (.agg z))) (hp : (P.underlying t).bind (fun d => match d with | .struct fs => fs.toList.mapM (fun f => (P.info? f.type).map fun i => (f.offset, i.size)) | _ => none) = some places)
  (hf : Instr.fill (places.toArray[·]?) z yF.toList = some cells) (w : World) : (Instr.build t yF).run P w = .ok (.agg cells) w := by
 refine run_build w t yF cells ?_
 unfold Program.built
 cases hq : P.info? t with
 | none => rw [hq] at hz; cases hz
 | some it =>
  cases hu : P.underlying t with
  | none => rw [hu] at hp; cases hp
  | some d =>
   rw [hu] at hp
   rw [hq] at hz
   have hz' : it.zero = some (.agg z) := Option.some.inj hz
   cases d <;> first | (simp at hp; done) | skip
   rename_i fs
   have hp' : fs.toList.mapM (fun f => (P.info? f.type).map fun i => (f.offset, i.size)) = some places := hp
   simp only [hz', hp']
   exact hf
def bdA (t : TypeId) (yF : Array (Nat × Value)) : Sem Value := Instr.build t yF
open Go.ChangeShapes Go.WideShapes Go.ChangeAt
theorem ld_ruleK {P : Program} (t : TypeId) (d : TypeDesc) (hu : P.underlying t = some d) (hd : d.isRow = true) (m : Nat) (hi : (P.info? t).map (·.size) = some m) (w : World) (b o : Nat) :
  (ldA t (.pointer (some ⟨b, o, none⟩))).run P w = ldR P t m w b o (row w b) := by
 unfold ldR
 split
 ·rename_i c hr
  split
  ·rename_i hc
   obtain ⟨t', ht⟩ := xC hr
   have hx := run_loadAt_mid (P := P) w b o t (c.extract o (o + m)).toList _ (World.rangeAt_of_block ht o m) hu hd (by rw [hi]; simp; omega)
   rw [Array.toArray_toList] at hx
   exact hx
  ·rfl
 ·rfl
theorem kk_u : Tryz.prog.underlying 61 = some (.array 32 5) := by kernel_rfl
theorem kk_i : (Tryz.prog.info? 61).map (·.size) = some 32 := by kernel_rfl
@[go_sem ↓] theorem kk_l (p : Value) : Instr.loadAt 61 p = ldA 61 p := rfl
@[go_sem ↓] theorem kk_s (p v : Value) : Instr.storeAt 61 p v = stA 61 p v := rfl
@[go_sem] theorem kk_ld (w : World) (b o : Nat) : (ldA 61 (.pointer (some ⟨b, o, none⟩))).run Tryz.prog w = ldR Tryz.prog 61 32 w b o (row w b) := yU _ _ _ kk_u 32 kk_i w b o
@[go_sem] theorem kk_st (w : World) (b o : Nat) (c : Array Value) : (stA 61 (.pointer (some ⟨b, o, none⟩)) (.agg c)).run Tryz.prog w = stR Tryz.prog 61 32 w b o (.agg c) (row w b) := yO _ 32 kk_i w b o c
theorem kk_z : (Tryz.prog.info? 61).map (·.zero) = some (some (.agg (ba 32 fun _ => 0#8))) := by unfold ba; kernel_rfl
@[go_sem ↓] theorem kk_zero (w : World) : (zeroValue 61).run Tryz.prog w = .ok (.agg (ba 32 fun _ => 0#8)) w := yC _ _ kk_z w
@[irreducible] def veA (v : Ve) : Array Value := (veC v).toArray
@[go_sem] theorem veA_size (v : Ve) : (veA v).size = 34 := by unfold veA; rw [List.size_toArray, veC_len]
theorem veA_flt (v : Ve) : veA v = flt [ba 32 v.m, #[.int .i64 v.u], #[.bool v.g]] := by
 unfold veA veC flt
 congr 1
theorem veA_list (v : Ve) : (veA v).toList = veC v := by unfold veA; rfl
theorem veA_ones (v : Ve) : Ones (veA v) := by
 show (veA v).all _ = true
 rw [← Array.all_toList, veA_list, List.all_eq_true]
 exact veC_one v
theorem ver_i : (Tryz.prog.info? 63).map (·.size) = some 34 := by kernel_rfl
@[go_sem ↓] theorem ver_l (p : Value) : Instr.loadAt 63 p = ldA 63 p := rfl
@[go_sem ↓] theorem ver_s (p v : Value) : Instr.storeAt 63 p v = stA 63 p v := rfl
@[go_sem] theorem ver_st (w : World) (b o : Nat) (c : Array Value) : (stA 63 (.pointer (some ⟨b, o, none⟩)) (.agg c)).run Tryz.prog w = stR Tryz.prog 63 34 w b o (.agg c) (row w b) := yO _ 34 ver_i w b o c
theorem ver_z : (Tryz.prog.info? 63).map (·.zero) = some (some (.agg (veA ve0))) := by unfold veA veC ba; kernel_rfl
@[go_sem ↓] theorem ver_bd (yF : Array (Nat × Value)) : Instr.build 63 yF = bdA 63 yF := rfl
@[go_sem] theorem ver_b1 (m : Bf) (w : World) : (bdA 63 #[(0, .agg (ba 32 m))]).run Tryz.prog w = .ok (.agg (veA ⟨m, 0, false⟩)) w := by
 refine run_lit _ _ _ _ [(0, 32), (32, 1), (33, 1)] ver_z (by kernel_rfl) ?_ w
 rw [veA_flt, veA_flt]
 exact fill_flt (pre := []) (o := 0) (m := 32) rfl rfl (by rw [zG]) (by rw [zG]; exact zG _ _)
theorem vers_u : Tryz.prog.underlying 57 = some (.slice 63) := by kernel_rfl
theorem ver_info : (Tryz.prog.info? 63).map (fun i => (i.zero, i.size, i.bytes)) = some (some (.agg (veA ve0)), 34, 48) := by unfold veA veC ba; kernel_rfl
def bsK (t : TypeId) (n : Nat) (yF : Array (Nat × Value)) : Sem Value := Instr.buildSlice t n yF
@[go_sem ↓] theorem vers_bs (n : Nat) (yF : Array (Nat × Value)) : Instr.buildSlice 57 n yF = bsK 57 n yF := rfl
theorem bsK_of (t : TypeId) (n : Nat) (yF : Array (Nat × Value)) (w : World) (v : Value) (w' : World) (h : (Instr.buildSlice t n yF).run Tryz.prog w = .ok v w') : (bsK t n yF).run Tryz.prog w = .ok v w' := h
@[go_sem] theorem vers_b0 (w : World) : (bsK 57 0 #[]).run Tryz.prog w = .ok (.slice (some ⟨w.heap.size, 0, none⟩) 0 0) (w.alloc (.cells #[] 63)) := bsK_of _ _ _ _ _ _ (by kernel_rfl)
@[irreducible] def rgA (b : Bool) (v : Value) : Array Value := #[.bool b, v]
@[go_sem] theorem rgA_size (b : Bool) (v : Value) : (rgA b v).size = 2 := by unfold rgA; rfl
theorem rins_u : Tryz.prog.underlying 55 = some (.slice 59) := by kernel_rfl
theorem rin_info : (Tryz.prog.info? 59).map (fun i => (i.zero, i.size, i.bytes)) = some (some (.agg (rgA false (.slice none 0 0))), 2, 32) := by unfold rgA; kernel_rfl
@[go_sem ↓] theorem rin_l (p : Value) : Instr.loadAt 59 p = ldA 59 p := rfl
@[go_sem ↓] theorem rin_s (p v : Value) : Instr.storeAt 59 p v = stA 59 p v := rfl
@[go_sem ↓] theorem rin_bd (yF : Array (Nat × Value)) : Instr.build 59 yF = bdA 59 yF := rfl
@[go_sem] theorem rin_b2 (b : Bool) (A : Option Addr) (n c : Nat) (w : World) : (bdA 59 #[(0, .bool b), (1, .slice A n c)]).run Tryz.prog w = .ok (.agg (rgA b (.slice A n c))) w := by unfold bdA rgA; kernel_rfl
@[go_sem ↓] theorem rins_bs (n : Nat) (yF : Array (Nat × Value)) : Instr.buildSlice 55 n yF = bsK 55 n yF := rfl
@[go_sem] theorem rins_b1 (b : Bool) (A : Option Addr) (n c : Nat) (w : World) : (bsK 55 1 #[(0, .agg (rgA b (.slice A n c)))]).run Tryz.prog w = .ok (.slice (some ⟨w.heap.size, 0, none⟩) 1 1) (w.alloc (.cells (rgA b (.slice A n c)) 59)) :=
 bsK_of _ _ _ _ _ _ (by unfold rgA; kernel_rfl)
theorem ld_rowK {P : Program} {w : World} {b : Nat} {c : Array Value} {ty : TypeId} {d : TypeDesc} (hr : row w b = some c) (hu : P.underlying ty = some d) (hd : d.isRow = true) (hi : (P.info? ty).map (·.size) = some c.size) :
  (loadVar ty ⟨b, 0, none⟩).run P w = .ok (.agg c) w := by
 obtain ⟨t', ht⟩ := xC hr
 have hg : w.rangeAt b 0 (c.extract 0 (0 + c.size)).toList := World.rangeAt_of_block ht 0 c.size
 have hx := run_loadVar_mid (P := P) w b 0 ty _ d hg hu hd (by rw [hi]; simp)
 rw [Array.toArray_toList, Nat.zero_add, Array.extract_size] at hx
 exact hx
theorem res_ctK {P : Program} {fn : Func} {p u : Tmp} {ty : TypeId} (h : fn.results = #[.cell p ty, .tmp u]) (tmps : Array Value) (w : World) (b : Nat) (c : Array Value) (d : TypeDesc)
  (hp : tmps.getD p undef = .pointer (some ⟨b, 0, none⟩)) (hr : row w b = some c) (hu : P.underlying ty = some d) (hd : d.isRow = true) (hi : (P.info? ty).map (·.size) = some c.size) :
  (results fn tmps).run P w = .ok (.tuple #[.agg c, tmps.getD u undef]) w := by
 have hp2 : tmps[p]?.getD undef = .pointer (some ⟨b, 0, none⟩) := by simpa using hp
 simp only [results, h]
 simp [hp2, asAddr, ld_rowK hr hu hd hi]
section
variable {P : Program} {Q : Exit → Act → World → Prop}
end
structure Fk (T T' : Mk) (t : Nat) (w w' : World) : Prop where
 fr : Fr T T' (Hk t) w w'
 mks : ∀ k, T' k = T k ∨ Hk t (T' k)
theorem Fk.trans {T T' T2 : Mk} {t : Nat} {w w' w2 : World} (h : Fk T T' t w w') (k : Fk T' T2 t w' w2) : Fk T T2 t w w2 := ⟨h.fr.trans k.fr, fun i => by
 rcases k.mks i with e | e
 ·rw [e]; exact h.mks i
 ·exact .inr e⟩
theorem Fr.same {T : Mk} {H : Nat → Prop} {w w' : World} (h : Below w.heap.size w w') : Fr T T H w w' := Fr.calm h fun _ _ => rfl
theorem wpl_appK {P : Program} {w : World} {ops : Array Oper} {rest : List Oper} {o : Oper} {a : Act} {Q : Exit → Act → World → Prop} (hgd : o.guard = none) (s y : Operand) {t u : TypeId} {z : Value} {k bytes : Nat} (ho : o.op = .call { callee := .builtin .append, args := #[s, y], argTypes := #[t, t] })
  (ht : P.underlying t = some (.slice u)) (hi : (P.info? u).map (fun i => (i.zero, i.size, i.bytes)) = some (some z, k, bytes)) (hz : z.cells.size = k) (hk : 0 < k) (hb : bytes ≤ 64)
  {v : Value} {n : Nat} {xs : List Value} (hown : w.ownsRow 0 u k v n xs) {p : Nat} {vs : List Value} (hr : row w p = some vs.toArray) (hl : vs.length = k) (h1 : ∀ x ∈ vs, x.oneCell' = true) (hn : n ≤ 1000000000000)
  (hv : a.eval s = v) (hy : a.eval y = .slice (some ⟨p, 0, none⟩) 1 1)
  (h : ∀ v' w', w'.ownsRow 0 u k v' (n + 1) (xs ++ vs) → w.grownBy w' v.ownBlock → (v'.ownBlock = v.ownBlock ∨ v'.ownBlock = some w.heap.size) → wpList P ops Q rest (a.put o.dst v') w') : wpList P ops Q (o :: rest) a w := by
 refine wpList_plain hgd fun K hK => ?_
 cases hq : P.info? u with
 | none => rw [hq] at hi; cases hi
 | some i =>
  rw [hq] at hi
  have h0 : (i.zero, i.size, i.bytes) = (some z, k, bytes) := Option.some.inj hi
  simp only [Prod.mk.injEq] at h0
  obtain ⟨z0, z1, z2⟩ := h0
  obtain ⟨v', w', a1, a2, a3, _, a5⟩ := run_append_own_at (P := P) w 0 t o.type u i z k bytes ht hq z0 z1 z2 hz hk v n xs hown ⟨p, 0, none⟩ 1 1 vs (by omega)
   (fun j x hx => by rw [yS, Nat.zero_add, zF hr, List.getElem?_toArray]; exact hx) h1 (by unfold maxLen; omega) (by have := Nat.mul_le_mul (show n + 1 ≤ 1000000000001 by omega) hb; omega) (Nat.zero_le _)
  unfold Oper.wp execOp
  simp only [ho, resolve, invoke, builtin, Sem.run_bind, Sem.run_pure, Result.andThen_ok, List.map_toArray, List.map_cons, List.map_nil, hv, hy, a1]
  exact hK _ _ (h v' w' a2 a3 a5)
section
variable {a b : Nat} {x y : Array Value} {w : World}
end
theorem ex_rinK (ρ : Operand → Value) {o : Oper} (t : Operand) (ho : o.op = .buildSlice 55 1 #[(0, t)]) (b : Bool) (A : Option Addr) (n c : Nat) (hx : ρ t = .agg (rgA b (.slice A n c))) (w : World) : (execOp ρ o).run Tryz.prog w = .ok (.value (.slice (some ⟨w.heap.size, 0, none⟩) 1 1)) (w.alloc (.cells (rgA b (.slice A n c)) 59)) := by
 unfold execOp
 simp only [ho, Sem.run_bind, List.map_toArray, List.map_cons, List.map_nil, hx]
 rw [rins_bs, rins_b1]
 rfl
theorem run_appRd {P : Program} {w : World} {tt ty u : TypeId} {z : Value} {bytes p : Nat} (ht : P.underlying tt = some (.slice u)) (hi : (P.info? u).map (fun i => (i.zero, i.size, i.bytes)) = some (some z, 34, bytes)) (hz : z.cells.size = 34) (hb : bytes ≤ 64)
  (hown : w.ownsRow 0 u 34 (.slice (some ⟨p, 0, none⟩) 0 0) 0 []) {s : Value} {l : List Ve} (hs : VRd w s l) (hl : l.length ≤ 1000000) :
  ∃ v' w', (Builtin.append_ #[tt, tt] ty #[.slice (some ⟨p, 0, none⟩) 0 0, s]).run P w = .ok v' w' ∧ w'.ownsRow 0 u 34 v' l.length (vsC l) ∧ w.grownBy w' (some p) ∧ (v'.ownBlock = some p ∨ v'.ownBlock = some w.heap.size) := by
 cases hq : P.info? u with
 | none => rw [hq] at hi; cases hi
 | some i =>
  rw [hq] at hi
  have h0 : (i.zero, i.size, i.bytes) = (some z, 34, bytes) := Option.some.inj hi
  simp only [Prod.mk.injEq] at h0
  obtain ⟨z0, z1, z2⟩ := h0
  obtain ⟨A, c, rfl, hle, hm, hnil, hat⟩ := hs.at_
  cases A with
  | none =>
   have hc0 := hnil rfl
   have hl0 : l = [] := List.length_eq_zero_iff.1 (by omega)
   subst hl0
   subst hc0
   have hr := run_append_room_src (P := P) w tt tt ty u i ht hq p 0 0 0 (.slice none 0 0) 0 [] (Src.ofNil (P := P) w (e' := u) ht 0) (by omega) (fun j hj => by cases hj) (fun j hj => by cases hj)
   exact ⟨_, _, hr, hown, ⟨rfl, rfl, rfl, Nat.le_refl _, fun k hk hne => rfl⟩, .inl rfl⟩
  | some a =>
   obtain ⟨v', w', a1, a2, a3, _, a5⟩ := run_append_own_at (P := P) w 0 tt ty u i z 34 bytes ht hq z0 z1 z2 hz (by omega) _ 0 [] hown a l.length c (vsC l) (vsC_len l)
    (fun j x hx => by
     have hj : j < l.length * 34 := by rw [← vsC_len]; exact (List.getElem?_eq_some_iff.1 hx).1
     obtain ⟨g, o, e, hg, hc⟩ := hat (by omega)
     cases e
     rw [yS]
     have h1 := hc (j / 34) (j % 34) (by omega) (by omega)
     rw [show o + j = o + j / 34 * 34 + j % 34 by omega, h1, ← vsC_get l (j / 34) (j % 34) (by omega) (by omega), show j / 34 * 34 + j % 34 = j by omega]
     exact hx) (vsC_one l) (by unfold maxLen; omega) (by have := Nat.mul_le_mul (show 0 + l.length ≤ 1000000 by omega) hb; omega) (Nat.zero_le _)
   rw [Nat.zero_add] at a2
   exact ⟨v', w', a1, a2, a3, a5⟩
theorem wpl_appRd {P : Program} {w : World} {ops : Array Oper} {rest : List Oper} {o : Oper} {a : Act} {Q : Exit → Act → World → Prop} (hgd : o.guard = none) (x y : Operand) {tt u : TypeId} {z : Value} {bytes p : Nat} (ho : o.op = .call { callee := .builtin .append, args := #[x, y], argTypes := #[tt, tt] })
  (ht : P.underlying tt = some (.slice u)) (hi : (P.info? u).map (fun i => (i.zero, i.size, i.bytes)) = some (some z, 34, bytes)) (hz : z.cells.size = 34) (hb : bytes ≤ 64)
  (hown : w.ownsRow 0 u 34 (.slice (some ⟨p, 0, none⟩) 0 0) 0 []) {s : Value} {l : List Ve} (hs : VRd w s l) (hl : l.length ≤ 1000000) (hv : a.eval x = .slice (some ⟨p, 0, none⟩) 0 0) (hy : a.eval y = s)
  (h : ∀ v' w', w'.ownsRow 0 u 34 v' l.length (vsC l) → w.grownBy w' (some p) → (v'.ownBlock = some p ∨ v'.ownBlock = some w.heap.size) → wpList P ops Q rest (a.put o.dst v') w') : wpList P ops Q (o :: rest) a w := by
 refine wpList_plain hgd fun K hK => ?_
 obtain ⟨v', w', a1, a2, a3, a5⟩ := run_appRd (ty := o.type) ht hi hz hb hown hs hl
 unfold Oper.wp execOp
 simp only [ho, resolve, invoke, builtin, Sem.run_bind, Sem.run_pure, Result.andThen_ok, List.map_toArray, List.map_cons, List.map_nil, hv, hy, a1]
 exact hK _ _ (h v' w' a2 a3 a5)
def vB (v : Ve) : Bool := decide (0 ≤ v.u) && decide (v.u ≤ 16) && !(v.g && !eqB 32 v.m (fun _ => 0#8))
def rB (r : Rg) : Bool := decide (1 ≤ r.l.length) && decide (r.l.length ≤ 4) && r.l.all vB
end Go.Proofs.YteffjpdcghlnlaaGreatDoor.Oct
