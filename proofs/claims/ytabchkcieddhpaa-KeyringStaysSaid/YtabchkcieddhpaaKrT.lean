/- Rows of versions and of rings: owned, by marks, and read. Of whatever program. -/
import Derived.Test.YtabchkcieddhpaaKrMath
import Derived.Test.YtabchkcieddhpaaDkB0
namespace Go.Proofs.Ytabchkcieddhpaa.Oct
open Go.RowKit
set_option linter.unusedVariables false

/-- a version's cells -/
@[irreducible] def veC (v : Ve) : List Value := (ba 32 v.m).toList ++ [.int .i64 v.u, .bool v.g]
section
variable (v : Ve)
theorem veC_len : (veC v).length = 34 := by unfold veC; simp [ba_size]
theorem veC_m (i : Nat) (h : i < 32) : (veC v)[i]? = some (.int .u8 (I (v.m i))) := by
  unfold veC
  rw [List.getElem?_append_left (by rw [Array.length_toList, ba_size]; exact h), Array.getElem?_toList, ba_get _ _ _ h]
theorem veC_u : (veC v)[32]? = some (.int .i64 v.u) := by
  unfold veC
  rw [List.getElem?_append_right (by rw [Array.length_toList, ba_size]; omega), Array.length_toList, ba_size]; rfl
theorem veC_g : (veC v)[33]? = some (.bool v.g) := by
  unfold veC
  rw [List.getElem?_append_right (by rw [Array.length_toList, ba_size]; omega), Array.length_toList, ba_size]; rfl
theorem veC_one : ∀ x ∈ veC v, x.oneCell' = true := by
  intro x hx
  obtain ⟨i, hi, e⟩ := List.mem_iff_getElem.1 hx
  rw [veC_len] at hi
  have e2 : (veC v)[i]? = some x := by rw [List.getElem?_eq_getElem (by rw [veC_len]; exact hi), e]
  by_cases h1 : i < 32
  · rw [veC_m v i h1] at e2; cases e2; rfl
  · by_cases h2 : i = 32
    · subst h2; rw [veC_u] at e2; cases e2; rfl
    · obtain rfl : i = 33 := by omega
      rw [veC_g] at e2; cases e2; rfl
end
theorem veC_setU (v : Ve) (u : Int) : (veC v).set 32 (.int .i64 u) = veC ⟨v.m, u, v.g⟩ := by
  unfold veC
  rw [List.set_append_right _ _ (by rw [Array.length_toList, ba_size]; omega), Array.length_toList, ba_size]; rfl
theorem veC_setG (v : Ve) (g : Bool) : (veC v).set 33 (.bool g) = veC ⟨v.m, v.u, g⟩ := by
  unfold veC
  rw [List.set_append_right _ _ (by rw [Array.length_toList, ba_size]; omega), Array.length_toList, ba_size]; rfl
/-- the cells of a row of them -/
def vsC (l : List Ve) : List Value := l.flatMap veC
theorem vsC_len (l : List Ve) : (vsC l).length = l.length * 34 := by
  unfold vsC
  induction l with
  | nil => rfl
  | cons x l ih => rw [List.flatMap_cons, List.length_append, veC_len, ih, List.length_cons]; omega
theorem vsC_app (l m : List Ve) : vsC (l ++ m) = vsC l ++ vsC m := by unfold vsC; rw [List.flatMap_append]
theorem vsC_one1 (x : Ve) : vsC [x] = veC x := by unfold vsC; simp
theorem vsC_get (l : List Ve) : ∀ (i j : Nat) (h : i < l.length), j < 34 → (vsC l)[i * 34 + j]? = (veC l[i])[j]? := by
  induction l with
  | nil => intro i j h; exact absurd h (by simp)
  | cons x l ih =>
    intro i j h hj
    have e : vsC (x :: l) = veC x ++ vsC l := by unfold vsC; rw [List.flatMap_cons]
    rw [e]
    cases i with
    | zero => rw [List.getElem?_append_left (by rw [veC_len]; omega)]; simp
    | succ i =>
      rw [List.getElem?_append_right (by rw [veC_len]; omega), veC_len, show (i + 1) * 34 + j - 34 = i * 34 + j by omega, ih i j (by simpa using h) hj]
      rfl
theorem vsC_one (l : List Ve) : ∀ x ∈ vsC l, x.oneCell' = true := by
  intro x hx
  unfold vsC at hx
  obtain ⟨v, _, h⟩ := List.mem_flatMap.1 hx
  exact veC_one v x h
/-- a cell of one of them laid -/
theorem vsC_set (l : List Ve) (i j : Nat) (h : i < l.length) (hj : j < 34) (u : Value) (x : Ve) (hx : (veC l[i]).set j u = veC x) : (vsC l).set (i * 34 + j) u = vsC (l.set i x) := by
  induction l generalizing i with
  | nil => exact absurd h (by simp)
  | cons y l ih =>
    have e : ∀ (y : Ve) l, vsC (y :: l) = veC y ++ vsC l := fun y l => by unfold vsC; rw [List.flatMap_cons]
    cases i with
    | zero =>
      rw [List.set_cons_zero, e, e, List.set_append_left _ _ (by rw [veC_len]; omega), Nat.zero_mul, Nat.zero_add]
      rw [show (veC y).set j u = veC x from hx]
    | succ i =>
      rw [List.set_cons_succ, e, e, List.set_append_right _ _ (by rw [veC_len]; omega), veC_len, show (i + 1) * 34 + j - 34 = i * 34 + j by omega, ih i (by simpa using h) (by simpa using hx)]
/-- owned: a row of versions in a block of mark t -/
structure VsAt (T : Mk) (w : World) (t : Nat) (e : TypeId) (v : Value) (l : List Ve) : Prop where
  own : w.ownsRow 0 e 34 v l.length (vsC l)
  tg : ∀ g, v.ownBlock = some g → T g = t
section
variable {T T' T2 : Mk} {H : Nat → Prop} {w w' : World} {t : Nat} {e : TypeId} {v : Value} {l : List Ve}
theorem ownsRow_fr {n k : Nat} {xs : List Value} (h : w.ownsRow 0 e k v n xs) (tg : ∀ g, v.ownBlock = some g → T g = t) (hf : Fr T T' H w w') (ht : ¬ H t) : w'.ownsRow 0 e k v n xs := by
  refine ⟨h.1, ?_⟩
  rcases h.2 with hn | ⟨g, cap, cur, rfl, hb, hg, rest⟩
  · exact .inl hn
  · exact .inr ⟨g, cap, cur, rfl, hb, by rw [hf.keep g (Array.getElem?_eq_some_iff.1 hg).1 (by rw [tg g rfl]; exact ht)]; exact hg, rest⟩
theorem tg_fr {n k : Nat} {xs : List Value} (h : w.ownsRow 0 e k v n xs) (tg : ∀ g, v.ownBlock = some g → T g = t) (hf : Fr T T' H w w') : ∀ g, v.ownBlock = some g → T' g = t :=
  fun g hg => by rw [hf.tag g (World.ownsRow.lt h g hg).2]; exact tg g hg
theorem VsAt.fr (h : VsAt T w t e v l) (hf : Fr T T' H w w') (ht : ¬ H t) : VsAt T' w' t e v l := ⟨ownsRow_fr h.own h.tg hf ht, tg_fr h.own h.tg hf⟩
theorem VsAt.nil : VsAt T w t e (.slice none 0 0) [] := ⟨World.ownsRow_nil _ _ _ _, fun g hg => by cases hg⟩
/-- its form -/
theorem VsAt.form (h : VsAt T w t e v l) : ∃ A c, v = .slice A l.length c ∧ l.length ≤ c ∧ c ≤ maxLen ∧ (0 < l.length → ∃ g cur, A = some ⟨g, 0, none⟩ ∧ T g = t ∧ Oct.row w g = some cur ∧ w.heap[g]? = some (.cells cur e (0, 0)) ∧ cur.size = c * 34 ∧ ∀ i j (hi : i < l.length), j < 34 → cur[i * 34 + j]? = (veC l[i])[j]?) := by
  rcases h.own.2 with ⟨rfl, h0⟩ | ⟨g, cap, cur, rfl, hb, hg, hc, hm, hcs, htk⟩
  · obtain rfl := List.length_eq_zero_iff.1 h0
    exact ⟨none, 0, rfl, Nat.le_refl _, Nat.zero_le _, fun hn => absurd hn (by omega)⟩
  · refine ⟨some ⟨g, 0, none⟩, cap, rfl, hc, hm, fun hn => ⟨g, cur, rfl, h.tg g rfl, row_of hg, hg, hcs, fun i j hi hj => ?_⟩⟩
    rw [← vsC_get l i j hi hj, ← htk, List.getElem?_take, if_pos (by omega), Array.getElem?_toList]
/-- a cell of one of them stored -/
theorem VsAt.set {g c i j : Nat} {u : Value} {x : Ve} (h : VsAt T w t e (.slice (some ⟨g, 0, none⟩) l.length c) l) (hi : i < l.length) (hj : j < 34) (hx : (veC l[i]).set j u = veC x) :
    VsAt T (w.setCell ⟨g, i * 34 + j, none⟩ u) t e (.slice (some ⟨g, 0, none⟩) l.length c) (l.set i x) := by
  refine ⟨?_, h.tg⟩
  have := (World.ownsRow.stored (w := w) h.own (i * 34 + j) u).1
  rw [vsC_set l i j hi hj u x hx] at this
  rw [List.length_set]
  exact this
/-- behind an append -/
theorem VsAt.app {m : List Ve} {v' : Value} (h : VsAt T w t e v l) (h1 : w'.ownsRow 0 e 34 v' (l.length + m.length) (vsC l ++ vsC m)) (h2 : w.grownBy w' v.ownBlock) (h3 : v'.ownBlock = v.ownBlock ∨ v'.ownBlock = some w.heap.size) :
    VsAt (paint T w.heap.size t) w' t e v' (l ++ m) := by
  refine ⟨by rw [List.length_append, vsC_app]; exact h1, fun g hg => ?_⟩
  rcases h3 with e' | e'
  · rw [e'] at hg
    rw [paint_old (World.ownsRow.lt h.own g hg).2]
    exact h.tg g hg
  · rw [e'] at hg
    cases hg
    exact paint_new (Nat.le_refl _)
end
/-- read: versions -/
structure VRd (w : World) (v : Value) (l : List Ve) : Prop where
  at_ : ∃ A c, v = .slice A l.length c ∧ l.length ≤ c ∧ c ≤ maxLen ∧ (A = none → c = 0) ∧ (0 < l.length → ∃ g o, A = some ⟨g, o, none⟩ ∧ g < w.heap.size ∧ ∀ i j (hi : i < l.length), j < 34 → w.cell? ⟨g, o + i * 34 + j, none⟩ = (veC l[i])[j]?)
/-- read: rings -/
structure RRd (w : World) (v : Value) (K : Ks) : Prop where
  at_ : ∃ A c, v = .slice A K.length c ∧ K.length ≤ c ∧ c ≤ maxLen ∧ (0 < K.length → ∃ g o, A = some ⟨g, o, none⟩ ∧ g < w.heap.size ∧ ∀ i (hi : i < K.length), w.cell? ⟨g, o + i * 2, none⟩ = some (.bool K[i].off) ∧ ∃ vi, w.cell? ⟨g, o + i * 2 + 1, none⟩ = some vi ∧ VRd w vi K[i].l)
theorem VRd.below {w w' : World} {v : Value} {l : List Ve} (h : VRd w v l) (hb : Below w.heap.size w w') : VRd w' v l := by
  obtain ⟨A, c, e, h1, h2, h4, h3⟩ := h.at_
  refine ⟨A, c, e, h1, h2, h4, fun hn => ?_⟩
  obtain ⟨g, o, e2, hg, hc⟩ := h3 hn
  refine ⟨g, o, e2, Nat.lt_of_lt_of_le hg hb.size, fun i j hi hj => ?_⟩
  rw [World.cell?_of_block (w := w) (hb.block g hg)]
  exact hc i j hi hj
theorem RRd.below {w w' : World} {v : Value} {K : Ks} (h : RRd w v K) (hb : Below w.heap.size w w') : RRd w' v K := by
  obtain ⟨A, c, e, h1, h2, h3⟩ := h.at_
  refine ⟨A, c, e, h1, h2, fun hn => ?_⟩
  obtain ⟨g, o, e2, hg, hc⟩ := h3 hn
  refine ⟨g, o, e2, Nat.lt_of_lt_of_le hg hb.size, fun i hi => ?_⟩
  obtain ⟨h4, vi, h5, h6⟩ := hc i hi
  exact ⟨by rw [World.cell?_of_block (w := w) (hb.block g hg)]; exact h4, vi, by rw [World.cell?_of_block (w := w) (hb.block g hg)]; exact h5, h6.below hb⟩
/-- owned: rings: the mark t, and their versions' t + 1 on -/
structure RsAt (T : Mk) (w : World) (t : Nat) (eR eV : TypeId) (v : Value) (K : Ks) : Prop where
  own : ∃ xs, w.ownsRow 0 eR 2 v K.length xs ∧ ∀ i (h : i < K.length), xs[i * 2]? = some (.bool K[i].off) ∧ ∃ vi, xs[i * 2 + 1]? = some vi ∧ VsAt T w (t + 1 + i) eV vi K[i].l
  tg : ∀ g, v.ownBlock = some g → T g = t
section
variable {T T' : Mk} {H : Nat → Prop} {w w' : World} {t : Nat} {eR eV : TypeId} {v : Value} {K : Ks}
theorem RsAt.nil : RsAt T w t eR eV (.slice none 0 0) [] := ⟨⟨[], World.ownsRow_nil _ _ _ _, fun i hi => absurd hi (by simp)⟩, fun g hg => by cases hg⟩
theorem RsAt.fr (h : RsAt T w t eR eV v K) (hf : Fr T T' H w w') (hn : ∀ c, t ≤ c → c ≤ t + K.length → ¬ H c) : RsAt T' w' t eR eV v K := by
  obtain ⟨xs, h1, h2⟩ := h.own
  refine ⟨⟨xs, ownsRow_fr h1 h.tg hf (hn t (Nat.le_refl _) (by omega)), fun i hi => ?_⟩, tg_fr h1 h.tg hf⟩
  obtain ⟨h3, vi, h4, h5⟩ := h2 i hi
  exact ⟨h3, vi, h4, h5.fr hf (hn _ (by omega) (by omega))⟩
theorem VsAt.rd {e : TypeId} {l : List Ve} (h : VsAt T w t e v l) : VRd w v l := by
  obtain ⟨A, c, e1, h1, h2, h3⟩ := h.form
  refine ⟨A, c, e1, h1, h2, fun hA => ?_, fun hn => ?_⟩
  · rcases h.own.2 with ⟨e2, h0⟩ | ⟨g, cap, cur, e2, _⟩
    · rw [e1] at e2; simp only [Value.slice.injEq] at e2; exact e2.2.2
    · rw [e1, hA] at e2; simp at e2
  · obtain ⟨g, cur, e2, _, hr, hh, hs, hc⟩ := h3 hn
    refine ⟨g, 0, e2, row_lt hr, fun i j hi hj => ?_⟩
    rw [Nat.zero_add, cell_row hr]
    exact hc i j hi hj
/-- its form -/
theorem RsAt.form (h : RsAt T w t eR eV v K) : ∃ A c, v = .slice A K.length c ∧ K.length ≤ c ∧ c ≤ maxLen ∧ (0 < K.length → ∃ g cur, A = some ⟨g, 0, none⟩ ∧ T g = t ∧ Oct.row w g = some cur ∧ w.heap[g]? = some (.cells cur eR (0, 0)) ∧ cur.size = c * 2 ∧
    ∀ i (hi : i < K.length), cur[i * 2]? = some (.bool K[i].off) ∧ ∃ vi, cur[i * 2 + 1]? = some vi ∧ VsAt T w (t + 1 + i) eV vi K[i].l) := by
  obtain ⟨xs, h1, h2⟩ := h.own
  rcases h1.2 with ⟨rfl, h0⟩ | ⟨g, cap, cur, rfl, hb, hg, hc, hm, hcs, htk⟩
  · obtain rfl := List.length_eq_zero_iff.1 h0
    exact ⟨none, 0, rfl, Nat.le_refl _, Nat.zero_le _, fun hn => absurd hn (by omega)⟩
  · refine ⟨some ⟨g, 0, none⟩, cap, rfl, hc, hm, fun hn => ⟨g, cur, rfl, h.tg g rfl, row_of hg, hg, hcs, fun i hi => ?_⟩⟩
    obtain ⟨h3, vi, h4, h5⟩ := h2 i hi
    have e : ∀ j, j < K.length * 2 → cur[j]? = xs[j]? := fun j hj => by rw [← htk, List.getElem?_take, if_pos hj, Array.getElem?_toList]
    exact ⟨by rw [e _ (by omega)]; exact h3, vi, by rw [e _ (by omega)]; exact h4, h5⟩
theorem RsAt.rd (h : RsAt T w t eR eV v K) : RRd w v K := by
  obtain ⟨A, c, e1, h1, h2, h3⟩ := h.form
  refine ⟨A, c, e1, h1, h2, fun hn => ?_⟩
  obtain ⟨g, cur, e2, _, hr, _, _, hc⟩ := h3 hn
  refine ⟨g, 0, e2, row_lt hr, fun i hi => ?_⟩
  obtain ⟨h4, vi, h5, h6⟩ := hc i hi
  exact ⟨by rw [Nat.zero_add, cell_row hr]; exact h4, vi, by rw [Nat.zero_add, cell_row hr]; exact h5, h6.rd⟩
/-- one ring more -/
theorem RsAt.app {r : Rg} {vi : Value} {v' : Value} {xs : List Value} (h : RsAt T w t eR eV v K) (hxs : w.ownsRow 0 eR 2 v K.length xs)
    (hel : ∀ i (h : i < K.length), xs[i * 2]? = some (.bool K[i].off) ∧ ∃ vi, xs[i * 2 + 1]? = some vi ∧ VsAt T w (t + 1 + i) eV vi K[i].l)
    (h1 : w'.ownsRow 0 eR 2 v' (K.length + 1) (xs ++ [.bool r.off, vi])) (h2 : w.grownBy w' v.ownBlock) (h3 : v'.ownBlock = v.ownBlock ∨ v'.ownBlock = some w.heap.size)
    (hv : VsAt T w (t + 1 + K.length) eV vi r.l) : RsAt (paint T w.heap.size t) w' t eR eV v' (K ++ [r]) := by
  have hf : Fr T (paint T w.heap.size t) (fun c => c = t) w w' := Fr.grown h2 (fun g hg => h.tg g hg) t
  have hl := hxs.1
  refine ⟨⟨_, by rw [List.length_append]; exact h1, fun i hi => ?_⟩, fun g hg => ?_⟩
  · by_cases hlt : i < K.length
    · obtain ⟨h4, wi, h5, h6⟩ := hel i hlt
      rw [List.getElem_append_left hlt]
      exact ⟨by rw [List.getElem?_append_left (by omega)]; exact h4, wi, by rw [List.getElem?_append_left (by omega)]; exact h5, h6.fr hf (by omega)⟩
    · obtain rfl : i = K.length := by simp at hi; omega
      rw [List.getElem_append_right (Nat.le_refl _)]
      refine ⟨by rw [List.getElem?_append_right (by omega), hl, Nat.sub_self]; simp, vi, by rw [List.getElem?_append_right (by omega), hl, Nat.add_sub_cancel_left]; rfl, ?_⟩
      simpa using hv.fr hf (by omega)
  · rcases h3 with e | e
    · rw [e] at hg
      rw [paint_old (World.ownsRow.lt hxs g hg).2]
      exact h.tg g hg
    · rw [e] at hg
      cases hg
      exact paint_new (Nat.le_refl _)
/-- a ring's versions changed, its slice as it was -/
theorem RsAt.inner {i : Nat} (hi : i < K.length) {l' : List Ve} (h : RsAt T w t eR eV v K) (hf : Fr T T' H w w') (hH : ∀ c, H c → c = t + 1 + i) (hv : ∀ vi, VsAt T w (t + 1 + i) eV vi K[i].l → VsAt T' w' (t + 1 + i) eV vi l') (hlen : l'.length = K[i].l.length) :
    RsAt T' w' t eR eV v (K.set i ⟨K[i].off, l'⟩) := by
  obtain ⟨xs, h1, h2⟩ := h.own
  refine ⟨⟨xs, by rw [List.length_set]; exact ownsRow_fr h1 h.tg hf (fun e => by have := hH _ e; omega), fun j hj => ?_⟩, tg_fr h1 h.tg hf⟩
  rw [List.length_set] at hj
  obtain ⟨h3, vj, h4, h5⟩ := h2 j hj
  by_cases hji : j = i
  · subst hji
    rw [List.getElem_set_self]
    exact ⟨h3, vj, h4, hv vj h5⟩
  · rw [List.getElem_set_ne (fun e => hji e.symm)]
    exact ⟨h3, vj, h4, h5.fr hf (fun e => by have := hH _ e; omega)⟩
/-- a cell of the rings' row stored -/
theorem RsAt.setOff {g c i : Nat} (h : RsAt T w t eR eV (.slice (some ⟨g, 0, none⟩) K.length c) K) (hi : i < K.length) (b : Bool) :
    RsAt T (w.setCell ⟨g, i * 2, none⟩ (.bool b)) t eR eV (.slice (some ⟨g, 0, none⟩) K.length c) (K.set i ⟨b, K[i].l⟩) := by
  obtain ⟨xs, h1, h2⟩ := h.own
  have hf : Fr T T (fun c => c = t) w (w.setCell ⟨g, i * 2, none⟩ (.bool b)) := Fr.cell (h.tg g rfl) _
  refine ⟨⟨xs.set (i * 2) (.bool b), by rw [List.length_set]; exact (World.ownsRow.stored (w := w) h1 (i * 2) _).1, fun j hj => ?_⟩, h.tg⟩
  rw [List.length_set] at hj
  obtain ⟨h3, vj, h4, h5⟩ := h2 j hj
  have hl := h1.1
  by_cases hji : j = i
  · subst hji
    rw [List.getElem_set_self]
    exact ⟨by rw [List.getElem?_set_self (by omega)], vj, by rw [List.getElem?_set_ne (by omega)]; exact h4, h5.fr hf (by omega)⟩
  · rw [List.getElem_set_ne (fun e => hji e.symm)]
    exact ⟨by rw [List.getElem?_set_ne (by omega)]; exact h3, vj, by rw [List.getElem?_set_ne (by omega)]; exact h4, h5.fr hf (by omega)⟩
/-- a ring's slice stored: other versions, that are there -/
theorem RsAt.setL {g c i : Nat} {vi : Value} {l' : List Ve} (h : RsAt T w t eR eV (.slice (some ⟨g, 0, none⟩) K.length c) K) (hi : i < K.length) (hf : Fr T T' (fun c => c = t + 1 + i) w w') (hv : VsAt T' w' (t + 1 + i) eV vi l') :
    RsAt T' (w'.setCell ⟨g, i * 2 + 1, none⟩ vi) t eR eV (.slice (some ⟨g, 0, none⟩) K.length c) (K.set i ⟨K[i].off, l'⟩) := by
  obtain ⟨xs, h1, h2⟩ := h.own
  have h1' := ownsRow_fr h1 h.tg hf (by omega)
  have ht' := tg_fr h1 h.tg hf
  have hf2 : Fr T' T' (fun c => c = t) w' (w'.setCell ⟨g, i * 2 + 1, none⟩ vi) := Fr.cell (ht' g rfl) _
  refine ⟨⟨xs.set (i * 2 + 1) vi, by rw [List.length_set]; exact (World.ownsRow.stored (w := w') h1' (i * 2 + 1) _).1, fun j hj => ?_⟩, ht'⟩
  rw [List.length_set] at hj
  obtain ⟨h3, vj, h4, h5⟩ := h2 j hj
  have hl := h1.1
  by_cases hji : j = i
  · subst hji
    rw [List.getElem_set_self]
    exact ⟨by rw [List.getElem?_set_ne (by omega)]; exact h3, vi, by rw [List.getElem?_set_self (by omega)], hv.fr hf2 (by omega)⟩
  · rw [List.getElem_set_ne (fun e => hji e.symm)]
    exact ⟨by rw [List.getElem?_set_ne (by omega)]; exact h3, vj, by rw [List.getElem?_set_ne (by omega)]; exact h4, (h5.fr hf (by omega)).fr hf2 (by omega)⟩
end
/-- a keyring in block B: the mark t; its rings' t + 1, their versions' t + 2 to t + 9 -/
structure KAt (T : Mk) (w : World) (t : Nat) (eR eV : TypeId) (B : Nat) (K : Ks) : Prop where
  tg : T B = t
  row : ∃ v, Oct.row w B = some #[v] ∧ RsAt T w (t + 1) eR eV v K
  ok : okK K
/-- the marks of one keyring -/
def Hk (t : Nat) : Nat → Prop := fun c => t ≤ c ∧ c ≤ t + 9
theorem KAt.fr {T T' : Mk} {H : Nat → Prop} {w w' : World} {t B : Nat} {eR eV : TypeId} {K : Ks} (h : KAt T w t eR eV B K) (hf : Fr T T' H w w') (hn : ∀ c, Hk t c → ¬ H c) : KAt T' w' t eR eV B K := by
  obtain ⟨v, hr, h2⟩ := h.row
  have hl := h.ok.1
  exact ⟨by rw [hf.tag B (row_lt hr)]; exact h.tg, ⟨v, hf.rowAt hr (by rw [h.tg]; exact hn t ⟨by omega, by omega⟩), h2.fr hf fun c h3 h4 => hn c ⟨by omega, by omega⟩⟩, h.ok⟩
end Go.Proofs.Ytabchkcieddhpaa.Oct
