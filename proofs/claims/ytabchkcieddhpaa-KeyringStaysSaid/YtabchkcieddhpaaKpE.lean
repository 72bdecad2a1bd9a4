/- The program's keyring in its block; contracts of New, Clone, Create, Rotate, Switch. -/
import Derived.Test.YtabchkcieddhpaaKpD
namespace Go.Proofs.Ytabchkcieddhpaa.Oct
open Go.ChangeShapes Go.WideShapes Go.ChangeAt Go.RowKit
set_option linter.unusedVariables false

/-- the program's keyring in block B -/
structure KpAt (T : Mk) (w : World) (t B : Nat) (K : Ks) : Prop where
  tg : T B = t
  at_ : ∃ c, row w B = some c ∧ KsC c K
  ok : okK K
theorem KpAt.fr {T T' : Mk} {H : Nat → Prop} {w w' : World} {t B : Nat} {K : Ks} (h : KpAt T w t B K) (hf : Fr T T' H w w') (hn : ∀ c, Hk t c → ¬ H c) : KpAt T' w' t B K := by
  obtain ⟨c, hr, hc⟩ := h.at_
  exact ⟨by rw [hf.tag B (row_lt hr)]; exact h.tg, ⟨c, hf.rowAt hr (by rw [h.tg]; exact hn t ⟨by omega, by omega⟩), hc⟩, h.ok⟩
/-- something of its own is made: marks t to t + 9, that nothing had -/
structure Nk (T T' : Mk) (t : Nat) (w w' : World) : Prop where
  below : Below w.heap.size w w'
  tag : ∀ k, k < w.heap.size → T' k = T k
  mks : ∀ k, T' k = T k ∨ Hk t (T' k)
theorem Nk.of {T : Mk} {t : Nat} {w w' : World} (h : Below w.heap.size w w') : Nk T (paint T w.heap.size t) t w w' := ⟨h, fun k hk => paint_old hk, fun k => by
  by_cases hk : k < w.heap.size
  · exact .inl (paint_old hk)
  · exact .inr (by rw [paint_new (by omega)]; exact ⟨Nat.le_refl _, by omega⟩)⟩
section
variable {T : Mk} {w w' : World} {t B : Nat} {K K' : Ks} {c c' : Array Value}
/-- its block changed, and what is new beside -/
theorem KpAt.put (h : KpAt T w t B K) (hr : row w B = some c) (hp : Put B c' w w') (hc : KsC c' K') (ok : okK K') : ∃ T', KpAt T' w' t B K' ∧ Fk T T' t w w' := by
  have hb : Below w.heap.size (w.setRow B c') w' := hp
  refine ⟨paint T w.heap.size t, ⟨by rw [paint_old (row_lt hr)]; exact h.tg, ⟨c', hp.row hr, hc⟩, ok⟩, ⟨hb.1, hb.2, hb.3, hp.size, fun k hk hn => hp.block k hk (fun e => hn (by rw [e, h.tg]; exact ⟨Nat.le_refl _, by omega⟩)), fun k hk => paint_old hk⟩, fun k => ?_⟩
  by_cases hk : k < w.heap.size
  · exact .inl (paint_old hk)
  · exact .inr (by rw [paint_new (by omega)]; exact ⟨Nat.le_refl _, by omega⟩)
/-- nothing changed -/
theorem KpAt.calm (h : KpAt T w t B K) (hb : Below w.heap.size w w') : ∃ T', KpAt T' w' t B K ∧ Fk T T' t w w' := by
  obtain ⟨c, hr, hc⟩ := h.at_
  exact h.put hr ((Put.nil hr).calm hb) hc h.ok
end
/- the cells of a key with a version more -/
section
variable {c : Array Value} {o : Nat} {r : Rg} {m : Bf}
theorem addC_size : (addC c o r m).size = c.size := by unfold addC; rw [Array.size_setIfInBounds, spl_sizeK]
theorem addC_ones (h : Ones c) : Ones (addC c o r m) := ones_set (ones_spl _ _ _ h (veC_one _)) rfl
theorem addC_else (hv : r.l.length < 4) (hs : o + 138 ≤ c.size) {j : Nat} (hj : j < o ∨ o + 138 ≤ j) : (addC c o r m)[j]? = c[j]? := by
  have hl : (veC ⟨m, 0, false⟩).length = 34 := veC_len _
  have hm := Nat.mul_le_mul_right 34 (show r.l.length + 1 ≤ 4 by omega)
  unfold addC
  rw [Array.getElem?_setIfInBounds, if_neg (by omega), spl_get _ _ _ _ (by rw [hl]; omega), hl, if_neg (by omega)]
theorem addC_key (h : KyC c o r) (hv : r.l.length < 4) (hs : o + 138 ≤ c.size) : KyC (addC c o r m) o ⟨r.off, r.l ++ [⟨m, 0, false⟩]⟩ := h.add hv hs
/-- a version more, in a keyring -/
theorem KsC.add {K : Ks} {i : Nat} (h : KsC c K) (hi : i < K.length) (h8 : i < 8) (hv : K[i].l.length < 4) : KsC (addC c (i * 138) K[i] m) (K.set i ⟨K[i].off, K[i].l ++ [⟨m, 0, false⟩]⟩) := by
  have hk := h.key i h8
  rw [rgI_lt hi] at hk
  have hs : i * 138 + 138 ≤ c.size := by rw [h.size]; omega
  exact h.upd hi h8 addC_size (addC_ones h.ones) (fun j hj => addC_else hv hs hj) (addC_key hk hv hs)
/-- a key more -/
def newC (c : Array Value) (n : Nat) (m : Bf) : Array Value := (addC c (n * 138) rg0 m).setIfInBounds 1104 (.int .i64 ((n : Int) + 1))
theorem KsC.new {K : Ks} (h : KsC c K) (h8 : K.length < 8) : KsC (newC c K.length m) (K ++ [⟨false, [⟨m, 0, false⟩]⟩]) := by
  have hk := h.key K.length h8
  rw [rgI_ge (Nat.le_refl _)] at hk
  have hs : K.length * 138 + 138 ≤ c.size := by rw [h.size]; omega
  have hlt : rg0.l.length < 4 := by decide
  unfold newC
  refine h.app h8 (by rw [Array.size_setIfInBounds, addC_size]) (ones_set (addC_ones h.ones) rfl) (fun j hj hj2 => ?_) ?_ ?_
  · rw [Array.getElem?_setIfInBounds, if_neg (by omega), addC_else hlt hs hj]
  · rw [Array.getElem?_setIfInBounds, if_pos rfl, if_pos (by rw [addC_size, h.size]; omega)]
  · exact (addC_key (m := m) hk hlt hs).eq fun j hj => by rw [Array.getElem?_setIfInBounds, if_neg (by omega)]
/-- off or on -/
theorem KsC.off {K : Ks} {i : Nat} (h : KsC c K) (hi : i < K.length) (h8 : i < 8) (b : Bool) : KsC (c.setIfInBounds (i * 138) (.bool b)) (K.set i ⟨b, K[i].l⟩) := by
  have hk := h.key i h8
  rw [rgI_lt hi] at hk
  have hz := h.size
  exact h.upd hi h8 (Array.size_setIfInBounds ..) (ones_set h.ones rfl) (fun j hj => by rw [Array.getElem?_setIfInBounds, if_neg (by omega)]) (hk.setOff b (by omega))
/-- a use counted -/
theorem KsC.use {K : Ks} {i v : Nat} (h : KsC c K) (hi : i < K.length) (h8 : i < 8) (hv : v < K[i].l.length) (u : Int) : KsC (c.setIfInBounds (i * 138 + 1 + v * 34 + 32) (.int .i64 u)) (K.set i ⟨K[i].off, K[i].l.set v ⟨K[i].l[v].m, u, K[i].l[v].g⟩⟩) := by
  have hk := h.key i h8
  rw [rgI_lt hi] at hk
  have hz := h.size
  have hf := hk.few
  have hm := Nat.mul_le_mul_right 34 (show v + 1 ≤ 4 by omega)
  exact h.upd hi h8 (Array.size_setIfInBounds ..) (ones_set h.ones rfl) (fun j hj => by rw [Array.getElem?_setIfInBounds, if_neg (by omega)]) (hk.setOne hv (by omega) (veC_setU _ _) (by omega))
/-- a version's end -/
theorem KsC.end_ {K : Ks} {i v : Nat} (h : KsC c K) (hi : i < K.length) (h8 : i < 8) (hv : v < K[i].l.length) : KsC (endC c (i * 138 + 1 + v * 34)) (K.set i ⟨K[i].off, K[i].l.set v ⟨fun _ => 0#8, K[i].l[v].u, true⟩⟩) := by
  have hk := h.key i h8
  rw [rgI_lt hi] at hk
  have hz := h.size
  have hf := hk.few
  have hm := Nat.mul_le_mul_right 34 (show v + 1 ≤ 4 by omega)
  have hl : (ba 32 fun _ => 0#8).toList.length = 32 := by rw [Array.length_toList, ba_size]
  have k1 := hk.setOne (u := .bool true) (j := 33) hv (by omega) (veC_setG _ true) (by omega)
  have k2 := k1.setMat (v := v) (f := fun _ => 0#8) (by rw [List.length_set]; exact hv) (by rw [Array.size_setIfInBounds]; omega)
  unfold endC
  refine h.upd hi h8 (by rw [spl_sizeK, Array.size_setIfInBounds]) (ones_spl _ _ _ (ones_set h.ones rfl) (fun x hx => ?_)) (fun j hj => ?_) ?_
  · have := ones_ba 32 (fun _ => 0#8)
    unfold Ones at this
    rw [← Array.all_toList, List.all_eq_true] at this
    exact this x hx
  · rw [spl_get _ _ _ _ (by rw [hl, Array.size_setIfInBounds]; omega), hl, if_neg (by omega), Array.getElem?_setIfInBounds, if_neg (by omega)]
  · simpa using k2
end
end Go.Proofs.Ytabchkcieddhpaa.Oct
