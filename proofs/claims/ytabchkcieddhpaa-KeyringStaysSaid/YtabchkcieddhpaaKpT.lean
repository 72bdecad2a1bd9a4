/- The program's keyring: one block of 1105 cells, eight keys of 138 cells (off, four versions of 34, their count) and their count. Program-free. -/
import Derived.Test.YtabchkcieddhpaaKrU
namespace Go.Proofs.Ytabchkcieddhpaa.Oct
open Go.RowKit
set_option linter.unusedVariables false

/-- a key's cells, from cell o on -/
structure KyC (c : Array Value) (o : Nat) (r : Rg) : Prop where
  off : c[o]? = some (.bool r.off)
  cnt : c[o + 137]? = some (.int .i64 (r.l.length : Int))
  few : r.l.length ≤ 4
  ver : ∀ v (h : v < r.l.length) j, j < 34 → c[o + 1 + v * 34 + j]? = (veC r.l[v])[j]?
theorem KyC.eq {c c' : Array Value} {o o' : Nat} {r : Rg} (h : KyC c o r) (e : ∀ j, j < 138 → c'[o' + j]? = c[o + j]?) : KyC c' o' r := by
  have hf := h.few
  refine ⟨?_, ?_, hf, fun v hv j hj => ?_⟩
  · have := e 0 (by omega); rw [Nat.add_zero, Nat.add_zero] at this; rw [this]; exact h.off
  · rw [e 137 (by omega)]; exact h.cnt
  · have := e (1 + v * 34 + j) (by omega)
    rw [show o' + 1 + v * 34 + j = o' + (1 + v * 34 + j) by omega, this, show o + (1 + v * 34 + j) = o + 1 + v * 34 + j by omega]
    exact h.ver v hv j hj
/-- another off -/
theorem KyC.setOff {c : Array Value} {o : Nat} {r : Rg} (h : KyC c o r) (b : Bool) (hs : o < c.size) : KyC (c.setIfInBounds o (.bool b)) o ⟨b, r.l⟩ := by
  have hf := h.few
  refine ⟨?_, ?_, hf, fun v hv j hj => ?_⟩
  · rw [Array.getElem?_setIfInBounds, if_pos rfl, if_pos hs]
  · rw [Array.getElem?_setIfInBounds, if_neg (by omega)]; exact h.cnt
  · rw [Array.getElem?_setIfInBounds, if_neg (by omega)]; exact h.ver v hv j hj
/-- a version changed -/
theorem KyC.put {c c' : Array Value} {o v : Nat} {r : Rg} {y : Ve} (h : KyC c o r) (hv : v < r.l.length) (e1 : ∀ j, j < 138 → (j < 1 + v * 34 ∨ 35 + v * 34 ≤ j) → c'[o + j]? = c[o + j]?) (e2 : ∀ j, j < 34 → c'[o + 1 + v * 34 + j]? = (veC y)[j]?) :
    KyC c' o ⟨r.off, r.l.set v y⟩ := by
  have hf := h.few
  refine ⟨?_, ?_, by rw [List.length_set]; exact hf, fun k hk j hj => ?_⟩
  · have := e1 0 (by omega) (.inl (by omega)); rw [Nat.add_zero] at this; rw [this]; exact h.off
  · rw [e1 137 (by omega) (.inr (by omega)), List.length_set]; exact h.cnt
  · rw [List.length_set] at hk
    by_cases hkv : k = v
    · subst hkv
      rw [e2 j hj, List.getElem_set_self]
    · rw [List.getElem_set_ne (fun e => hkv e.symm)]
      have := e1 (1 + k * 34 + j) (by omega) (by
        rcases Nat.lt_or_ge k v with h1 | h1
        · exact .inl (by have := Nat.mul_le_mul_right 34 (show k + 1 ≤ v by omega); omega)
        · exact .inr (by have := Nat.mul_le_mul_right 34 (show v + 1 ≤ k by omega); omega))
      rw [show o + 1 + k * 34 + j = o + (1 + k * 34 + j) by omega, this, show o + (1 + k * 34 + j) = o + 1 + k * 34 + j by omega]
      exact h.ver k hk j hj
/-- a version more -/
theorem KyC.more {c c' : Array Value} {o : Nat} {r : Rg} {y : Ve} (h : KyC c o r) (hv : r.l.length < 4) (e1 : ∀ j, j < 138 → (j < 1 + r.l.length * 34 ∨ (35 + r.l.length * 34 ≤ j ∧ j < 137)) → c'[o + j]? = c[o + j]?) (e2 : ∀ j, j < 34 → c'[o + 1 + r.l.length * 34 + j]? = (veC y)[j]?)
    (e3 : c'[o + 137]? = some (.int .i64 ((r.l.length : Int) + 1))) : KyC c' o ⟨r.off, r.l ++ [y]⟩ := by
  refine ⟨?_, ?_, by rw [List.length_append]; exact hv, fun k hk j hj => ?_⟩
  · have := e1 0 (by omega) (.inl (by omega)); rw [Nat.add_zero] at this; rw [this]; exact h.off
  · rw [e3, List.length_append]; rfl
  · rw [List.length_append, List.length_singleton] at hk
    by_cases hkv : k = r.l.length
    · subst hkv
      rw [e2 j hj]
      simp
    · have hlt : k < r.l.length := by omega
      rw [List.getElem_append_left hlt]
      have := e1 (1 + k * 34 + j) (by omega) (.inl (by have := Nat.mul_le_mul_right 34 (show k + 1 ≤ r.l.length by omega); omega))
      rw [show o + 1 + k * 34 + j = o + (1 + k * 34 + j) by omega, this, show o + (1 + k * 34 + j) = o + 1 + k * 34 + j by omega]
      exact h.ver k hlt j hj
theorem veC_get (v : Ve) (j : Nat) (h : j < 34) : ∃ x, (veC v)[j]? = some x ∧ x.oneCell' = true := by
  have hl : j < (veC v).length := by rw [veC_len]; exact h
  exact ⟨(veC v)[j], List.getElem?_eq_getElem hl, veC_one v _ (List.getElem_mem hl)⟩
/-- a cell of a version stored -/
theorem KyC.setOne {c : Array Value} {o v j : Nat} {r : Rg} {u : Value} {y : Ve} (h : KyC c o r) (hv : v < r.l.length) (hj : j < 34) (hy : (veC r.l[v]).set j u = veC y) (hs : o + 138 ≤ c.size) :
    KyC (c.setIfInBounds (o + 1 + v * 34 + j) u) o ⟨r.off, r.l.set v y⟩ := by
  have hf := h.few
  refine h.put hv (fun k hk hn => ?_) (fun k hk => ?_)
  · rw [Array.getElem?_setIfInBounds, if_neg (by omega)]
  · rw [Array.getElem?_setIfInBounds, ← hy]
    by_cases hkj : k = j
    · subst hkj
      rw [if_pos rfl, if_pos (by have := Nat.mul_le_mul_right 34 (show v + 1 ≤ 4 by omega); omega), List.getElem?_set_self (by rw [veC_len]; exact hk)]
    · rw [if_neg (by omega), List.getElem?_set_ne (fun e => hkj e.symm)]
      exact h.ver v hv k hk
/-- its material stored -/
theorem KyC.setMat {c : Array Value} {o v : Nat} {r : Rg} {f : Bf} (h : KyC c o r) (hv : v < r.l.length) (hs : o + 138 ≤ c.size) :
    KyC (spl c (o + 1 + v * 34) (ba 32 f).toList) o ⟨r.off, r.l.set v ⟨f, r.l[v].u, r.l[v].g⟩⟩ := by
  have hf := h.few
  have hl : (ba 32 f).toList.length = 32 := by rw [Array.length_toList, ba_size]
  have hm := Nat.mul_le_mul_right 34 (show v + 1 ≤ 4 by omega)
  refine h.put hv (fun k hk hn => ?_) (fun k hk => ?_)
  · rw [spl_get _ _ _ _ (by rw [hl]; omega), hl, if_neg (by omega)]
  · rw [spl_get _ _ _ _ (by rw [hl]; omega), hl]
    by_cases h1 : k < 32
    · rw [if_pos (by omega), Array.getElem?_toList, show o + 1 + v * 34 + k - (o + 1 + v * 34) = k by omega, ba_get _ _ _ h1, veC_m _ _ h1]
    · rw [if_neg (by omega), h.ver v hv k hk]
      by_cases h2 : k = 32
      · subst h2; rw [veC_u, veC_u]
      · obtain rfl : k = 33 := by omega
        rw [veC_g, veC_g]
/-- a version laid behind, and counted -/
theorem KyC.add {c : Array Value} {o : Nat} {r : Rg} {y : Ve} (h : KyC c o r) (hv : r.l.length < 4) (hs : o + 138 ≤ c.size) :
    KyC ((spl c (o + 1 + r.l.length * 34) (veC y)).setIfInBounds (o + 137) (.int .i64 ((r.l.length : Int) + 1))) o ⟨r.off, r.l ++ [y]⟩ := by
  have hl : (veC y).length = 34 := veC_len y
  have hm := Nat.mul_le_mul_right 34 (show r.l.length + 1 ≤ 4 by omega)
  refine h.more hv (fun k hk hn => ?_) (fun k hk => ?_) ?_
  · rw [Array.getElem?_setIfInBounds, if_neg (by omega), spl_get _ _ _ _ (by rw [hl]; omega), hl, if_neg (by omega)]
  · rw [Array.getElem?_setIfInBounds, if_neg (by omega), spl_get _ _ _ _ (by rw [hl]; omega), hl, if_pos (by omega), show o + 1 + r.l.length * 34 + k - (o + 1 + r.l.length * 34) = k by omega]
  · rw [Array.getElem?_setIfInBounds, if_pos rfl, spl_sizeK, if_pos (by omega)]
/-- a keyring's cells -/
def rgI (K : Ks) (i : Nat) : Rg := K.getD i rg0
structure KsC (c : Array Value) (K : Ks) : Prop where
  size : c.size = 1105
  ones : Ones c
  cnt : c[1104]? = some (.int .i64 (K.length : Int))
  key : ∀ i, i < 8 → KyC c (i * 138) (rgI K i)
theorem rgI_lt {K : Ks} {i : Nat} (h : i < K.length) : rgI K i = K[i] := by unfold rgI; simp [h]
theorem rgI_ge {K : Ks} {i : Nat} (h : K.length ≤ i) : rgI K i = rg0 := by unfold rgI; simp [h]
theorem rgI_set {K : Ks} {i j : Nat} {r : Rg} (h : i < K.length) : rgI (K.set i r) j = if j = i then r else rgI K j := by
  by_cases hj : j = i
  · subst hj; rw [if_pos rfl, rgI_lt (by rw [List.length_set]; exact h), List.getElem_set_self]
  · rw [if_neg hj]
    unfold rgI
    simp only [List.getD_eq_getElem?_getD]
    rw [List.getElem?_set_ne (fun e => hj e.symm)]
theorem rgI_app {K : Ks} {j : Nat} {r : Rg} : rgI (K ++ [r]) j = if j = K.length then r else rgI K j := by
  unfold rgI
  simp only [List.getD_eq_getElem?_getD]
  by_cases h1 : j < K.length
  · rw [List.getElem?_append_left h1, if_neg (by omega)]
  · by_cases h2 : j = K.length
    · subst h2; simp
    · rw [if_neg h2, List.getElem?_eq_none (by rw [List.length_append, List.length_singleton]; omega), List.getElem?_eq_none (by omega)]
/-- one key changed -/
theorem KsC.upd {c c' : Array Value} {K : Ks} {i : Nat} {r : Rg} (h : KsC c K) (hi : i < K.length) (hi8 : i < 8) (hs : c'.size = c.size) (ho : Ones c') (e : ∀ j, (j < i * 138 ∨ i * 138 + 138 ≤ j) → c'[j]? = c[j]?) (hk : KyC c' (i * 138) r) : KsC c' (K.set i r) := by
  refine ⟨by rw [hs]; exact h.size, ho, by rw [e 1104 (.inr (by omega)), List.length_set]; exact h.cnt, fun j hj => ?_⟩
  rw [rgI_set hi]
  by_cases hji : j = i
  · subst hji; rw [if_pos rfl]; exact hk
  · rw [if_neg hji]
    exact (h.key j hj).eq fun k hk => e _ (by omega)
/-- one key more -/
theorem KsC.app {c c' : Array Value} {K : Ks} {r : Rg} (h : KsC c K) (hi8 : K.length < 8) (hs : c'.size = c.size) (ho : Ones c') (e : ∀ j, (j < K.length * 138 ∨ K.length * 138 + 138 ≤ j) → j < 1104 → c'[j]? = c[j]?) (hn : c'[1104]? = some (.int .i64 ((K.length : Int) + 1))) (hk : KyC c' (K.length * 138) r) : KsC c' (K ++ [r]) := by
  refine ⟨by rw [hs]; exact h.size, ho, by rw [hn, List.length_append]; rfl, fun j hj => ?_⟩
  rw [rgI_app]
  by_cases hji : j = K.length
  · subst hji; rw [if_pos rfl]; exact hk
  · rw [if_neg hji]
    exact (h.key j hj).eq fun k hk => e _ (by omega) (by omega)
theorem ones_set {c : Array Value} {j : Nat} {v : Value} (h : Ones c) (hv : v.oneCell' = true) : Ones (c.setIfInBounds j v) := by
  unfold Ones at *
  rw [Array.all_eq_true] at *
  intro i hi
  rw [Array.size_setIfInBounds] at hi
  rw [Array.getElem_setIfInBounds]
  split
  · exact hv
  · exact h i hi
theorem ones_spl : ∀ (vs : List Value) (o : Nat) (c : Array Value), Ones c → (∀ v ∈ vs, v.oneCell' = true) → Ones (spl c o vs)
  | [], _, _, h, _ => h
  | v :: r, o, c, h, hv => by
    simp only [spl]
    exact ones_spl r (o + 1) _ (ones_set h (hv v (List.mem_cons_self ..))) fun x hx => hv x (List.mem_cons_of_mem _ hx)
end Go.Proofs.Ytabchkcieddhpaa.Oct
