/- A version of a row: its cells as they are read; its material stored. Of whatever program. -/
import Derived.Test.YtabchkcieddhpaaKrT
namespace Go.Proofs.Ytabchkcieddhpaa.Oct
open Go.RowKit
set_option linter.unusedVariables false

theorem spl_sizeK : ∀ (vs : List Value) (o : Nat) (c : Array Value), (spl c o vs).size = c.size
  | [], _, _ => rfl
  | v :: r, o, c => by simp only [spl]; rw [spl_sizeK r]; simp
section
variable {T T' T2 : Mk} {H : Nat → Prop} {w w' : World} {t : Nat} {e : TypeId} {v : Value} {l : List Ve}
/-- versions, one at least, taken apart -/
theorem VsAt.open_ (h : VsAt T w t e v l) (hn : 0 < l.length) : ∃ g c cur, v = .slice (some ⟨g, 0, none⟩) l.length c ∧ l.length ≤ c ∧ c ≤ maxLen ∧ T g = t ∧ Oct.row w g = some cur ∧ (∀ j, w.frozen? ⟨g, j, none⟩ = false) ∧
    ∀ k (hk : k < l.length), (∀ j, j < 34 → w.cell? ⟨g, k * 34 + j, none⟩ = (veC l[k])[j]?) ∧ w.cell? ⟨g, k * 34 + 32, none⟩ = some (.int .i64 l[k].u) ∧ w.cell? ⟨g, k * 34 + 33, none⟩ = some (.bool l[k].g) := by
  obtain ⟨A, c, rfl, h1, h2, h3⟩ := h.form
  obtain ⟨g, cur, rfl, hg, hr, hh, hs, hc⟩ := h3 hn
  refine ⟨g, c, cur, rfl, h1, h2, hg, hr, fun j => froz_row hr j, fun k hk => ?_⟩
  have hcell : ∀ j, j < 34 → w.cell? ⟨g, k * 34 + j, none⟩ = (veC l[k])[j]? := fun j hj => by rw [cell_row hr]; exact hc k j hk hj
  exact ⟨hcell, by rw [hcell 32 (by omega), veC_u], by rw [hcell 33 (by omega), veC_g]⟩
/-- its material stored -/
theorem VsAt.setMat_ {g c i : Nat} {f : Bf} {cur : Array Value} (h : VsAt T w t e (.slice (some ⟨g, 0, none⟩) l.length c) l) (hi : i < l.length) (hr : Oct.row w g = some cur) :
    (∀ (P : Program) (t' : Nat), stR P t' 32 w g (i * 34) (.agg (ba 32 f)) (some cur) = .ok () (w.setRow g (spl cur (i * 34) (ba 32 f).toList))) ∧
    VsAt T (w.setRow g (spl cur (i * 34) (ba 32 f).toList)) t e (.slice (some ⟨g, 0, none⟩) l.length c) (l.set i ⟨f, l[i].u, l[i].g⟩) := by
  rcases h.own.2 with ⟨h0, _⟩ | ⟨g', cap, cur', e1, hb, hg, hc, hm, hcs, htk⟩
  · cases h0
  · simp only [Value.slice.injEq, Option.some.injEq, Addr.mk.injEq] at e1
    obtain ⟨⟨rfl, -⟩, -, rfl⟩ := e1
    obtain rfl : cur' = cur := by have := row_of hg; rw [hr] at this; exact (Option.some.inj this).symm
    have hfit : i * 34 + 32 ≤ cur'.size := by rw [hcs]; omega
    have hlen : (ba 32 f).toList.length = 32 := by rw [Array.length_toList, ba_size]
    constructor
    · intro P t'
      unfold stR
      have e : i * 34 + 32 ≤ cur'.size ∧ (Value.agg (ba 32 f)).cells.size = 32 ∧ Ones (Value.agg (ba 32 f)).cells := ⟨hfit, ba_size _ _, ones_ba _ _⟩
      simp only [if_pos e]
      rfl
    · have hsz : (spl cur' (i * 34) (ba 32 f).toList).size = cur'.size := spl_sizeK _ _ _
      refine ⟨⟨by rw [vsC_len], .inr ⟨g, c, _, by rw [List.length_set], hb, setRow_heap w g _ _ _ _ hg, by rw [List.length_set]; exact hc, hm, by rw [hsz]; exact hcs, ?_⟩⟩, h.tg⟩
      apply List.ext_getElem?
      intro q
      rw [List.getElem?_take]
      by_cases hq : q < (l.set i ⟨f, l[i].u, l[i].g⟩).length * 34
      · rw [if_pos hq, Array.getElem?_toList, spl_get _ _ _ _ (by rw [hlen]; exact hfit), hlen]
        rw [List.length_set] at hq
        have hk : q / 34 < l.length := by omega
        have hq2 : q = q / 34 * 34 + q % 34 := by omega
        have hj : q % 34 < 34 := by omega
        have h1 := vsC_get l (q / 34) (q % 34) hk hj
        have h2 := vsC_get (l.set i ⟨f, l[i].u, l[i].g⟩) (q / 34) (q % 34) (by rw [List.length_set]; exact hk) hj
        rw [← hq2] at h1 h2
        rw [h2]
        have h3 : cur'[q]? = (vsC l)[q]? := by rw [← htk, List.getElem?_take, if_pos (by omega), Array.getElem?_toList]
        by_cases hki : q / 34 = i
        · have e2 : (l.set i ⟨f, l[i].u, l[i].g⟩)[q / 34]'(by rw [List.length_set]; exact hk) = ⟨f, l[i].u, l[i].g⟩ := by simp [hki]
          rw [e2]
          by_cases hj2 : q % 34 < 32
          · rw [if_pos (by omega), Array.getElem?_toList, show q - i * 34 = q % 34 by omega, ba_get _ _ _ hj2, veC_m _ _ hj2]
          · rw [if_neg (by omega), h3, h1]
            have e3 : l[q / 34] = l[i] := by simp [hki]
            rw [e3]
            by_cases hj3 : q % 34 = 32
            · rw [hj3, veC_u, veC_u]
            · rw [show q % 34 = 33 by omega, veC_g, veC_g]
        · rw [if_neg (by omega), h3, h1]
          congr 2
          exact (List.getElem_set_ne (fun e => hki e.symm) _).symm
      · rw [if_neg hq, List.getElem?_eq_none (by rw [vsC_len]; omega)]
/-- the same, in other words -/
theorem VsAt.setMat {g n c i : Nat} {f : Bf} {cur : Array Value} {x : Ve} (h : VsAt T w t e v l) (hv : v = .slice (some ⟨g, 0, none⟩) n c) (hx : l[i]? = some x) (hr : Oct.row w g = some cur) :
    (∀ (P : Program) (t' : Nat), stR P t' 32 w g (i * 34) (.agg (ba 32 f)) (some cur) = .ok () (w.setRow g (spl cur (i * 34) (ba 32 f).toList))) ∧
    VsAt T (w.setRow g (spl cur (i * 34) (ba 32 f).toList)) t e v (l.set i ⟨f, x.u, x.g⟩) := by
  obtain ⟨hi, rfl⟩ := List.getElem?_eq_some_iff.1 hx
  obtain ⟨A, c', e1, -⟩ := h.form
  rw [hv] at e1
  simp only [Value.slice.injEq] at e1
  obtain ⟨rfl, rfl, rfl⟩ := e1
  subst hv
  exact h.setMat_ hi hr
/-- a cell of one of them stored -/
theorem VsAt.setOne {g n c i j : Nat} {u : Value} {x y : Ve} (h : VsAt T w t e v l) (hv : v = .slice (some ⟨g, 0, none⟩) n c) (hx : l[i]? = some x) (hj : j < 34) (hy : (veC x).set j u = veC y) : VsAt T (w.setCell ⟨g, i * 34 + j, none⟩ u) t e v (l.set i y) := by
  obtain ⟨hi, rfl⟩ := List.getElem?_eq_some_iff.1 hx
  obtain ⟨A, c', e1, -⟩ := h.form
  rw [hv] at e1
  simp only [Value.slice.injEq] at e1
  obtain ⟨rfl, rfl, rfl⟩ := e1
  subst hv
  exact h.set hi hj hy
/-- its block's row -/
theorem VsAt.row_ {g n c : Nat} (h : VsAt T w t e v l) (hv : v = .slice (some ⟨g, 0, none⟩) n c) (hn : 0 < n) : ∃ cur, Oct.row w g = some cur := by
  obtain ⟨A, c', e1, -, -, h3⟩ := h.form
  rw [hv] at e1
  simp only [Value.slice.injEq] at e1
  obtain ⟨rfl, rfl, rfl⟩ := e1
  obtain ⟨g', cur, e2, -, hr, -⟩ := h3 hn
  cases e2
  exact ⟨cur, hr⟩
end
end Go.Proofs.Ytabchkcieddhpaa.Oct
