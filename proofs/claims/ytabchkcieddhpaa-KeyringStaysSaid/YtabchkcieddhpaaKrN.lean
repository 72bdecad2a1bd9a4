/- A whole version of a row stored. -/
import Derived.Test.YtabchkcieddhpaaKrTy
import Derived.Test.YtabchkcieddhpaaKrU
namespace Go.Proofs.Ytabchkcieddhpaa.Oct
open Go.RowKit
set_option linter.unusedVariables false

section
variable {T : Mk} {w : World} {t : Nat} {e : TypeId} {v : Value} {l : List Ve}
theorem VsAt.setAll_ {g c i : Nat} {y : Ve} {cur : Array Value} (h : VsAt T w t e (.slice (some ⟨g, 0, none⟩) l.length c) l) (hi : i < l.length) (hr : Oct.row w g = some cur) :
    (∀ (P : Program) (t' : Nat), stR P t' 34 w g (i * 34) (.agg (veA y)) (some cur) = .ok () (w.setRow g (spl cur (i * 34) (veC y)))) ∧
    VsAt T (w.setRow g (spl cur (i * 34) (veC y))) t e (.slice (some ⟨g, 0, none⟩) l.length c) (l.set i y) := by
  rcases h.own.2 with ⟨h0, _⟩ | ⟨g', cap, cur', e1, hb, hg, hc, hm, hcs, htk⟩
  · cases h0
  · simp only [Value.slice.injEq, Option.some.injEq, Addr.mk.injEq] at e1
    obtain ⟨⟨rfl, -⟩, -, rfl⟩ := e1
    obtain rfl : cur' = cur := by have := row_of hg; rw [hr] at this; exact (Option.some.inj this).symm
    have hfit : i * 34 + 34 ≤ cur'.size := by rw [hcs]; omega
    have hlen : (veC y).length = 34 := veC_len y
    constructor
    · intro P t'
      unfold stR
      have e : i * 34 + 34 ≤ cur'.size ∧ (Value.agg (veA y)).cells.size = 34 ∧ Ones (Value.agg (veA y)).cells := ⟨hfit, veA_size _, veA_ones _⟩
      simp only [if_pos e]
      show Result.ok () (w.setRow g (spl cur' (i * 34) (veA y).toList)) = _
      rw [veA_list]
    · have hsz : (spl cur' (i * 34) (veC y)).size = cur'.size := spl_sizeK _ _ _
      refine ⟨⟨by rw [vsC_len], .inr ⟨g, c, _, by rw [List.length_set], hb, setRow_heap w g _ _ _ _ hg, by rw [List.length_set]; exact hc, hm, by rw [hsz]; exact hcs, ?_⟩⟩, h.tg⟩
      apply List.ext_getElem?
      intro q
      rw [List.getElem?_take]
      by_cases hq : q < (l.set i y).length * 34
      · rw [if_pos hq, Array.getElem?_toList, spl_get _ _ _ _ (by rw [hlen]; exact hfit), hlen]
        rw [List.length_set] at hq
        have hk : q / 34 < l.length := by omega
        have hq2 : q = q / 34 * 34 + q % 34 := by omega
        have hj : q % 34 < 34 := by omega
        have h1 := vsC_get l (q / 34) (q % 34) hk hj
        have h2 := vsC_get (l.set i y) (q / 34) (q % 34) (by rw [List.length_set]; exact hk) hj
        rw [← hq2] at h1 h2
        rw [h2]
        have h3 : cur'[q]? = (vsC l)[q]? := by rw [← htk, List.getElem?_take, if_pos (by omega), Array.getElem?_toList]
        by_cases hki : q / 34 = i
        · have e2 : (l.set i y)[q / 34]'(by rw [List.length_set]; exact hk) = y := by simp [hki]
          rw [e2, if_pos (by omega), show q - i * 34 = q % 34 by omega]
        · rw [if_neg (by omega), h3, h1]
          congr 2
          exact (List.getElem_set_ne (fun e => hki e.symm) _).symm
      · rw [if_neg hq, List.getElem?_eq_none (by rw [vsC_len]; omega)]
theorem VsAt.setAll {g n c i : Nat} {cur : Array Value} {y : Ve} (h : VsAt T w t e v l) (hv : v = .slice (some ⟨g, 0, none⟩) n c) (hi : i < n) (hr : Oct.row w g = some cur) :
    (∀ (P : Program) (t' : Nat), stR P t' 34 w g (i * 34) (.agg (veA y)) (some cur) = .ok () (w.setRow g (spl cur (i * 34) (veC y)))) ∧ VsAt T (w.setRow g (spl cur (i * 34) (veC y))) t e v (l.set i y) := by
  obtain ⟨A, c', e1, -⟩ := h.form
  rw [hv] at e1
  simp only [Value.slice.injEq] at e1
  obtain ⟨rfl, rfl, rfl⟩ := e1
  subst hv
  exact h.setAll_ hi hr
end
end Go.Proofs.Ytabchkcieddhpaa.Oct
