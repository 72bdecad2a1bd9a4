/- journal's math: rows of entries, and what they come to; literals of no records. -/
import Derived.Test.YtdfcldomjjcidaaDoorJrV
namespace Go.Proofs.YtdfcldomjjcidaaDoor.Oct
open Go.ChangeShapes Go.WideShapes Go.ChangeAt Go.RowKit
set_option linter.unusedVariables false

def rws (x : Nat → Int) (m : Nat) : List Rc := (List.range m).map fun (i : Nat) => rEnt ((i : Int) + 1) (x i)
def ensL (x : Nat → Int) (m : Nat) : List En := (List.range m).map fun i => eN (x i)
theorem rws_len (x : Nat → Int) (m : Nat) : (rws x m).length = m := by unfold rws; rw [List.length_map, List.length_range]
theorem ensL_len (x : Nat → Int) (m : Nat) : (ensL x m).length = m := by unfold ensL; rw [List.length_map, List.length_range]
theorem rws_succ (x : Nat → Int) (m : Nat) : rws x (m + 1) = rws x m ++ [rEnt ((m : Int) + 1) (x m)] := by unfold rws; rw [List.range_succ, List.map_append]; rfl
theorem ensL_succ (x : Nat → Int) (m : Nat) : ensL x (m + 1) = ensL x m ++ [eN (x m)] := by unfold ensL; rw [List.range_succ, List.map_append]; rfl
theorem rws_bare (x : Nat → Int) (m : Nat) : ∀ r, r ∈ rws x m → bare r := fun r hr => by
  obtain ⟨i, -, rfl⟩ := List.mem_map.1 hr
  exact ⟨rfl, rfl⟩
theorem gt_rws (x : Nat → Int) (m : Nat) (l : List Rc) {i : Nat} (h : i < m) : gt (rws x m ++ l) i = rEnt ((i : Int) + 1) (x i) := by
  unfold gt
  rw [List.getD_eq_getElem?_getD, List.getElem?_append_left (by rw [rws_len]; exact h)]
  simp [rws, h]
theorem gt_rws_at (x : Nat → Int) (m : Nat) (l : List Rc) (i : Nat) : gt (rws x m ++ l) (m + i) = gt l i := by
  unfold gt
  rw [List.getD_eq_getElem?_getD, List.getElem?_append_right (by rw [rws_len]; omega), rws_len, Nat.add_sub_cancel_left, List.getD_eq_getElem?_getD]
theorem ge_ens (x : Nat → Int) (m : Nat) {i : Nat} (h : i < m) : ge (ensL x m) i = eN (x i) := by simp [ge, ensL, h]
/-- one entry more -/
theorem stp_ent (x : Nat → Int) (m : Nat) (y : Int) (k : Nat) (hk : k ≤ m) : stp ⟨0, 0, 0, 0, 0, ensL x m⟩ (rEnt ((k : Int) + 1) y) = some ⟨0, 0, 0, 0, 0, ensL x k ++ [eN y]⟩ := by
  unfold stp
  show (if (2 : Int) = 1 then _ else if (2 : Int) = 2 then _ else _) = _
  rw [if_neg (show ¬ ((2 : Int) = 1) by decide), if_pos (show (2 : Int) = 2 from rfl)]
  unfold layS
  show (if (k : Int) + 1 ≤ 0 then _ else if ((ensL x m).length : Int) < (k : Int) + 1 - 0 - 1 then none else _) = _
  rw [if_neg (by omega), if_neg (by rw [ensL_len]; omega)]
  show some (St.mk 0 0 0 0 0 ((ensL x m).take ((k : Int) + 1 - 0 - 1).toNat ++ [eN y])) = _
  rw [show ((k : Int) + 1 - 0 - 1).toNat = k by omega]
  congr 3
  unfold ensL
  rw [← List.map_take, List.take_range, Nat.min_eq_left hk]
/-- one too far on -/
theorem stp_far (x : Nat → Int) (m : Nat) (y : Int) : stp ⟨0, 0, 0, 0, 0, ensL x m⟩ (rEnt ((m : Int) + 2) y) = none := by
  unfold stp
  show (if (2 : Int) = 1 then _ else if (2 : Int) = 2 then _ else _) = _
  rw [if_neg (show ¬ ((2 : Int) = 1) by decide), if_pos (show (2 : Int) = 2 from rfl)]
  unfold layS
  show (if (m : Int) + 2 ≤ 0 then _ else if ((ensL x m).length : Int) < (m : Int) + 2 - 0 - 1 then none else _) = _
  rw [if_neg (by omega), if_pos (by rw [ensL_len]; omega)]
theorem fd_rws (x : Nat → Int) (m : Nat) (l : List Rc) : ∀ j, j ≤ m → fdS (gt (rws x m ++ l)) j = some ⟨0, 0, 0, 0, 0, ensL x j⟩
  | 0, _ => rfl
  | j + 1, h => by
    rw [fdS, fd_rws x m l j (by omega), Option.bind_some, gt_rws x m l (by omega), stp_ent x j (x j) j (Nat.le_refl _), ensL_succ]
theorem fd_one (x : Nat → Int) (m k : Nat) (y : Int) (hk : k ≤ m) : fdS (gt (rws x m ++ [rEnt ((k : Int) + 1) y])) (m + 1) = some ⟨0, 0, 0, 0, 0, ensL x k ++ [eN y]⟩ := by
  rw [fdS, fd_rws x m _ m (Nat.le_refl _), Option.bind_some, show gt (rws x m ++ [rEnt ((k : Int) + 1) y]) m = rEnt ((k : Int) + 1) y from gt_rws_at x m _ 0]
  exact stp_ent x m y k hk
theorem fd_far (x : Nat → Int) (m : Nat) (y : Int) : fdS (gt (rws x m ++ [rEnt ((m : Int) + 2) y])) (m + 1) = none := by
  rw [fdS, fd_rws x m _ m (Nat.le_refl _), Option.bind_some, show gt (rws x m ++ [rEnt ((m : Int) + 2) y]) m = rEnt ((m : Int) + 2) y from gt_rws_at x m _ 0]
  exact stp_far x m y
/-- a base, one that is behind, hard state -/
theorem fd_bases (x : Nat → Int) (m k : Nat) (term : Int) (hk : k < m) : fdS (gt (rws x m ++ [rBase ((k : Int) + 1) term 1, rBase (k : Int) 77 2, rHard 5 2])) (m + 3) =
    some ⟨5, 2, (k : Int) + 1, term, 1, if x k = term then (ensL x m).drop (k + 1) else []⟩ := by
  have e0 := gt_rws_at x m [rBase ((k : Int) + 1) term 1, rBase (k : Int) 77 2, rHard 5 2]
  rw [fdS, fdS, fdS, fd_rws x m _ m (Nat.le_refl _), e0 2, e0 1, show gt (rws x m ++ [rBase ((k : Int) + 1) term 1, rBase (k : Int) 77 2, rHard 5 2]) m = rBase ((k : Int) + 1) term 1 from e0 0]
  simp only [Option.bind_some]
  have h1 : stp ⟨0, 0, 0, 0, 0, ensL x m⟩ (rBase ((k : Int) + 1) term 1) = some ⟨0, 0, (k : Int) + 1, term, 1, if x k = term then (ensL x m).drop (k + 1) else []⟩ := by
    unfold stp
    show (if (3 : Int) = 1 then _ else if (3 : Int) = 2 then _ else if (3 : Int) = 3 then _ else _) = _
    rw [if_neg (show ¬ ((3 : Int) = 1) by decide), if_neg (show ¬ ((3 : Int) = 2) by decide), if_pos (show (3 : Int) = 3 from rfl)]
    unfold mvS
    have hc : mvC ⟨0, 0, 0, 0, 0, ensL x m⟩ ((k : Int) + 1) = k + 1 := by unfold mvC; show ((k : Int) + 1 - 0).toNat = _; omega
    have ht : mvT ⟨0, 0, 0, 0, 0, ensL x m⟩ ((k : Int) + 1) term = decide (x k = term) := by
      unfold mvT
      rw [hc]
      have hg : (ensL x m).getD k En.zero = eN (x k) := ge_ens x m hk
      unfold plT
      rw [if_neg (by omega), Nat.add_sub_cancel]
      show (decide (k + 1 ≤ (ensL x m).length) && (((ensL x m).getD k En.zero).t == term)) = _
      rw [hg, ensL_len, decide_eq_true (show k + 1 ≤ m by omega), Bool.true_and]
      show (x k == term) = decide (x k = term)
      rfl
    show some (if (k : Int) + 1 < 0 then _ else _) = _
    rw [if_neg (by omega)]
    show some (St.mk 0 0 ((k : Int) + 1) term 1 (if mvT ⟨0, 0, 0, 0, 0, ensL x m⟩ ((k : Int) + 1) term then (ensL x m).drop (mvC ⟨0, 0, 0, 0, 0, ensL x m⟩ ((k : Int) + 1)) else [])) = _
    rw [hc, ht]
    by_cases e : x k = term
    · rw [if_pos e, decide_eq_true e]; rfl
    · rw [if_neg e, decide_eq_false e]; rfl
  rw [h1, Option.bind_some]
  obtain ⟨L, hL⟩ : ∃ L, L = (if x k = term then (ensL x m).drop (k + 1) else []) := ⟨_, rfl⟩
  rw [← hL]
  have h2 : stp ⟨0, 0, (k : Int) + 1, term, 1, L⟩ (gt [rBase ((k : Int) + 1) term 1, rBase (k : Int) 77 2, rHard 5 2] 1) = some ⟨0, 0, (k : Int) + 1, term, 1, L⟩ := by
    show stp ⟨0, 0, (k : Int) + 1, term, 1, L⟩ (rBase (k : Int) 77 2) = _
    unfold stp
    show (if (3 : Int) = 1 then _ else if (3 : Int) = 2 then _ else if (3 : Int) = 3 then _ else _) = _
    rw [if_neg (show ¬ ((3 : Int) = 1) by decide), if_neg (show ¬ ((3 : Int) = 2) by decide), if_pos (show (3 : Int) = 3 from rfl)]
    unfold mvS
    show some (if (k : Int) < (k : Int) + 1 then _ else _) = _
    rw [if_pos (by omega)]
  rw [h2, Option.bind_some]
  rfl
theorem left_len (x : Nat → Int) (m k : Nat) : ((ensL x m).drop (k + 1)).length = m - k - 1 := by rw [List.length_drop, ensL_len]; omega
@[go_sem] theorem rcs_b0 (w : World) : (bsA 22 0 #[]).run Tryd.prog w = .ok (.slice (some ⟨w.heap.size, 0, none⟩) 0 0) (w.alloc (.cells #[] 32)) := bsA_of _ _ _ _ _ _ (by kernel_rfl)
theorem ElAt.empty {α : Type} {k : Nat} {E : Mk → World → α → List Value → Prop} (T : Mk) (w : World) (t : Nat) (A : Option Addr) : ElAt k E T w t A 0 ([] : List α) := ⟨Nat.le_refl _, Nat.zero_le _, fun h => absurd h (by omega)⟩
theorem rcB_ent (i t : Int) (h : -4398046511104 ≤ i ∧ i ≤ 4398046511104) : RcB (rEnt i t) := ⟨h, by show 0 ≤ _; omega, by show 0 * 8 ≤ _; omega⟩
theorem rcB_base (i t n : Int) (h : -4398046511104 ≤ i ∧ i ≤ 4398046511104) : RcB (rBase i t n) := ⟨h, by show 0 ≤ _; omega, by show 0 * 8 ≤ _; omega⟩
theorem rcB_hard (a b : Int) : RcB (rHard a b) := ⟨by change (-4398046511104 : Int) ≤ 0 ∧ (0 : Int) ≤ 4398046511104; omega, by show 0 ≤ _; omega, by show 0 * 8 ≤ _; omega⟩
end Go.Proofs.YtdfcldomjjcidaaDoor.Oct
