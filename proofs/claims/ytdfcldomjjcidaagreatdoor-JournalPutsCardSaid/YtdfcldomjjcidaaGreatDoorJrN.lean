/- journal's math: lists of records that stand in bytes; what is cut off, or turned. -/
import Derived.Test.YtdfcldomjjcidaaGreatDoorJrM
namespace Go.Proofs.YtdfcldomjjcidaaGreatDoor.Oct
open Go.ChangeShapes Go.WideShapes Go.ChangeAt Go.RowKit
set_option linter.unusedVariables false

def lnS : List Rc → Nat
  | [] => 0
  | r :: l => pcL r + lnS l
def allF : List Rc → Bf
  | [] => nF
  | r :: l => catF (pcL r) (pcF r) (allF l)
def StL : Nat → Bf → List Rc → Prop
  | _, _, [] => True
  | n, f, r :: l => Stands n f r ∧ StL (n - pcL r) (offF f (pcL r)) l
def ScR (n : Nat) (f : Bf) (l : List Rc) : Prop := StL n f l ∧ ¬ fsK (n - lnS l) (offF f (lnS l))
/-- the i-th record -/
abbrev gt (l : List Rc) (i : Nat) : Rc := l.getD i Rc.zero
def LEq (l l' : List Rc) : Prop := l.length = l'.length ∧ ∀ i, i < l.length → rcEq (gt l i) (gt l' i)
theorem lnS_app : ∀ l m : List Rc, lnS (l ++ m) = lnS l + lnS m
  | [], m => by simp [lnS]
  | r :: l, m => by simp only [List.cons_append, lnS, lnS_app l m]; omega
theorem allF_app : ∀ l m : List Rc, allF (l ++ m) = catF (lnS l) (allF l) (allF m)
  | [], m => by simp only [List.nil_append, lnS, allF]; rw [catF_zero]
  | r :: l, m => by simp only [List.cons_append, lnS, allF, allF_app l m]; rw [← catF_assoc]
theorem allF_snoc (l : List Rc) (r : Rc) : ∀ i, i < lnS l + pcL r → allF (l ++ [r]) i = catF (lnS l) (allF l) (pcF r) i := fun i hi => by
  rw [allF_app]
  refine catF_congr (m := pcL r) (fun _ _ => rfl) (fun j hj => ?_) i hi
  show catF (pcL r) (pcF r) nF j = _
  unfold catF; rw [if_pos hj]
theorem StL.le : ∀ {l : List Rc} {n : Nat} {f : Bf}, StL n f l → lnS l ≤ n
  | [], _, _, _ => Nat.zero_le _
  | r :: l, n, f, h => by have h1 := h.1.le; have h2 := StL.le h.2; simp only [lnS]; omega
theorem StL.app : ∀ {l m : List Rc} {n : Nat} {f : Bf}, StL n f l → StL (n - lnS l) (offF f (lnS l)) m → StL n f (l ++ m)
  | [], m, n, f, _, h => by simp only [lnS, Nat.sub_zero, offF_zero] at h; exact h
  | r :: l, m, n, f, h, h2 => by
    refine ⟨h.1, StL.app h.2 ?_⟩
    simp only [lnS] at h2
    rw [offF_offF, Nat.sub_sub]
    exact h2
theorem StL.snoc {l : List Rc} {r : Rc} {n : Nat} {f : Bf} (h : StL n f l) (h2 : Stands (n - lnS l) (offF f (lnS l)) r) : StL n f (l ++ [r]) := h.app ⟨h2, trivial⟩
theorem StL.split : ∀ {l m : List Rc} {n : Nat} {f : Bf}, StL n f (l ++ m) → StL n f l ∧ StL (n - lnS l) (offF f (lnS l)) m
  | [], m, n, f, h => by simp only [lnS, Nat.sub_zero, offF_zero]; exact ⟨trivial, h⟩
  | r :: l, m, n, f, h => by
    obtain ⟨h1, h2⟩ := StL.split (l := l) h.2
    refine ⟨⟨h.1, h1⟩, ?_⟩
    simp only [lnS]
    rw [offF_offF, Nat.sub_sub] at h2
    exact h2
theorem not_fs_zero (f : Bf) : ¬ fsK 0 f := fun h => by have := h.2.2.1; have := pcL_pos (fsR f); omega
/-- less bytes, as long as all is there -/
theorem StL.less : ∀ {l : List Rc} {n n' : Nat} {f f' : Bf}, StL n f l → lnS l ≤ n' → (∀ i, i < lnS l → f' i = f i) → StL n' f' l
  | [], _, _, _, _, _, _, _ => trivial
  | r :: l, n, n', f, f', h, hn, hf => by
    simp only [lnS] at hn hf
    refine ⟨⟨h.1.bd, h.1.ok, by omega, fun i hi => by rw [hf i (by omega)]; exact h.1.at_ i hi⟩, h.2.less (by omega) fun i hi => ?_⟩
    unfold offF
    exact hf _ (by omega)
theorem StL_all : ∀ {l : List Rc} {n : Nat} {f : Bf}, (∀ r, r ∈ l → (r.k = 2 → EnB r.e) ∧ pcE r = 0) → lnS l ≤ n → (∀ i, i < lnS l → f i = allF l i) → StL n f l
  | [], _, _, _, _, _ => trivial
  | r :: l, n, f, h, hn, hf => by
    simp only [lnS] at hn hf
    obtain ⟨h1, h2⟩ := h r (List.mem_cons_self ..)
    refine ⟨⟨h1, h2, by omega, fun i hi => ?_⟩, StL_all (fun x hx => h x (List.mem_cons_of_mem _ hx)) (by omega) fun i hi => ?_⟩
    · rw [hf i (by omega)]; simp only [allF]; unfold catF; rw [if_pos hi]
    · unfold offF
      rw [hf _ (by omega)]
      simp only [allF]
      unfold catF
      rw [if_neg (by omega), show pcL r + i - pcL r = i by omega]
theorem ScR.one : ∀ {l l' : List Rc} {n : Nat} {f : Bf}, ScR n f l → ScR n f l' → lnS l = lnS l' ∧ LEq l l'
  | [], [], _, _, _, _ => ⟨rfl, rfl, fun i hi => absurd hi (by simp)⟩
  | [], r :: l, n, f, h, h' => by
    have h1 := h.2
    simp only [lnS, Nat.sub_zero, offF_zero] at h1
    exact absurd (stands_fs h'.1.1).1 h1
  | r :: l, [], n, f, h, h' => by
    have h1 := h'.2
    simp only [lnS, Nat.sub_zero, offF_zero] at h1
    exact absurd (stands_fs h.1.1).1 h1
  | r :: l, r' :: l', n, f, h, h' => by
    have e := stands_one h.1.1 h'.1.1
    have ep := e.put.2.1
    have h1 := h.2
    have h2 := h'.2
    simp only [lnS] at h1 h2
    have g1 : ScR (n - pcL r) (offF f (pcL r)) l := ⟨h.1.2, by rw [offF_offF, Nat.sub_sub]; exact h1⟩
    have g2 : ScR (n - pcL r) (offF f (pcL r)) l' := ⟨by rw [ep]; exact h'.1.2, by rw [offF_offF, Nat.sub_sub, ep]; exact h2⟩
    obtain ⟨a1, a2, a3⟩ := ScR.one g1 g2
    refine ⟨by simp only [lnS]; omega, by simp [a2], fun i hi => ?_⟩
    cases i with
    | zero => exact e
    | succ i => exact a3 i (by simpa using hi)
theorem LEq.symm {l l' : List Rc} (h : LEq l l') : LEq l' l := ⟨h.1.symm, fun i hi => (h.2 i (by rw [h.1]; exact hi)).symm⟩
/-- all of them -/
theorem scr_whole {l : List Rc} {n : Nat} {f : Bf} (h : ∀ r, r ∈ l → (r.k = 2 → EnB r.e) ∧ pcE r = 0) (hn : n = lnS l) (hf : ∀ i, i < n → f i = allF l i) : ScR n f l := by
  subst hn
  refine ⟨StL_all h (Nat.le_refl _) hf, ?_⟩
  rw [Nat.sub_self]
  exact not_fs_zero _
/-- the last bytes are cut off -/
theorem scr_cut {l : List Rc} {n : Nat} {f : Bf} (h : ScR n f l) (hn : n = lnS l) (k size : Nat) (hk : k ≤ l.length) (h1 : lnS (l.take k) ≤ size) (h2 : k < l.length → size < lnS (l.take (k + 1))) (hs : size ≤ n) : ScR size f (l.take k) := by
  have hsp := h.1
  rw [← List.take_append_drop k l] at hsp
  obtain ⟨g1, g2⟩ := hsp.split
  refine ⟨g1.less h1 (fun _ _ => rfl), fun hfs => ?_⟩
  by_cases e : k < l.length
  · have h3 := h2 e
    rw [List.drop_eq_getElem_cons e] at g2
    have h4 := stands_one (fs_stands hfs) g2.1
    have h5 := h4.put.2.1
    have h6 := (fs_stands hfs).le
    rw [List.take_succ_eq_append_getElem e, lnS_app] at h3
    simp only [lnS] at h3
    omega
  · have : l.take k = l := List.take_of_length_le (by omega)
    rw [this] at h1 hfs
    have h6 := (fs_stands hfs).le
    have := pcL_pos (fsR (offF f (lnS l)))
    omega
theorem pcF_mid (r : Rc) (i : Nat) (hi : i < rcL r) : pcF r (encL (rcL r) + i) = rcF r i := by
  unfold pcF frF catF
  rw [if_pos (by unfold txL; omega)]
  unfold txF catF
  rw [if_neg (by omega), show encL (rcL r) + i - encL (rcL r) = i by omega]
/-- one of the last four bytes of the last record is turned -/
theorem scr_turn {l : List Rc} {r : Rc} {n : Nat} {f f' : Bf} (h : ScR n f (l ++ [r])) (hn : n = lnS (l ++ [r])) (p : Nat) (hp1 : n - 4 ≤ p) (hp2 : p < n) (hne : f' p ≠ f p) (hf : ∀ i, i < n → i ≠ p → f' i = f i) : ScR n f' l := by
  rw [lnS_app] at hn
  simp only [lnS, Nat.add_zero] at hn
  obtain ⟨g1, g2, -⟩ := h.1.split
  have hpl := pcL_pos r
  refine ⟨g1.less (by omega) fun i hi => hf i (by omega) (by omega), fun hfs => ?_⟩
  obtain ⟨g, hg⟩ : ∃ g, g = offF f (lnS l) := ⟨_, rfl⟩
  obtain ⟨g', hg'⟩ : ∃ g, g = offF f' (lnS l) := ⟨_, rfl⟩
  have hs := fs_stands hfs
  rw [← hg'] at hs
  rw [← hg] at g2
  obtain ⟨r', hr'⟩ : ∃ r', r' = fsR g' := ⟨_, rfl⟩
  rw [← hr'] at hs
  have hL : pcL r = txL (rcL r) + 4 := rfl
  have hL' : pcL r' = txL (rcL r') + 4 := rfl
  have hT : txL (rcL r) = encL (rcL r) + rcL r := rfl
  have hgg : ∀ i, i < txL (rcL r) → g' i = g i := fun i hi => by
    rw [hg, hg']
    unfold offF
    exact hf _ (by omega) (by omega)
  obtain ⟨hok, -, hrl⟩ := pc_ok g2.ok
  obtain ⟨-, -, v1, l1⟩ := stands_back g2
  obtain ⟨-, -, v2, l2⟩ := stands_back hs
  have hat : ∀ i, i < encL (rcL r) → g i = encF (rcL r) i := fun i hi => by
    rw [g2.at_ i (by omega)]
    unfold pcF frF catF
    rw [if_pos (by omega)]
    unfold txF catF
    rw [if_pos hi]
  obtain ⟨e0, -, -⟩ := tk_enc (rcL r) (by omega) (encL (rcL r)) g (Nat.le_refl _) hat
  obtain ⟨e1, e2⟩ := tk_same (n := encL (rcL r)) (f := g) (g := g') (fun i hi => (hgg i (by omega)).symm) e0
  have hrr : rcL r' = rcL r := by rw [← v2, ← e1, v1]
  have htxt : ∀ i, i < rcL r → rcF r' i = rcF r i := fun i hi => by
    have h1 := hs.at_ (encL (rcL r) + i) (by rw [hL', hrr]; omega)
    have h2 := g2.at_ (encL (rcL r) + i) (by omega)
    rw [hgg _ (by omega), h2, pcF_mid r i hi] at h1
    have h3 := pcF_mid r' i (by omega)
    rw [hrr] at h3
    rw [h1, h3]
  have hall : ∀ i, i < pcL r → pcF r' i = pcF r i := fun i hi => by
    unfold pcF frF
    rw [hrr]
    exact catF_congr (txF_congr htxt) (fun j hj => shaF_congr (fun _ _ => rfl) (fun _ _ => rfl) htxt j (by omega : j < 32)) i (by omega : i < txL (rcL r) + 4)
  apply hne
  have h1 := hs.at_ (p - lnS l) (by rw [hL', hrr]; omega)
  have h2 := g2.at_ (p - lnS l) (by omega)
  rw [hall _ (by omega), ← h2, hg, hg'] at h1
  unfold offF at h1
  rw [show lnS l + (p - lnS l) = p by omega] at h1
  exact h1
end Go.Proofs.YtdfcldomjjcidaaGreatDoor.Oct
