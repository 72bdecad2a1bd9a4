/- What the reference reads, whether it is refused or not. -/
import Derived.Test.YtdfcldomjjcidaaGreatDoorJsA
import Derived.Test.YtdfcldomjjcidaaGreatDoorWiZn
import Derived.Test.YtdfcldomjjcidaaGreatDoorJrO
namespace Go.Proofs.YtdfcldomjjcidaaGreatDoor.Oct
open Go.ChangeShapes Go.WideShapes Go.ChangeAt Go.RowKit
set_option linter.unusedVariables false

theorem taP_uni (n : Nat) (f : Bf) : ∃ (v m : Nat) (g : Bf) (E : Nat), v < 9223372036854775808 ∧ m ≤ n ∧ (tkE n f = 0 → v = tkV f ∧ m = n - tkL f ∧ g = offF f (tkL f)) ∧
    ∀ w e w', taP n f w e w' → ∃ A c, e = .returned (.tuple #[.int .i64 (v : Nat), .slice A m c, .int .i64 (E : Nat)]) ∧ Sl w' w'.heap.size A m c g ∧ Nw w.heap.size m A ∧ Below w.heap.size w w' := by
  by_cases h : tkE n f = 0
  · refine ⟨tkV f, n - tkL f, offF f (tkL f), 0, (tk_ok h).2.2.2.2, Nat.sub_le _ _, fun _ => ⟨rfl, rfl, rfl⟩, fun w e w' ht => ?_⟩
    rcases ht with ⟨h1, -, -⟩ | ⟨-, v, rfl, ho, hb⟩
    · exact absurd h h1
    · obtain ⟨A, c, rfl, hs, -, -⟩ := ho.sl
      exact ⟨A, c, rfl, hs, fun k hk => off_own ho hk, hb⟩
  · refine ⟨0, 0, nF, tkE n f, by omega, Nat.zero_le _, fun h0 => absurd h0 h, fun w e w' ht => ?_⟩
    rcases ht with ⟨-, rfl, hb⟩ | ⟨h1, -⟩
    · exact ⟨none, 0, rfl, sl_none _ _, fun k hk h0 => absurd h0 (by omega), hb⟩
    · exact absurd h1 h
theorem ttP_uni (n : Nat) (m : Int) (f : Bf) : ∃ (T : Nat) (g : Bf) (E : Nat), T ≤ n ∧ (ttE n m f = 0 → T = tkV f ∧ g = offF f (tkL f)) ∧ (E = 0 ↔ ttE n m f = 0) ∧
    ∀ w e w', ttP n m f w e w' → ∃ A c v, e = .returned (.tuple #[.slice A T c, v, .int .i64 (E : Nat)]) ∧ Sl w' w'.heap.size A T c g ∧ Below w.heap.size w w' := by
  by_cases h : ttE n m f = 0
  · refine ⟨tkV f, offF f (tkL f), 0, ?_, fun _ => ⟨rfl, rfl⟩, ⟨fun _ => h, fun _ => rfl⟩, fun w e w' ht => ?_⟩
    · unfold ttE at h
      split at h
      · omega
      split at h
      · omega
      split at h <;> omega
    rcases ht with ⟨h1, -, -⟩ | ⟨-, u, v, rfl, ho, -, hb⟩
    · exact absurd h h1
    · obtain ⟨A, c, rfl, hs, -, -⟩ := ho.sl
      exact ⟨A, c, v, rfl, hs, hb⟩
  · refine ⟨0, nF, ttE n m f, Nat.zero_le _, fun h0 => absurd h0 h, ⟨fun e => e, fun e => e⟩, fun w e w' ht => ?_⟩
    rcases ht with ⟨-, rfl, hb⟩ | ⟨h1, -⟩
    · exact ⟨none, 0, _, rfl, sl_none _ _, hb⟩
    · exact absurd h1 h
theorem teR_uni (n : Nat) (f : Bf) : ∃ en : En, EnB en ∧ (teK n f → en = teEn f) ∧
    ∀ w e w', teR n f w e w' → ∃ A c A' c' E, e = .returned (.tuple #[entV en.t en.k (.slice A en.T c) (.slice A' en.n c'), .int .i64 E]) ∧ EnR w' en A c A' c' ∧ Nw w.heap.size en.T A ∧ (∀ a, A' = some a → w.heap.size ≤ a.block) ∧ Below w.heap.size w w' := by
  by_cases h : teK n f
  · refine ⟨teEn f, te_bd h, fun _ => rfl, fun w e w' ht => ?_⟩
    rcases ht with ⟨h1, -⟩ | ⟨-, A, c, A', c', rfl, h2, h3, hb, h4, h5⟩
    · exact absurd h h1
    · exact ⟨A, c, A', c', 0, rfl, ⟨h2, h3⟩, h4, h5, hb⟩
  · refine ⟨.zero, ⟨by change (-9223372036854775808 : Int) ≤ 0 ∧ (0 : Int) < _; omega, by change (-9223372036854775808 : Int) ≤ 0 ∧ (0 : Int) < _; omega, fun i hi => absurd hi (by show ¬ i < 0; omega), Nat.zero_le _⟩, fun h0 => absurd h0 h, fun w e w' ht => ?_⟩
    rcases ht with ⟨-, rfl, hb⟩ | ⟨h1, -⟩
    · exact ⟨none, 0, none, 0, 80, rfl, enR_none _ _ rfl rfl, fun k hk => fun h0 => absurd h0 (by show ¬ 0 < 0; omega), fun a ha => (by cases ha), hb⟩
    · exact absurd h1 h
theorem ta_next {n : Nat} {f : Bf} {j m : Nat} {g : Bf} (hm : m = n - puO f j) (hg : g = offF f (puO f j)) (h : puS n f j = 0) : tkE m g = 0 ∧ tkV g = puX f j ∧ m - tkL g = n - puO f (j + 1) ∧ offF g (tkL g) = offF f (puO f (j + 1)) := by
  subst hm hg
  exact ⟨h, rfl, by rw [Nat.sub_sub]; rfl, by rw [offF_offF]; rfl⟩
/-- the record that one reads -/
def onR (k x y z : Nat) (en : En) : Rc :=
  if k = 1 then { Rc.zero with k := 1, a := (x : Nat), b := (y : Nat) } else if k = 2 then { Rc.zero with k := 2, i := (x : Nat), e := en }
  else if k = 3 then { Rc.zero with k := 3, i := (x : Nat), t := (y : Nat), n := (z : Nat) } else { Rc.zero with k := (k : Nat) }
theorem onR_k (k x y z : Nat) (en : En) : (onR k x y z en).k = (k : Nat) := by
  unfold onR
  split
  · rename_i h; subst h; rfl
  split
  · rename_i h; subst h; rfl
  split
  · rename_i h; subst h; rfl
  · rfl
def onP (n : Nat) (f : Bf) (w : World) (e : Ending) (w' : World) : Prop := Below w.heap.size w w' ∧ ∃ r v, e = .returned v ∧ RcN w.heap.size w' r v ∧ (r.k = 2 → EnB r.e) ∧ (dcK n f → r = dcR f)
@[go_sem] theorem rc_bk (k : Int) (w : World) : (bdA 29 #[(0, .int .i64 k)]).run Tryz.prog w = .ok (.agg (rcC (rc1 k) nilS nilS)) w := rc_bdu _ _ _ (by unfold rcC; kernel_rfl)
theorem dc_s0 {n : Nat} {f : Bf} {k m1 : Nat} {g1 : Bf} (h1 : tkE n f = 0 → k = tkV f ∧ m1 = n - tkL f ∧ g1 = offF f (tkL f)) (h : puS n f 0 = 0) : k = puX f 0 ∧ m1 = n - puO f 1 ∧ g1 = offF f (puO f 1) := by
  obtain ⟨a1, a2, a3, a4⟩ := ta_next (n := n) (f := f) (j := 0) (m := n) (g := f) (Nat.sub_zero n).symm (offF_zero f).symm h
  obtain ⟨e1, e2, e3⟩ := h1 a1
  exact ⟨e1.trans a2, e2.trans a3, e3.trans a4⟩
theorem dc_s {n : Nat} {f : Bf} {j m v m' : Nat} {g g' : Bf} (hm : m = n - puO f j) (hg : g = offF f (puO f j)) (hn : tkE m g = 0 → v = tkV g ∧ m' = m - tkL g ∧ g' = offF g (tkL g)) (h : puS n f j = 0) : v = puX f j ∧ m' = n - puO f (j + 1) ∧ g' = offF f (puO f (j + 1)) := by
  obtain ⟨a1, a2, a3, a4⟩ := ta_next hm hg h
  obtain ⟨e1, e2, e3⟩ := hn a1
  exact ⟨e1.trans a2, e2.trans a3, e3.trans a4⟩
theorem on_1 {n : Nat} {f : Bf} {x y m1 m2 m3 : Nat} {g1 g2 g3 : Bf} (h1 : tkE n f = 0 → 1 = tkV f ∧ m1 = n - tkL f ∧ g1 = offF f (tkL f)) (h2 : tkE m1 g1 = 0 → x = tkV g1 ∧ m2 = m1 - tkL g1 ∧ g2 = offF g1 (tkL g1))
    (h3 : tkE m2 g2 = 0 → y = tkV g2 ∧ m3 = m2 - tkL g2 ∧ g3 = offF g2 (tkL g2)) (h : dcK n f) : ({ Rc.zero with k := 1, a := (x : Nat), b := (y : Nat) } : Rc) = dcR f := by
  obtain ⟨-, hp, -⟩ := h
  obtain ⟨e1, e2, e3⟩ := dc_s0 h1 (fi_each hp 0 (by omega))
  have hc : nCn ((puX f 0 : Nat) : Int) = 2 := by rw [← e1]; rfl
  rw [hc] at hp
  obtain ⟨e4, e5, e6⟩ := dc_s e2 e3 h2 (fi_each hp 1 (by omega))
  obtain ⟨e7, -, -⟩ := dc_s e5 e6 h3 (fi_each hp 2 (by omega))
  unfold dcR
  rw [if_neg (by omega), hc, ← e1]
  unfold nSt dcY
  simp [← e4, ← e7]
theorem on_2 {n : Nat} {f : Bf} {x m1 m2 T : Nat} {g1 g2 g : Bf} {en : En} (h1 : tkE n f = 0 → 2 = tkV f ∧ m1 = n - tkL f ∧ g1 = offF f (tkL f)) (h2 : tkE m1 g1 = 0 → x = tkV g1 ∧ m2 = m1 - tkL g1 ∧ g2 = offF g1 (tkL g1))
    (h3 : ttE m2 4096 g2 = 0 → T = tkV g2 ∧ g = offF g2 (tkL g2)) (h4 : teK T g → en = teEn g) (h : dcK n f) : ({ Rc.zero with k := 2, i := (x : Nat), e := en } : Rc) = dcR f := by
  obtain ⟨-, hp, ht⟩ := h
  obtain ⟨e1, e2, e3⟩ := dc_s0 h1 (fi_each hp 0 (by omega))
  have hc : nCn ((puX f 0 : Nat) : Int) = 1 := by rw [← e1]; rfl
  rw [hc] at hp
  obtain ⟨e4, e5, e6⟩ := dc_s e2 e3 h2 (fi_each hp 1 (by omega))
  obtain ⟨t1, t2⟩ := ht e1.symm
  rw [← e5, ← e6] at t1
  obtain ⟨e7, e8⟩ := h3 t1
  have e9 : g = dcF f (puO f 2) := by rw [e8, e6, offF_offF]; rfl
  have e10 : T = dcT f (puO f 2) := by rw [e7, e6]; rfl
  rw [← e9, ← e10] at t2
  have e11 := h4 t2
  unfold dcR
  rw [if_pos e1.symm, ← e9, ← e11]
  unfold nSt dcY
  simp [← e4]
theorem on_3 {n : Nat} {f : Bf} {x y z m1 m2 m3 m4 : Nat} {g1 g2 g3 g4 : Bf} (h1 : tkE n f = 0 → 3 = tkV f ∧ m1 = n - tkL f ∧ g1 = offF f (tkL f)) (h2 : tkE m1 g1 = 0 → x = tkV g1 ∧ m2 = m1 - tkL g1 ∧ g2 = offF g1 (tkL g1))
    (h3 : tkE m2 g2 = 0 → y = tkV g2 ∧ m3 = m2 - tkL g2 ∧ g3 = offF g2 (tkL g2)) (h4 : tkE m3 g3 = 0 → z = tkV g3 ∧ m4 = m3 - tkL g3 ∧ g4 = offF g3 (tkL g3)) (h : dcK n f) : ({ Rc.zero with k := 3, i := (x : Nat), t := (y : Nat), n := (z : Nat) } : Rc) = dcR f := by
  obtain ⟨-, hp, -⟩ := h
  obtain ⟨e1, e2, e3⟩ := dc_s0 h1 (fi_each hp 0 (by omega))
  have hc : nCn ((puX f 0 : Nat) : Int) = 3 := by rw [← e1]; rfl
  rw [hc] at hp
  obtain ⟨e4, e5, e6⟩ := dc_s e2 e3 h2 (fi_each hp 1 (by omega))
  obtain ⟨e7, e8, e9⟩ := dc_s e5 e6 h3 (fi_each hp 2 (by omega))
  obtain ⟨e10, -, -⟩ := dc_s e8 e9 h4 (fi_each hp 3 (by omega))
  unfold dcR
  rw [if_neg (by omega), hc, ← e1]
  unfold nSt dcY
  simp [← e4, ← e7, ← e10]
theorem on_0 {n : Nat} {f : Bf} {k m1 : Nat} {g1 : Bf} (h1 : tkE n f = 0 → k = tkV f ∧ m1 = n - tkL f ∧ g1 = offF f (tkL f)) (hk : k ≠ 1) (hk2 : k ≠ 2) (hk3 : k ≠ 3) (h : dcK n f) : False := by
  obtain ⟨hkd, hp, -⟩ := h
  obtain ⟨e1, -, -⟩ := dc_s0 h1 (fi_each hp 0 (by omega))
  unfold kd at hkd
  omega
/-- no slices: new -/
theorem rcN_bare {N : Nat} {w : World} {r : Rc} (hT : r.e.T = 0) (hn : r.e.n = 0) : RcN N w r (.agg (rcC r nilS nilS)) :=
  ⟨none, 0, none, 0, by rw [hT, hn], enR_none _ _ hT hn, fun k hk h0 => absurd h0 (by omega), fun a ha => by cases ha⟩
end Go.Proofs.YtdfcldomjjcidaaGreatDoor.Oct
