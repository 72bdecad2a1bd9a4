/- journal's math: what stands at the front of bytes; records that are the same. -/
import Derived.Test.YtdfcldomjjcidaaGreatDoorJrH
namespace Go.Proofs.YtdfcldomjjcidaaGreatDoor.Oct
open Go.ChangeShapes Go.WideShapes Go.ChangeAt Go.RowKit
set_option linter.unusedVariables false

/-- two entries that are the same -/
structure enEq (e e' : En) : Prop where
  t : e.t = e'.t
  k : e.k = e'.k
  T : e.T = e'.T
  n : e.n = e'.n
  f : ∀ i, i < e.T → e.f i = e'.f i
  x : ∀ i, i < e.n → e.x i = e'.x i
/-- two records that are the same -/
structure rcEq (r r' : Rc) : Prop where
  k : r.k = r'.k
  i : r.i = r'.i
  t : r.t = r'.t
  n : r.n = r'.n
  a : r.a = r'.a
  b : r.b = r'.b
  e : enEq r.e r'.e
theorem enEq.refl (e : En) : enEq e e := ⟨rfl, rfl, rfl, rfl, fun _ _ => rfl, fun _ _ => rfl⟩
theorem enEq.symm {e e' : En} (h : enEq e e') : enEq e' e := ⟨h.t.symm, h.k.symm, h.T.symm, h.n.symm, fun i hi => (h.f i (by rw [h.T]; exact hi)).symm, fun i hi => (h.x i (by rw [h.n]; exact hi)).symm⟩
theorem enEq.trans {e e' e2 : En} (h : enEq e e') (g : enEq e' e2) : enEq e e2 := ⟨h.t.trans g.t, h.k.trans g.k, h.T.trans g.T, h.n.trans g.n, fun i hi => (h.f i hi).trans (g.f i (by rw [← h.T]; exact hi)), fun i hi => (h.x i hi).trans (g.x i (by rw [← h.n]; exact hi))⟩
theorem rcEq.refl (r : Rc) : rcEq r r := ⟨rfl, rfl, rfl, rfl, rfl, rfl, .refl _⟩
theorem rcEq.symm {e e' : Rc} (h : rcEq e e') : rcEq e' e := ⟨h.k.symm, h.i.symm, h.t.symm, h.n.symm, h.a.symm, h.b.symm, h.e.symm⟩
theorem rcEq.trans {e e' e2 : Rc} (h : rcEq e e') (g : rcEq e' e2) : rcEq e e2 := ⟨h.k.trans g.k, h.i.trans g.i, h.t.trans g.t, h.n.trans g.n, h.a.trans g.a, h.b.trans g.b, h.e.trans g.e⟩
theorem catF_congr {n m : Nat} {f f' g g' : Bf} (h : ∀ i, i < n → f i = f' i) (h2 : ∀ i, i < m → g i = g' i) : ∀ i, i < n + m → catF n f g i = catF n f' g' i := fun i hi => by
  unfold catF
  by_cases e : i < n
  · rw [if_pos e, if_pos e, h i e]
  · rw [if_neg e, if_neg e, h2 _ (by omega)]
theorem nuE_congr {x y : Nat → Int} : ∀ {j : Nat}, (∀ i, i < j → x i = y i) → nuE x j = nuE y j
  | 0, _ => rfl
  | j + 1, h => by
    have h1 := nuE_congr (j := j) fun i hi => h i (by omega)
    have h2 : neE x j = neE y j := by unfold neE; rw [h j (by omega)]
    show fiE (neE x) (j + 1) = fiE (neE y) (j + 1)
    have h1' : fiE (neE x) j = fiE (neE y) j := h1
    rw [fiE, fiE, h1', h2]
theorem txF_congr {T : Nat} {f g : Bf} (h : ∀ i, i < T → f i = g i) : ∀ i, i < txL T → txF T f i = txF T g i := catF_congr (fun _ _ => rfl) h
theorem lsL_congr {x y : Nat → Nat} (n : Nat) : ∀ {j : Nat}, (∀ i, i < j → x i = y i) → lsL x n j = lsL y n j
  | 0, _ => rfl
  | j + 1, h => by rw [lsL, lsL, lsL_congr n (j := j) fun i hi => h i (by omega), h j (by omega)]
theorem enEq.err {e e' : En} (h : enEq e e') : eneE e = eneE e' := by
  unfold eneE enE
  rw [h.t, h.k, h.T, h.n, nuE_congr (j := e'.n) fun i hi => h.x i (by rw [h.n]; exact hi)]
theorem lsF_congr {x y : Nat → Nat} (n : Nat) : ∀ {j : Nat}, (∀ i, i < j → x i = y i) → lsF x n j = lsF y n j
  | 0, _ => rfl
  | j + 1, h => by rw [lsF, lsF, lsF_congr n (j := j) fun i hi => h i (by omega), lsL_congr n (j := j) fun i hi => h i (by omega), h j (by omega)]
theorem enEq.enc {e e' : En} (h : enEq e e') : enL e = enL e' ∧ ∀ i, i < enL e → enF e i = enF e' i := by
  have hx : ∀ i, i < e.n → natS e.x i = natS e'.x i := fun i hi => by unfold natS; rw [h.x i hi]
  have hl : enL e = enL e' := by
    unfold enL entL
    rw [← h.t, ← h.k, ← h.T, ← h.n, lsL_congr e.n hx]
  refine ⟨hl, fun i hi => ?_⟩
  unfold enF entF
  rw [← h.t, ← h.k, ← h.T, ← h.n, ← lsF_congr e.n hx]
  unfold enL entL at hi
  exact catF_congr (catF_congr (fun _ _ => rfl) (txF_congr h.f)) (fun _ _ => rfl) i hi
theorem rcEq.num {r r' : Rc} (h : rcEq r r') : rcX r = rcX r' := by
  funext j
  unfold rcX nVl
  rw [h.k, h.i, h.t, h.n, h.a, h.b]
theorem rcEq.enc {r r' : Rc} (h : rcEq r r') : rcE r = rcE r' ∧ rcL r = rcL r' ∧ ∀ i, i < rcL r → rcF r i = rcF r' i := by
  obtain ⟨h1, h2⟩ := h.e.enc
  refine ⟨?_, ?_, ?_⟩
  · unfold rcE; rw [h.k, h.e.err, h1]
  · unfold rcL; rw [h.num, h.k, h1]
  · intro i hi
    unfold rcF
    unfold rcL at hi
    rw [← h.num, ← h.k, ← h1]
    split
    · rename_i h3
      rw [if_pos h3] at hi
      exact catF_congr (fun _ _ => rfl) (txF_congr h2) i hi
    · rfl
theorem rcEq.zrB {r r' : Rc} (h : rcEq r r') : fdB (zrE r) = fdB (zrE r') := by
  obtain ⟨k, i, t, n, a, b, ⟨et, ek, eT, ef, en, ex⟩⟩ := r
  obtain ⟨k', i', t', n', a', b', ⟨et', ek', eT', ef', en', ex'⟩⟩ := r'
  obtain ⟨rfl, rfl, rfl, rfl, rfl, rfl, ⟨h1, h2, h3, h4, -, -⟩⟩ := h
  simp only at h1 h2 h3 h4
  subst h1 h2 h3 h4
  by_cases h2 : k = 2
  · subst h2; rfl
  · by_cases h1 : k = 1
    · subst h1; rfl
    · simp only [zrE, zr, if_neg h2, if_neg h1, fdB]
theorem rcEq.ok {r r' : Rc} (h : rcEq r r') : rcOk r ↔ rcOk r' := by
  have hv : nVl r = nVl r' := by funext j; unfold nVl; rw [h.k, h.i, h.t, h.n, h.a, h.b]
  unfold rcOk
  rw [h.zrB, hv, h.k]
theorem rcEq.put {r r' : Rc} (h : rcEq r r') : pcE r = pcE r' ∧ pcL r = pcL r' ∧ ∀ i, i < pcL r → pcF r i = pcF r' i := by
  obtain ⟨h1, h2, h3⟩ := h.enc
  refine ⟨?_, ?_, ?_⟩
  · unfold pcE
    rw [h1, h2]
    simp only [h.ok]
  · unfold pcL; rw [h2]
  · intro i hi
    unfold pcF frF
    rw [← h2]
    unfold pcL frL at hi
    refine catF_congr (txF_congr h3) (fun j hj => shaF_congr (fun _ _ => rfl) (fun _ _ => rfl) h3 j (by omega : j < 32)) i hi
/-- a record's frame stands at the front of n bytes -/
structure Stands (n : Nat) (f : Bf) (r : Rc) : Prop where
  bd : r.k = 2 → EnB r.e
  ok : pcE r = 0
  le : pcL r ≤ n
  at_ : ∀ i, i < pcL r → f i = pcF r i
theorem pc_ok {r : Rc} (h : pcE r = 0) : rcOk r ∧ rcE r = 0 ∧ rcL r ≤ 4096 := by
  unfold pcE at h
  by_cases h1 : rcOk r
  · rw [if_neg (fun g => g h1)] at h
    by_cases h2 : rcE r = 0
    · rw [if_neg (fun g => g h2)] at h
      unfold frE at h
      refine ⟨h1, h2, ?_⟩
      split at h <;> omega
    · rw [if_pos h2] at h; exact absurd h h2
  · rw [if_pos h1] at h; omega
theorem enc_small {T : Nat} (h : T ≤ 4096) : encL T ≤ 3 := by
  unfold encL nd
  split
  · omega
  · split
    · omega
    · rw [if_pos (by omega)]; omega
theorem rcE_ok {r : Rc} (h : rcE r = 0) (hk : r.k = 2) : eneE r.e = 0 ∧ enL r.e ≤ 4096 := by
  unfold rcE at h
  rw [if_pos hk] at h
  by_cases h1 : eneE r.e = 0
  · rw [if_neg (fun g => g h1)] at h
    refine ⟨h1, ?_⟩
    split at h <;> omega
  · rw [if_pos h1] at h; exact absurd h h1
/-- what a frame stands for is read -/
theorem stands_back {n : Nat} {f : Bf} {r : Rc} (h : Stands n f r) : fsD n f ∧ rcEq (fsR f) r ∧ tkV f = rcL r ∧ tkL f = encL (rcL r) := by
  obtain ⟨hok, hE, hL⟩ := pc_ok h.ok
  have hle := h.le
  unfold pcL frL at hle
  have hat : ∀ i, i < txL (rcL r) → f i = txF (rcL r) (rcF r) i := fun i hi => by
    rw [h.at_ i (by unfold pcL frL; omega)]
    unfold pcF frF catF
    rw [if_pos hi]
  obtain ⟨q1, q2, q3, q4⟩ := back_tx (n := n) (by omega) hL hat
  have h3 := enc_small hL
  have htx : txL (rcL r) = encL (rcL r) + rcL r := rfl
  obtain ⟨p1, -, -⟩ := tk_enc (rcL r) (by omega) (min n 3) f (by omega) (fun i hi => by rw [hat i (by omega)]; unfold txF catF; rw [if_pos hi])
  obtain ⟨g, hg⟩ : ∃ g, g = offF f (tkL f) := ⟨_, rfl⟩
  rw [← hg] at q4
  have hbd : bdK n f := ⟨p1, by rw [q2, q3]; omega⟩
  unfold fsD fsR
  rw [← hg, q2]
  suffices hh : dcK (rcL r) g ∧ rcEq (dcR g) r from ⟨⟨hbd, hh.1⟩, hh.2, rfl, q3⟩
  -- the numbers
  have hnu : ∀ i, i < nuL (rcX r) (nCn r.k + 1) → g i = nuF (rcX r) (nCn r.k + 1) i := fun i hi => by
    have hle2 : nuL (rcX r) (nCn r.k + 1) ≤ rcL r := by unfold rcL; split <;> omega
    rw [q4 i (by omega)]
    unfold rcF
    split
    · unfold catF; rw [if_pos hi]
    · rfl
  have hkd := hok.1
  have hx : ∀ i, i < nCn r.k + 1 → 0 ≤ rcX r i ∧ rcX r i < 9223372036854775808 := fun i hi => by
    unfold rcX
    by_cases e : i = 0
    · rw [if_pos e]; unfold kd at hkd; omega
    · rw [if_neg e]; have := hok.2.1 (i - 1) (by omega); unfold nIn at this; omega
  have hle2 : nuL (rcX r) (nCn r.k + 1) ≤ rcL r := by unfold rcL; split <;> omega
  obtain ⟨b1, b2, b3⟩ := back_nu (n := rcL r) hle2 hx hnu (nCn r.k + 1) (Nat.le_refl _)
  have hk0 : ((puX g 0 : Nat) : Int) = r.k := by rw [b3 0 (by omega)]; rfl
  have hnum : ∀ j, j < nCn r.k → ((puX g (j + 1) : Nat) : Int) = nVl r j := fun j hj => by rw [b3 (j + 1) (by omega)]; rfl
  have hz := hok.2.2
  clear hat q1 q2 q3 p1 hbd hle htx h3 hx hg
  obtain ⟨k, i, t, m, a, b, e⟩ := r
  unfold kd at hkd
  simp only at *
  unfold dcK dcR
  rcases hkd with rfl | rfl | rfl
  · have hk1 : puX g 0 = 1 := by omega
    rw [if_neg (by omega), hk1]
    have ha := hnum 0 (by decide)
    have hb := hnum 1 (by decide)
    refine ⟨⟨.inl rfl, b1, fun h => by omega⟩, ?_⟩
    simp [fdB, zrE, zr, nCn] at hz
    obtain ⟨z1, z2, z3, z4, z5, z6, z7⟩ := hz
    refine ⟨rfl, z1.symm, z2.symm, z3.symm, ha, hb, ⟨z4.symm, z5.symm, z6.symm, z7.symm, fun i hi => absurd hi (by show ¬ i < 0; omega), fun i hi => absurd hi (by show ¬ i < 0; omega)⟩⟩
  · have hk1 : puX g 0 = 2 := by omega
    rw [if_pos (by omega), hk1]
    have hi := hnum 0 (by decide)
    simp [fdB, zrE, zr, nCn] at hz
    obtain ⟨z1, z2, ⟨z3, z4⟩, -⟩ := hz
    have hB := h.bd rfl
    simp only at hB
    obtain ⟨hc, hl⟩ := rcE_ok hE rfl
    simp only at hc hl
    have hLL : rcL { k := 2, i := i, t := t, n := m, a := a, b := b, e := e } = nuL (rcX { k := 2, i := i, t := t, n := m, a := a, b := b, e := e }) 2 + txL (enL e) := rfl
    have hFF : rcF { k := 2, i := i, t := t, n := m, a := a, b := b, e := e } = catF (nuL (rcX { k := 2, i := i, t := t, n := m, a := a, b := b, e := e }) 2) (nuF (rcX { k := 2, i := i, t := t, n := m, a := a, b := b, e := e }) 2) (txF (enL e) (enF e)) := rfl
    have hb2 : puO g 2 = nuL (rcX { k := 2, i := i, t := t, n := m, a := a, b := b, e := e }) 2 := b2
    rw [hLL, hFF] at q4
    have q5 := cat_right q4
    rw [← hb2] at q5 hLL
    obtain ⟨p1, p2, p3, p4⟩ := back_tx (n := rcL { k := 2, i := i, t := t, n := m, a := a, b := b, e := e } - puO g 2) (by omega) hl q5
    rw [offF_offF] at p4
    have hbt : ∀ j, -9223372036854775808 ≤ th2 e.t e.k j ∧ th2 e.t e.k j < 9223372036854775808 := fun j => by unfold th2; split; exact hB.t; exact hB.k
    have hT : dcT g (puO g 2) = enL e := p2
    obtain ⟨e1, e2, e3, e4, e5, e6, e7⟩ := back_ent (f := dcF g (puO g 2)) (m := enL e) hc hbt hB.x rfl (fun j hj => p4 j hj)
    refine ⟨⟨.inr (.inl rfl), b1, fun _ => ⟨p1, by rw [hT]; exact e1⟩⟩, rfl, hi, z1.symm, z2.symm, z3.symm, z4.symm, ⟨e2, e3, e4, e5, fun j hj => ?_, fun j hj => ?_⟩⟩
    · exact e6 j (by rw [← e4]; exact hj)
    · exact e7 j (by rw [← e5]; exact hj)
  · have hk1 : puX g 0 = 3 := by omega
    rw [if_neg (by omega), hk1]
    have h1 := hnum 0 (by decide)
    have h2 := hnum 1 (by decide)
    have h3 := hnum 2 (by decide)
    refine ⟨⟨.inr (.inr rfl), b1, fun h => by omega⟩, ?_⟩
    simp [fdB, zrE, zr, nCn] at hz
    obtain ⟨⟨z1, z2⟩, z4, z5, z6, z7⟩ := hz
    exact ⟨rfl, h1, h2, h3, z1.symm, z2.symm, ⟨z4.symm, z5.symm, z6.symm, z7.symm, fun i hi => absurd hi (by show ¬ i < 0; omega), fun i hi => absurd hi (by show ¬ i < 0; omega)⟩⟩
/-- what stands at the front is read, and is one alone -/
theorem stands_fs {n : Nat} {f : Bf} {r : Rc} (h : Stands n f r) : fsK n f ∧ rcEq (fsR f) r := by
  obtain ⟨h1, h2, -, -⟩ := stands_back h
  obtain ⟨e1, e2, e3⟩ := h2.put
  exact ⟨⟨h1, e1.trans h.ok, by rw [e2]; exact h.le, fun i hi => by rw [e3 i hi]; exact h.at_ i (by rw [← e2]; exact hi)⟩, h2⟩
theorem fs_stands {n : Nat} {f : Bf} (h : fsK n f) : Stands n f (fsR f) := ⟨dc_bd h.1.2, h.2.1, h.2.2.1, h.2.2.2⟩
theorem stands_one {n n' : Nat} {f : Bf} {r r' : Rc} (h : Stands n f r) (h' : Stands n' f r') : rcEq r r' := (stands_fs h).2.symm.trans (stands_fs h').2
theorem stands_congr {n : Nat} {f g : Bf} {r : Rc} (h : Stands n f r) (e : ∀ i, i < pcL r → g i = f i) : Stands n g r := ⟨h.bd, h.ok, h.le, fun i hi => (e i hi).trans (h.at_ i hi)⟩
theorem pcL_pos (r : Rc) : 5 ≤ pcL r := by unfold pcL frL txL; have := encL_pos (rcL r); omega
end Go.Proofs.YtdfcldomjjcidaaGreatDoor.Oct
