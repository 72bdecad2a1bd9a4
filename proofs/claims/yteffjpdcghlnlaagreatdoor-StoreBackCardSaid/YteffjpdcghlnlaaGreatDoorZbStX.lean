import Derived.Test.YteffjpdcghlnlaaGreatDoorZbMat
import Derived.Test.YteffjpdcghlnlaaGreatDoorZbMm
import Derived.Test.YteffjpdcghlnlaaGreatDoorZbEvM
import Derived.Test.YteffjpdcghlnlaaGreatDoorZbWiAll
set_option linter.unusedVariables false
set_option linter.unusedSimpArgs false
namespace Go.Proofs.YteffjpdcghlnlaaGreatDoor.Oct
structure Sx where
 d : St
 n : Int
 K : Ks
 l : List Se
 g : Int
structure Cm where
 k : Int
 s : Int
 q : Int
 i : Int
 n : Int
 T : Nat
 f : Bf
 U : Nat
 h : Bf
structure Rp where
 c : Int
 n : Int
 m : Int
 T : Nat
 f : Bf
def rpE (e : Int) : Rp := ⟨e, 0, 0, 0, fun _ => 0#8⟩
def rpO (e : Int) (r : Rp) : Rp := if e = 0 then r else rpE e
def drM (d : St) : Bf := drwF d (fun _ => 0#8) 0
def drD (d : St) : St := drwS d 32 (fun _ => 0#8) 0
def exR (x : Sx) (c : Cm) : Rp :=
 if c.k = 3 then rpO (crE x.K) ⟨0, crN x.K, 1, 0, fun _ => 0#8⟩
 else if c.k = 4 then rpO (rtE x.K c.i) ⟨0, c.i, rtN x.K c.i, 0, fun _ => 0#8⟩
 else if c.k = 5 then rpE (swE x.K c.i)
 else if c.k = 6 then rpE (dsE x.K c.i c.n)
 else if c.k = 7 then rpO (ecE x.K c.i c.T c.U) ⟨0, c.i, enV x.K c.i c.T c.U, enL x.K c.i c.T c.U, enF x.K c.i c.f c.T c.h c.U⟩
 else if c.k = 8 then rpO (dcE x.K c.T c.f c.h c.U) ⟨0, 0, 0, dcL x.K c.T c.f c.h c.U, dcF x.K c.T c.f⟩
 else if c.k = 9 then rpO (rwE x.K c.T c.f c.h c.U) ⟨0, 0, rwV x.K c.T c.f c.h c.U, rwL x.K c.T c.f c.h c.U, rwF x.K c.T c.f c.h c.U⟩
 else rpE 0
def exK (x : Sx) (c : Cm) : Ks :=
 if c.k = 3 then crK x.K (drM x.d)
 else if c.k = 4 then rtK x.K c.i (drM x.d)
 else if c.k = 5 then swK x.K c.i (decide (c.n = 1))
 else if c.k = 6 then dsK x.K c.i c.n
 else if c.k = 7 then enK x.K c.i c.T c.U
 else if c.k = 9 then rwK x.K c.T c.f c.h c.U
 else x.K
def exD (x : Sx) (c : Cm) : St := if c.k = 3 ∨ c.k = 4 then drD x.d else if c.k = 10 then updS x.d c.f c.T else x.d
def exC (x : Sx) (c : Cm) : Int := if c.k = 3 ∨ c.k = 4 then x.n + 1 else if c.k = 10 then 1 else x.n
def exS (x : Sx) (c : Cm) : Se := ⟨c.s, c.q, (exR x c).c, (exR x c).n, (exR x c).m, (exR x c).T, (exR x c).f⟩
def seR (s : Se) : Rp := ⟨s.c, s.n, s.m, s.T, s.f⟩
def apR (x : Sx) (c : Cm) : Rp :=
 if chkE c.k c.s c.q c.i c.n c.T c.U ≠ 0 then rpE 1
 else if c.k = 1 then ⟨opE x.l x.g, opN x.l x.g, 0, 0, fun _ => 0#8⟩
 else if c.k = 2 then rpE (exE x.l c.i)
 else if akE x.l c.s c.q ≠ 0 then rpE (akE x.l c.s c.q)
 else if akB x.l c.s c.q = true then seR (akS x.l c.s c.q)
 else exR x c
def apX (x : Sx) (c : Cm) : Sx :=
 if chkE c.k c.s c.q c.i c.n c.T c.U ≠ 0 then x
 else if c.k = 1 then ⟨x.d, x.n, x.K, opSe x.l x.g, opG x.l x.g⟩
 else if c.k = 2 then ⟨x.d, x.n, x.K, ssX x.l c.i, x.g⟩
 else if akE x.l c.s c.q ≠ 0 then x
 else if akB x.l c.s c.q = true then x
 else ⟨exD x c, exC x c, exK x c, dnL x.l (exS x c), x.g⟩
theorem ssG_hit {l : List Se} {x : Se} (h : ssH l x.id = true) : ssG (ssD l x) x.id = some x := by
 have h1 : ssH (ssD l x) x.id = true := by rw [ssH_D l x h]; exact h
 rw [ssH_G] at h1
 obtain ⟨s, hs⟩ := Option.isSome_iff_exists.1 h1
 rcases ssG_D hs with ⟨-, e⟩ | ⟨e, -⟩
 ·rw [hs, e]
 ·exact absurd rfl e
theorem ak_new {l : List Se} {id q : Int} (h0 : akE l id q = 0) (h1 : akB l id q = false) : ∃ s, ssG l id = some s ∧ s.q < q ∧ 1 ≤ q ∧ ssH l id = true := by
 unfold akE at h0
 unfold akB at h1
 cases e : ssG l id with
 | none => rw [e] at h0; simp at h0
 | some s =>
  rw [e] at h0 h1
  have h0 : (if q < s.q ∨ q < 1 then (151 : Int) else 0) = 0 := h0
  have h2 : ¬ (q < s.q ∨ q < 1) := fun hh => by rw [if_pos hh] at h0; omega
  have h3 := of_decide_eq_false h1
  exact ⟨s, rfl, by omega, by omega, by rw [ssH_G, e]; rfl⟩
theorem dn_new {l : List Se} {x : Se} (h0 : akE l x.id x.q = 0) (h1 : akB l x.id x.q = false) : dnE l x.id x.q = 0 ∧ dnL l x = ssD l x := by
 obtain ⟨s, hs, hq, -, -⟩ := ak_new h0 h1
 have e : dnE l x.id x.q = 0 := by
  unfold dnE
  rw [hs]
  exact if_neg (by omega)
 exact ⟨e, by unfold dnL; rw [if_pos e]⟩
theorem ak_again {l : List Se} {x : Se} (h : ssH l x.id = true) (hq : 1 ≤ x.q) : akE (ssD l x) x.id x.q = 0 ∧ akB (ssD l x) x.id x.q = true ∧ akS (ssD l x) x.id x.q = x := by
 have e := ssG_hit h
 have hn : ¬ (x.q < x.q ∨ x.q < 1) := by omega
 unfold akE akB akS
 rw [e]
 exact ⟨if_neg hn, decide_eq_true ⟨hn, rfl⟩, if_pos ⟨hn, rfl⟩⟩
theorem ap_again (x : Sx) (c : Cm) (h1 : c.k ≠ 1) (h2 : c.k ≠ 2) : apR (apX x c) c = apR x c ∧ apX (apX x c) c = apX x c := by
 by_cases hc : chkE c.k c.s c.q c.i c.n c.T c.U ≠ 0
 ·unfold apX apR
  simp only [if_pos hc, and_self]
 by_cases ha : akE x.l c.s c.q ≠ 0
 ·have e : apX x c = x := by unfold apX; rw [if_neg hc, if_neg h1, if_neg h2, if_pos ha]
  rw [e]
  exact ⟨rfl, e⟩
 cases hb : akB x.l c.s c.q with
 | true =>
  have e : apX x c = x := by unfold apX; rw [if_neg hc, if_neg h1, if_neg h2, if_neg ha, if_pos hb]
  rw [e]
  exact ⟨rfl, e⟩
 | false =>
  have ha' : akE x.l c.s c.q = 0 := by simpa using ha
  obtain ⟨s, -, -, hq, hh⟩ := ak_new ha' hb
  have hd := (dn_new (x := exS x c) ha' hb).2
  have e : apX x c = ⟨exD x c, exC x c, exK x c, ssD x.l (exS x c), x.g⟩ := by
   unfold apX
   rw [if_neg hc, if_neg h1, if_neg h2, if_neg ha, if_neg (by rw [hb]; decide), hd]
  have er : apR x c = exR x c := by unfold apR; rw [if_neg hc, if_neg h1, if_neg h2, if_neg ha, if_neg (by rw [hb]; decide)]
  obtain ⟨a1, a2, a3⟩ := ak_again (x := exS x c) hh hq
  have a1' : akE (ssD x.l (exS x c)) c.s c.q = 0 := a1
  have a2' : akB (ssD x.l (exS x c)) c.s c.q = true := a2
  have a3' : akS (ssD x.l (exS x c)) c.s c.q = exS x c := a3
  rw [e, er]
  refine ⟨?_, ?_⟩
  ·unfold apR
   rw [if_neg hc, if_neg h1, if_neg h2, if_neg (by rw [a1']; decide), if_pos a2', a3']
   rfl
  ·unfold apX
   rw [if_neg hc, if_neg h1, if_neg h2, if_neg (by rw [a1']; decide), if_pos a2']
structure SxOk (x : Sx) : Prop where
 K : okK x.K
 T : SsOk x.l x.g
 c : 1 ≤ x.n
theorem enT_le {K : Ks} {id : Int} {L S : Nat} : enL K id L S ≤ 110 := by
 unfold enL
 by_cases h : ecE K id L S = 0
 ·rw [if_pos h]
  have hL : L ≤ 64 := by
   unfold ecE at h
   by_cases hh : 64 < L ∨ 32 < S
   ·rw [if_pos hh] at h; omega
   ·omega
  have := hdL_le id.toNat (usV K id).toNat
  unfold blL
  omega
 ·rw [if_neg h]; omega
theorem dcT_le {K : Ks} {n : Nat} {f s : Bf} {S : Nat} : dcL K n f s S ≤ 64 := by
 unfold dcL
 by_cases h : dcE K n f s S = 0
 ·rw [if_pos h]
  have := @rdL_le n f
  omega
 ·rw [if_neg h]; omega
theorem rwT_le {K : Ks} {n : Nat} {f s : Bf} {S : Nat} : rwL K n f s S ≤ 110 := by
 unfold rwL
 by_cases h : dcE K n f s S = 0
 ·rw [if_pos h]; exact enT_le
 ·rw [if_neg h]; omega
theorem rwX_ok {K : Ks} {n : Nat} {f s : Bf} {S : Nat} (h : okK K) : okK (rwK K n f s S) := by
 unfold rwK
 by_cases e : dcE K n f s S = 0
 ·rw [if_pos e]; exact enK_ok h
 ·rw [if_neg e]; exact h
theorem rpO_T {e : Int} {r : Rp} {n : Nat} (h : r.T ≤ n) : (rpO e r).T ≤ n := by
 unfold rpO
 by_cases he : e = 0
 ·rw [if_pos he]; exact h
 ·rw [if_neg he]; exact Nat.zero_le _
theorem exR_T (x : Sx) (c : Cm) : (exR x c).T ≤ 110 := by
 unfold exR
 repeat' split
 all_goals first
  | exact rpO_T (Nat.zero_le _)
  | exact rpO_T enT_le
  | exact rpO_T (Nat.le_trans dcT_le (by omega))
  | exact rpO_T rwT_le
  | exact Nat.zero_le _
theorem exK_ok {x : Sx} {c : Cm} (h : okK x.K) : okK (exK x c) := by
 unfold exK
 repeat' split
 all_goals first
  | exact crK_ok h _
  | exact rtK_ok h _
  | exact swK_ok h _
  | exact dsK_ok h
  | exact enK_ok h
  | exact rwX_ok h
  | exact h
theorem exC_ok {x : Sx} {c : Cm} (h : 1 ≤ x.n) : 1 ≤ exC x c ∧ exC x c ≤ x.n + 1 := by
 unfold exC
 repeat' split
 all_goals omega
theorem apX_ok {x : Sx} {c : Cm} (h : SxOk x) : SxOk (apX x c) := by
 unfold apX
 repeat' split
 ·exact h
 ·exact ⟨h.K, h.T.opn, h.c⟩
 ·exact ⟨h.K, h.T.drop _, h.c⟩
 ·exact h
 ·exact h
 ·exact ⟨exK_ok h.K, h.T.dn _ (Nat.le_trans (exR_T x c) (by omega)), (exC_ok h.c).1⟩
theorem apX_n {x : Sx} {c : Cm} (h : 1 ≤ x.n) : (apX x c).n ≤ x.n + 1 := by
 unfold apX
 repeat' split
 all_goals first
  | exact (exC_ok h).2
  | exact Int.le_add_one (Int.le_refl _)
def cdB (e : Int) : Prop := e = 0 ∨ e = 2 ∨ e = 3 ∨ e = 40 ∨ (130 ≤ e ∧ e ≤ 134) ∨ e = 140
theorem cdB_no {e : Int} (h : cdB e) : e ≠ 1 ∧ e ≠ 150 ∧ e ≠ 151 ∧ 0 ≤ e ∧ e ≤ 140 := by unfold cdB at h; omega
theorem crE_cd {K : Ks} : cdB (crE K) := by
 unfold crE
 repeat' split
 all_goals (unfold cdB; omega)
theorem rtE_cd {K : Ks} {id : Int} : cdB (rtE K id) := by
 unfold rtE
 repeat' split
 all_goals (unfold cdB; omega)
theorem swE_cd {K : Ks} {id : Int} : cdB (swE K id) := by
 unfold swE
 repeat' split
 all_goals (unfold cdB; omega)
theorem dsE_cd {K : Ks} {id v : Int} : cdB (dsE K id v) := by
 unfold dsE
 repeat' split
 all_goals (unfold cdB; omega)
theorem usE_cd {K : Ks} {id : Int} : cdB (usE K id) := by
 unfold usE
 repeat' split
 all_goals (unfold cdB; omega)
theorem mtE_cd {K : Ks} {id v : Int} : cdB (mtE K id v) := by
 unfold mtE
 repeat' split
 all_goals (unfold cdB; omega)
theorem opC_cd {k n s : Bf} {ns : Nat} {b : Bf} {L : Nat} : cdB (opC k n s ns b L) := by
 unfold opC
 repeat' split
 all_goals (unfold cdB; omega)
theorem ecE_cd {K : Ks} {id : Int} {L S : Nat} : cdB (ecE K id L S) := by
 unfold ecE
 split
 ·unfold cdB; omega
 ·exact usE_cd
theorem dcE_cd {K : Ks} {n : Nat} {f s : Bf} {S : Nat} : cdB (dcE K n f s S) := by
 unfold dcE
 repeat' split
 ·unfold cdB; omega
 ·unfold cdB; omega
 ·exact opC_cd
 ·exact mtE_cd
theorem rwE_cd {K : Ks} {n : Nat} {f s : Bf} {S : Nat} : cdB (rwE K n f s S) := by
 unfold rwE
 split
 ·exact ecE_cd
 ·exact dcE_cd
theorem rpO_c {e : Int} {r : Rp} (h : cdB e) (hr : cdB r.c) : cdB (rpO e r).c := by
 unfold rpO
 split
 ·exact hr
 ·exact h
theorem exR_cd (x : Sx) (c : Cm) : cdB (exR x c).c := by
 unfold exR
 repeat' split
 ·exact rpO_c crE_cd (.inl rfl)
 ·exact rpO_c rtE_cd (.inl rfl)
 ·exact swE_cd
 ·exact dsE_cd
 ·exact rpO_c ecE_cd (.inl rfl)
 ·exact rpO_c dcE_cd (.inl rfl)
 ·exact rpO_c rwE_cd (.inl rfl)
 ·exact .inl rfl
def nmB (r : Rp) : Prop := 0 ≤ r.n ∧ r.n ≤ 9 ∧ 0 ≤ r.m ∧ r.m ≤ 9
theorem nmB_mk {e n m : Int} {T : Nat} {f : Bf} (h : 0 ≤ n ∧ n ≤ 9 ∧ 0 ≤ m ∧ m ≤ 9) : nmB ⟨e, n, m, T, f⟩ := h
theorem rpE_nm (e : Int) : nmB (rpE e) := nmB_mk (by omega)
theorem rpO_nm {e : Int} {r : Rp} (h : e = 0 → nmB r) : nmB (rpO e r) := by
 unfold rpO
 split
 ·rename_i he; exact h he
 ·exact rpE_nm _
theorem has_bd {K : Ks} {id : Int} (ok : okK K) (h : hasK K id = true) : 1 ≤ id ∧ id ≤ 8 := by
 have := hasK_iff.1 h
 have := ok.1
 omega
theorem rtE_has {K : Ks} {id : Int} (h : rtE K id = 0) : hasK K id = true ∧ (rgAt K id).l.length < 4 := by
 unfold rtE at h
 by_cases h1 : hasK K id = true
 ·rw [if_pos h1] at h
  by_cases h2 : 4 ≤ (rgAt K id).l.length
  ·rw [if_pos h2] at h; omega
  ·exact ⟨h1, by omega⟩
 ·rw [if_neg h1] at h; omega
theorem ecE_us {K : Ks} {id : Int} {L S : Nat} (h : ecE K id L S = 0) : usE K id = 0 := by
 unfold ecE at h
 split at h
 ·omega
 ·exact h
theorem enV_bd {K : Ks} {id : Int} {L S : Nat} (ok : okK K) : 0 ≤ enV K id L S ∧ enV K id L S ≤ 9 := by
 unfold enV
 split
 ·rename_i h
  obtain ⟨i, V, C, -, e, -, -, -, -, h1, -⟩ := us_nat (ecE_us h) ok
  rw [e]
  omega
 ·omega
theorem exR_nm {x : Sx} (c : Cm) (ok : okK x.K) : nmB (exR x c) := by
 unfold exR
 repeat' split
 ·refine rpO_nm fun _ => ?_
  refine nmB_mk ?_
  unfold crN
  have := ok.1
  split <;> omega
 ·refine rpO_nm fun h => ?_
  obtain ⟨h1, h2⟩ := rtE_has h
  have := has_bd ok h1
  show 0 ≤ c.i ∧ c.i ≤ 9 ∧ 0 ≤ rtN x.K c.i ∧ rtN x.K c.i ≤ 9
  unfold rtN
  rw [if_pos h]
  omega
 ·exact rpE_nm _
 ·exact rpE_nm _
 ·refine rpO_nm fun h => ?_
  have := has_bd ok (usE_zero (ecE_us h)).1
  have := @enV_bd x.K c.i c.T c.U ok
  exact nmB_mk (by omega)
 ·exact rpO_nm fun _ => nmB_mk (by omega)
 ·refine rpO_nm fun _ => ?_
  show 0 ≤ (0 : Int) ∧ (0 : Int) ≤ 9 ∧ 0 ≤ rwV x.K c.T c.f c.h c.U ∧ rwV x.K c.T c.f c.h c.U ≤ 9
  unfold rwV
  split
  ·have := @enV_bd x.K (dcI x.K c.T c.f c.h c.U) (dcL x.K c.T c.f c.h c.U) c.U ok
   omega
  ·omega
 ·exact rpE_nm _
theorem chk_q {k s q i n : Int} {T U : Nat} (h : chkE k s q i n T U = 0) : q ≤ 1099511627776 := by
 have h' : chkB k s q i n T U = true := by unfold chkE at h; cases hb : chkB k s q i n T U with
  | true => rfl
  | false => rw [hb] at h; simp at h
 have hk : kiB k = true := by unfold chkB at h'; cases hb : kiB k with
  | true => rfl
  | false => rw [hb] at h'; simp at h'
 have hcase : k = 1 ∨ k = 2 ∨ k = 3 ∨ k = 4 ∨ k = 5 ∨ k = 6 ∨ k = 7 ∨ k = 8 ∨ k = 9 ∨ k = 10 := by unfold kiB at hk; simp at hk; omega
 clear h hk
 rcases hcase with rfl | rfl | rfl | rfl | rfl | rfl | rfl | rfl | rfl | rfl
 all_goals
  simp [chkB, kiB, fitB, inB, sh, shN] at h'
  omega
structure SdOk (s : Se) : Prop where
 c : cdB s.c
 nm : nmB (seR s)
 T : s.T ≤ 110
 q0 : 0 ≤ s.q
 q1 : s.q ≤ 1099511627776
 z : s.q = 0 → s.c = 0 ∧ s.n = 0 ∧ s.m = 0 ∧ s.T = 0
theorem SdOk.new (id : Int) : SdOk (Se.new id) := ⟨.inl rfl, nmB_mk (by show 0 ≤ (0 : Int) ∧ (0 : Int) ≤ 9 ∧ 0 ≤ (0 : Int) ∧ (0 : Int) ≤ 9; omega), Nat.zero_le _, Int.le_refl 0, by show (0 : Int) ≤ _; omega, fun _ => ⟨rfl, rfl, rfl, rfl⟩⟩
theorem apX_sd {x : Sx} {c : Cm} (h : SxOk x) (hs : ∀ s ∈ x.l, SdOk s) : ∀ s ∈ (apX x c).l, SdOk s := by
 unfold apX
 by_cases hc : chkE c.k c.s c.q c.i c.n c.T c.U ≠ 0
 ·rw [if_pos hc]; exact hs
 rw [if_neg hc]
 have hc0 : chkE c.k c.s c.q c.i c.n c.T c.U = 0 := by omega
 by_cases h1 : c.k = 1
 ·rw [if_pos h1]
  show ∀ s ∈ opSe x.l x.g, SdOk s
  unfold opSe
  split
  ·exact hs
  ·intro s hm
   rcases List.mem_append.1 hm with hm | hm
   ·exact hs s hm
   ·rw [List.mem_singleton] at hm
    subst hm
    exact SdOk.new _
 rw [if_neg h1]
 by_cases h2 : c.k = 2
 ·rw [if_pos h2]
  exact fun s hm => hs s (List.mem_filter.1 hm).1
 rw [if_neg h2]
 by_cases ha : akE x.l c.s c.q ≠ 0
 ·rw [if_pos ha]; exact hs
 rw [if_neg ha]
 cases hb : akB x.l c.s c.q with
 | true => rw [if_pos rfl]; exact hs
 | false =>
  rw [if_neg (by decide)]
  obtain ⟨-, -, -, hq, -⟩ := ak_new (by omega) hb
  show ∀ s ∈ dnL x.l (exS x c), SdOk s
  unfold dnL
  split
  ·intro s hm
   rcases ssD_mem hm with rfl | ⟨hm, -⟩
   ·refine ⟨exR_cd x c, exR_nm c h.K, exR_T x c, ?_, chk_q hc0, fun hz => ?_⟩
    ·show 0 ≤ c.q; omega
    ·have hz : c.q = 0 := hz
     omega
   ·exact hs s hm
  ·exact hs
def eN (v : Nat) : By := bl (encL v) (encF v)
def eT (n : Nat) (f : Bf) : By := eN n ++ bl n f
def eB (b : Bool) : By := eN (if b = true then 1 else 0)
def eVe (v : Ve) : By := eT 32 v.m ++ (eN v.u.toNat ++ eB v.g)
def eRg (r : Rg) : By := eB r.off ++ (eN r.l.length ++ r.l.flatMap eVe)
def eRp (r : Rp) : By := eN r.c.toNat ++ (eN r.n.toNat ++ (eN r.m.toNat ++ eT r.T r.f))
def eSe (s : Se) : By := eN s.id.toNat ++ (eN s.q.toNat ++ eRp (seR s))
def eSx (x : Sx) : By := eT 32 x.d.1 ++ (eT 32 x.d.2 ++ (eN x.n.toNat ++ (eN x.K.length ++ (x.K.flatMap eRg ++ (eN (x.g + 1).toNat ++ (eN x.l.length ++ x.l.flatMap eSe))))))
abbrev u63 (n : Nat) : Prop := n < 9223372036854775808
abbrev i63 (x : Int) : Prop := 0 ≤ x ∧ x < 9223372036854775808
theorem eN_head (a : Nat) (r : By) (ha : u63 a) : tkV (lf (eN a ++ r)) = a := by
 have hl : (eN a).length = encL a := bl_len _ _
 refine (tk_enc a ha (eN a ++ r).length (lf (eN a ++ r)) (by rw [List.length_append, hl]; omega) fun i hi => ?_).2.1
 rw [lf_app, hl]
 unfold catF
 rw [if_pos hi]
 exact lf_bl _ _ _ hi
theorem eN_app {a b : Nat} {r r' : By} (ha : u63 a) (hb : u63 b) (h : eN a ++ r = eN b ++ r') : a = b ∧ r = r' := by
 have h1 := eN_head a r ha
 rw [h, eN_head b r' hb] at h1
 subst h1
 exact ⟨rfl, List.append_cancel_left h⟩
theorem eI_app {a b : Int} {r r' : By} (ha : i63 a) (hb : i63 b) (h : eN a.toNat ++ r = eN b.toNat ++ r') : a = b ∧ r = r' := by
 obtain ⟨e, hr⟩ := eN_app (by omega) (by omega) h
 exact ⟨by omega, hr⟩
theorem eB_app {a b : Bool} {r r' : By} (h : eB a ++ r = eB b ++ r') : a = b ∧ r = r' := by
 unfold eB at h
 obtain ⟨e, hr⟩ := eN_app (by split <;> omega) (by split <;> omega) h
 exact ⟨by cases a <;> cases b <;> simp_all, hr⟩
theorem bl_app {n : Nat} {f g : Bf} {r r' : By} (h : bl n f ++ r = bl n g ++ r') : (∀ i, i < n → f i = g i) ∧ r = r' := by
 obtain ⟨h1, h2⟩ := List.append_inj h (by rw [bl_len, bl_len])
 exact ⟨fun i hi => by rw [← lf_bl n f i hi, h1, lf_bl n g i hi], h2⟩
theorem eT_app {n m : Nat} {f g : Bf} {r r' : By} (hn : u63 n) (hm : u63 m) (h : eT n f ++ r = eT m g ++ r') : n = m ∧ (∀ i, i < n → f i = g i) ∧ r = r' := by
 unfold eT at h
 rw [List.append_assoc, List.append_assoc] at h
 obtain ⟨rfl, h⟩ := eN_app hn hm h
 obtain ⟨h1, h2⟩ := bl_app h
 exact ⟨rfl, h1, h2⟩
def all2 {α : Type} (R : α → α → Prop) : List α → List α → Prop
 | [], [] => True
 | a :: l, b :: m => R a b ∧ all2 R l m
 | _, _ => False
theorem all2_len {α : Type} {R : α → α → Prop} : ∀ {l m : List α}, all2 R l m → l.length = m.length
 | [], [], _ => rfl
 | a :: l, b :: m, h => by rw [List.length_cons, List.length_cons, all2_len h.2]
 | [], b :: m, h => h.elim
 | a :: l, [], h => h.elim
theorem all2_get {α : Type} {R : α → α → Prop} : ∀ {l m : List α}, all2 R l m → ∀ i (h : i < l.length) (h' : i < m.length), R l[i] m[i]
 | a :: l, b :: m, h, 0, _, _ => h.1
 | a :: l, b :: m, h, i + 1, h1, h2 => all2_get h.2 i (by simpa using h1) (by simpa using h2)
 | [], _, _, i, h1, _ => absurd h1 (by simp)
 | a :: l, [], h, _, _, _ => h.elim
theorem fm_app {α : Type} {e : α → By} {R : α → α → Prop} {P : α → Prop} (he : ∀ a b r r', P a → P b → e a ++ r = e b ++ r' → R a b ∧ r = r') :
  ∀ (l m : List α) (r r' : By), l.length = m.length → (∀ a ∈ l, P a) → (∀ b ∈ m, P b) → l.flatMap e ++ r = m.flatMap e ++ r' → all2 R l m ∧ r = r'
 | [], [], r, r', _, _, _, h => ⟨trivial, by simpa using h⟩
 | a :: l, b :: m, r, r', hl, h1, h2, h => by
  rw [List.flatMap_cons, List.flatMap_cons, List.append_assoc, List.append_assoc] at h
  obtain ⟨hr, h⟩ := he a b _ _ (h1 a (List.mem_cons_self ..)) (h2 b (List.mem_cons_self ..)) h
  obtain ⟨h3, h4⟩ := fm_app he l m r r' (by simpa using hl) (fun x hx => h1 x (List.mem_cons_of_mem _ hx)) (fun x hx => h2 x (List.mem_cons_of_mem _ hx)) h
  exact ⟨⟨hr, h3⟩, h4⟩
 | [], b :: m, _, _, hl, _, _, _ => by simp at hl
 | a :: l, [], _, _, hl, _, _, _ => by simp at hl
def veS (a b : Ve) : Prop := (∀ i, i < 32 → a.m i = b.m i) ∧ a.u = b.u ∧ a.g = b.g
def rgS (a b : Rg) : Prop := a.off = b.off ∧ all2 veS a.l b.l
def rpS (a b : Rp) : Prop := a.c = b.c ∧ a.n = b.n ∧ a.m = b.m ∧ a.T = b.T ∧ ∀ i, i < a.T → a.f i = b.f i
def seS (a b : Se) : Prop := a.id = b.id ∧ a.q = b.q ∧ rpS (seR a) (seR b)
structure SxS (a b : Sx) : Prop where
 k : ∀ i, i < 32 → a.d.1 i = b.d.1 i
 v : ∀ i, i < 32 → a.d.2 i = b.d.2 i
 n : a.n = b.n
 K : all2 rgS a.K b.K
 l : all2 seS a.l b.l
 g : a.g = b.g
def rpW (r : Rp) : Prop := i63 r.c ∧ i63 r.n ∧ i63 r.m ∧ u63 r.T
def seW (s : Se) : Prop := i63 s.id ∧ i63 s.q ∧ rpW (seR s)
structure SxW (x : Sx) : Prop where
 n : i63 x.n
 K : okK x.K
 L : u63 x.l.length
 l : ∀ s ∈ x.l, seW s
 g : i63 (x.g + 1)
theorem eRp_app (a b : Rp) (r r' : By) (ha : rpW a) (hb : rpW b) (h : eRp a ++ r = eRp b ++ r') : rpS a b ∧ r = r' := by
 unfold eRp at h
 simp only [List.append_assoc] at h
 obtain ⟨a1, a2, a3, a4⟩ := ha
 obtain ⟨b1, b2, b3, b4⟩ := hb
 obtain ⟨e1, h⟩ := eI_app a1 b1 h
 obtain ⟨e2, h⟩ := eI_app a2 b2 h
 obtain ⟨e3, h⟩ := eI_app a3 b3 h
 obtain ⟨e4, e5, h⟩ := eT_app a4 b4 h
 exact ⟨⟨e1, e2, e3, e4, e5⟩, h⟩
theorem eSe_app (a b : Se) (r r' : By) (ha : seW a) (hb : seW b) (h : eSe a ++ r = eSe b ++ r') : seS a b ∧ r = r' := by
 unfold eSe at h
 simp only [List.append_assoc] at h
 obtain ⟨e1, h⟩ := eI_app ha.1 hb.1 h
 obtain ⟨e2, h⟩ := eI_app ha.2.1 hb.2.1 h
 obtain ⟨e3, h⟩ := eRp_app _ _ _ _ ha.2.2 hb.2.2 h
 exact ⟨⟨e1, e2, e3⟩, h⟩
theorem SxOk.wr {x : Sx} (h : SxOk x) (hs : ∀ s ∈ x.l, SdOk s) (hn : x.n < 9223372036854775808) : SxW x := by
 have h0 := h.T.g0
 have h1 := h.T.g1
 have h2 := h.T.n
 have h3 := h.c
 refine ⟨⟨by omega, hn⟩, h.K, by omega, fun s hm => ?_, ⟨by omega, by omega⟩⟩
 have a := h.T.bd s hm
 have b := hs s hm
 have c := cdB_no b.c
 have d := b.nm
 have e := b.q0
 have f := b.q1
 have g := b.T
 unfold nmB seR at d
 have d : 0 ≤ s.n ∧ s.n ≤ 9 ∧ 0 ≤ s.m ∧ s.m ≤ 9 := d
 exact ⟨⟨by omega, by omega⟩, ⟨by omega, by omega⟩, ⟨by show 0 ≤ s.c; omega, by show s.c < _; omega⟩, ⟨by show 0 ≤ s.n; omega, by show s.n < _; omega⟩, ⟨by show 0 ≤ s.m; omega, by show s.m < _; omega⟩, by show s.T < _; omega⟩
theorem bl_cat (a b : Nat) (F G : Bf) : bl (a + b) (catF a F G) = bl a F ++ bl b G := by
 refine lf_inj (by simp) fun i hi => ?_
 rw [bl_len] at hi
 rw [lf_bl _ _ _ hi, lf_app, bl_len]
 unfold catF
 by_cases h : i < a
 ·rw [if_pos h, if_pos h, lf_bl _ _ _ h]
 ·rw [if_neg h, if_neg h, lf_bl _ _ _ (by omega)]
theorem bl_zero (F : Bf) : bl 0 F = [] := rfl
theorem lf_drop (l : By) (k i : Nat) : lf (l.drop k) i = offF (lf l) k i := by
 unfold lf offF
 simp only [List.getD_eq_getElem?_getD, List.getElem?_drop]
theorem eT_bl (n : Nat) (f : Bf) : eT n f = bl (txL n) (txF n f) := by unfold eT eN txL txF; rw [bl_cat]
theorem cu_bl (L : Nat → Nat) (F : Nat → Bf) (j : Nat) : bl (cuL L (j + 1)) (cuF L F (j + 1)) = bl (cuL L j) (cuF L F j) ++ bl (L j) (F j) := bl_cat _ _ _ _
theorem eRp_bl (r : Rp) : eRp r = bl (repL r.c r.n r.m r.T) (repF r.c r.n r.m r.T r.f) := by
 unfold repL repF
 rw [bl_cat, ← eT_bl]
 show _ = bl (cuL _ (2 + 1)) (cuF _ _ (2 + 1)) ++ _
 rw [cu_bl, show (2 : Nat) = 1 + 1 from rfl, cu_bl, show (1 : Nat) = 0 + 1 from rfl, cu_bl]
 show _ = (((bl 0 _ ++ _) ++ _) ++ _) ++ _
 rw [bl_zero, List.nil_append, List.append_assoc, List.append_assoc]
 rfl
theorem front {l : By} {k : Nat} {F : Bf} (hk : k ≤ l.length) (h : ∀ i, i < k → F i = lf l i) : l = bl k F ++ l.drop k := by
 have e : bl k F = l.take k := lf_inj (by rw [bl_len, List.length_take]; omega) fun i hi => by
  rw [bl_len] at hi
  rw [lf_bl _ _ _ hi, lf_take _ _ _ hi, h i hi]
 rw [e, List.take_append_drop]
theorem eN_len (v : Nat) : (eN v).length = encL v := bl_len _ _
theorem eT_len (n : Nat) (f : Bf) : (eT n f).length = txL n := by rw [eT_bl, bl_len]
theorem num_ok {l : By} (h : tkE l.length (lf l) = 0) : l = eN (tkV (lf l)) ++ l.drop (tkL (lf l)) ∧ u63 (tkV (lf l)) ∧ tkL (lf l) ≤ l.length := by
 obtain ⟨e1, e2⟩ := enc_tk h
 have hl := tkL_le h
 refine ⟨?_, (tk_ok h).2.2.2.2, hl⟩
 unfold eN
 rw [e1]
 exact front hl e2
theorem num_no {l : By} (h : tkE l.length (lf l) ≠ 0) (v : Nat) (hv : u63 v) (r : By) : l ≠ eN v ++ r := fun e => by
 refine h ?_
 rw [e]
 exact (tk_enc v hv _ (lf (eN v ++ r)) (by rw [List.length_append, eN_len]; omega) fun i hi => by
  rw [lf_app, eN_len]
  unfold catF
  rw [if_pos hi]
  exact lf_bl _ _ _ hi).1
theorem txt_ok {l : By} {m : Int} (h : ttE l.length m (lf l) = 0) : l = eT (tkV (lf l)) (offF (lf l) (tkL (lf l))) ++ l.drop (tkL (lf l) + tkV (lf l)) ∧ (tkV (lf l) : Int) ≤ m ∧ tkL (lf l) + tkV (lf l) ≤ l.length := by
 obtain ⟨e1, e2⟩ := once_tx h
 obtain ⟨-, h2, h3⟩ := tt_le h
 refine ⟨?_, h2, h3⟩
 rw [eT_bl, e1]
 exact front h3 e2
theorem txt_no {l : By} {m : Int} (h : ttE l.length m (lf l) ≠ 0) (T : Nat) (t : Bf) (hT : T ≤ 4096) (hm : (T : Int) ≤ m) (r : By) : l ≠ eT T t ++ r := fun e => by
 refine h ?_
 have hl : l.length = txL T + r.length := by rw [e, List.length_append, eT_len]
 have hf : ∀ i, i < encL T → lf l i = encF T i := fun i hi => by
  rw [e, lf_app, eT_len]
  unfold catF
  rw [if_pos (by unfold txL; omega), eT_bl, lf_bl _ _ _ (by unfold txL; omega)]
  unfold txF catF
  rw [if_pos hi]
 obtain ⟨h1, h2, h3⟩ := tk_enc T (by omega) l.length (lf l) (by rw [hl]; unfold txL; omega) hf
 unfold ttE
 rw [if_neg (fun h => h h1), h2, h3, if_neg (by omega), if_neg (by rw [hl]; unfold txL; omega)]
def rpG (r : Rp) : Prop := i63 r.c ∧ i63 r.n ∧ i63 r.m ∧ r.T ≤ 4096
def rpT (f : Bf) : Rp := ⟨(puX f 0 : Nat), (puX f 1 : Nat), (puX f 2 : Nat), trT f, trF f⟩
theorem repN_b {r : Rp} (h : rpG r) : ∀ j, -9223372036854775808 ≤ repN r.c r.n r.m j ∧ repN r.c r.n r.m j < 9223372036854775808 := fun j => by
 obtain ⟨⟨a, b⟩, ⟨c, d⟩, ⟨e, f⟩, -⟩ := h
 unfold repN
 repeat' split
 all_goals omega
theorem repE_g {r : Rp} (h : rpG r) : repE r.c r.n r.m r.T = 0 := by
 obtain ⟨⟨a, b⟩, ⟨c, d⟩, ⟨e, f⟩, g⟩ := h
 refine fi_zero fun j hj => ?_
 unfold th2
 split
 ·refine fi_zero fun i hi => ?_
  unfold neE repN
  rw [if_neg]
  repeat' split
  all_goals omega
 ·unfold txE
  rw [if_neg (by omega)]
theorem rep_ok {l : By} (h : trE l.length (lf l) = 0) : l = eRp (rpT (lf l)) ++ l.drop (trO (lf l) 2) ∧ rpG (rpT (lf l)) ∧ trO (lf l) 2 ≤ l.length := by
 obtain ⟨e1, e2, e3⟩ := once_rep h
 have q0 : puE l.length (lf l) 3 = 0 := fi_each h 0 (by omega)
 have q1 : ttE (l.length - trO (lf l) 1) 4096 (offF (lf l) (trO (lf l) 1)) = 0 := fi_each h 1 (by omega)
 have hp : ∀ j, j < 3 → puX (lf l) j < 9223372036854775808 := fun j hj => (tk_ok (fi_each q0 j hj)).2.2.2.2
 have hT := (tt_le q1).2.1
 have a := hp 0 (by omega)
 have b := hp 1 (by omega)
 have c := hp 2 (by omega)
 refine ⟨?_, ⟨⟨by show (0 : Int) ≤ (puX (lf l) 0 : Nat); omega, by show ((puX (lf l) 0 : Nat) : Int) < _; omega⟩, ⟨by show (0 : Int) ≤ (puX (lf l) 1 : Nat); omega, by show ((puX (lf l) 1 : Nat) : Int) < _; omega⟩, ⟨by show (0 : Int) ≤ (puX (lf l) 2 : Nat); omega, by show ((puX (lf l) 2 : Nat) : Int) < _; omega⟩, ?_⟩, e3⟩
 ·rw [eRp_bl]
  show l = bl (repL (puX (lf l) 0 : Nat) (puX (lf l) 1 : Nat) (puX (lf l) 2 : Nat) (trT (lf l))) (repF (puX (lf l) 0 : Nat) (puX (lf l) 1 : Nat) (puX (lf l) 2 : Nat) (trT (lf l)) (trF (lf l))) ++ _
  rw [e1]
  exact front e3 e2
 ·show trT (lf l) ≤ 4096
  unfold trT
  omega
theorem rep_no {l : By} (h : trE l.length (lf l) ≠ 0) (r : Rp) (hr : rpG r) (s : By) : l ≠ eRp r ++ s := fun e => by
 refine h ?_
 have hl : l.length = repL r.c r.n r.m r.T + s.length := by rw [e, List.length_append, eRp_bl, bl_len]
 exact (back_rep (M := l.length) (d := r.f) (repE_g hr) (repN_b hr) (by omega) fun j hj => by
  rw [e, lf_app, eRp_bl, bl_len]
  unfold catF
  rw [if_pos hj, lf_bl _ _ _ hj]).1
theorem rpG.w {r : Rp} (h : rpG r) : rpW r := ⟨h.1, h.2.1, h.2.2.1, by have := h.2.2.2; show r.T < _; omega⟩
theorem cut_front {l e r : By} {P : Nat} (h : l.take P = e ++ r) : l = e ++ (r ++ l.drop P) := by rw [← List.append_assoc, ← h, List.take_append_drop]
theorem cut_none {l e r : By} {P : Nat} (hP : e.length ≤ P) (h : l = e ++ r) : l.take P = e ++ r.take (P - e.length) := by
 rw [h, List.take_append]
 rw [List.take_of_length_le hP]
def st0 (f : Bf) (n : Nat) : Sx := ⟨updS newS f n, 1, [], [], 0⟩
theorem st0_ok (f : Bf) (n : Nat) : SxOk (st0 f n) := ⟨ok_nil, SsOk.nil, Int.le_refl 1⟩
theorem st0_sd (f : Bf) (n : Nat) : ∀ s ∈ (st0 f n).l, SdOk s := fun s hs => by cases hs
def cmO : Cm := ⟨1, 0, 0, 0, 0, 0, fun _ => 0#8, 0, fun _ => 0#8⟩
def cmC (s q : Int) : Cm := ⟨3, s, q, 0, 0, 0, fun _ => 0#8, 0, fun _ => 0#8⟩
theorem chk_O : chkE 1 0 0 0 0 0 0 = 0 := by decide
theorem chk_C {s q : Int} (h1 : 1 ≤ s) (h2 : s ≤ 1099511627776) (h3 : 1 ≤ q) (h4 : q ≤ 1099511627776) : chkE 3 s q 0 0 0 0 = 0 := by
 unfold chkE
 rw [if_pos (by simp [chkB, kiB, fitB, inB, sh, shN]; omega)]
theorem ap_O (x : Sx) : apR x cmO = ⟨opE x.l x.g, opN x.l x.g, 0, 0, fun _ => 0#8⟩ ∧ apX x cmO = ⟨x.d, x.n, x.K, opSe x.l x.g, opG x.l x.g⟩ := by
 constructor
 ·show (if chkE 1 0 0 0 0 0 0 ≠ 0 then _ else _) = _
  rw [if_neg (by rw [chk_O]; decide)]
  exact if_pos rfl
 ·show (if chkE 1 0 0 0 0 0 0 ≠ 0 then _ else _) = _
  rw [if_neg (by rw [chk_O]; decide)]
  exact if_pos rfl
theorem ap_do {x : Sx} {c : Cm} {s : Se} (hc : chkE c.k c.s c.q c.i c.n c.T c.U = 0) (h1 : c.k ≠ 1) (h2 : c.k ≠ 2) (h : ssG x.l c.s = some s) (hq : s.q < c.q) (hq1 : 1 ≤ c.q) : apR x c = exR x c ∧ apX x c = ⟨exD x c, exC x c, exK x c, ssD x.l (exS x c), x.g⟩ := by
 have e : akE x.l c.s c.q = 0 := by unfold akE; rw [h]; exact if_neg (by omega)
 have eb : akB x.l c.s c.q = false := by unfold akB; rw [h]; exact decide_eq_false (by omega)
 have hd := (dn_new (x := exS x c) e eb).2
 have hc : ¬ chkE c.k c.s c.q c.i c.n c.T c.U ≠ 0 := by omega
 have ha : ¬ akE x.l c.s c.q ≠ 0 := by omega
 have hb : ¬ akB x.l c.s c.q = true := by rw [eb]; decide
 constructor
 ·unfold apR
  rw [if_neg hc, if_neg h1, if_neg h2, if_neg ha, if_neg hb]
 ·unfold apX
  rw [if_neg hc, if_neg h1, if_neg h2, if_neg ha, if_neg hb, hd]
theorem one_G (s : Se) : ssG [s] s.id = some s := by unfold ssG; simp
theorem one_D (a b : Se) (h : a.id = b.id) : ssD [a] b = [b] := by unfold ssD; simp [h]
theorem open_1 {g : Int} (h0 : 0 ≤ g) (h1 : g < 1000) : opSe [] g = [Se.new (g + 1)] ∧ opG [] g = g + 1 ∧ opN [] g = g + 1 ∧ opE [] g = 0 := by
 have hF : opF [] g = false := by unfold opF; rw [show decide (g + 1 = 1099511627776) = false from decide_eq_false (by omega)]; rfl
 unfold opSe opG opN opE
 rw [hF]
 exact ⟨rfl, rfl, rfl, rfl⟩
end Go.Proofs.YteffjpdcghlnlaaGreatDoor.Oct
