import Derived.Test.YteffjpdcghlnlaaGreatDoorZcMat
import Derived.Test.YteffjpdcghlnlaaGreatDoorZcMm
import Derived.Test.YteffjpdcghlnlaaGreatDoorZcEvM
import Derived.Test.YteffjpdcghlnlaaGreatDoorZcWiAll
set_option linter.unusedVariables false
set_option linter.unusedSimpArgs false
namespace Go.Proofs.YteffjpdcghlnlaaGreatDoor.Oct
structure Sx where
 d : St
 n : Int
 K : Ks
 l : List Se
 g : Int
structure Cm where
 k : Int
 s : Int
 q : Int
 i : Int
 n : Int
 T : Nat
 f : Bf
 U : Nat
 h : Bf
structure Rp where
 c : Int
 n : Int
 m : Int
 T : Nat
 f : Bf
def rpE (e : Int) : Rp := ⟨e, 0, 0, 0, fun _ => 0#8⟩
def rpO (e : Int) (r : Rp) : Rp := if e = 0 then r else rpE e
def drM (d : St) : Bf := drwF d (fun _ => 0#8) 0
def drD (d : St) : St := drwS d 32 (fun _ => 0#8) 0
def exR (x : Sx) (c : Cm) : Rp :=
 if c.k = 3 then rpO (crE x.K) ⟨0, crN x.K, 1, 0, fun _ => 0#8⟩
 else if c.k = 4 then rpO (rtE x.K c.i) ⟨0, c.i, rtN x.K c.i, 0, fun _ => 0#8⟩
 else if c.k = 5 then rpE (swE x.K c.i)
 else if c.k = 6 then rpE (dsE x.K c.i c.n)
 else if c.k = 7 then rpO (ecE x.K c.i c.T c.U) ⟨0, c.i, enV x.K c.i c.T c.U, enL x.K c.i c.T c.U, enF x.K c.i c.f c.T c.h c.U⟩
 else if c.k = 8 then rpO (dcE x.K c.T c.f c.h c.U) ⟨0, 0, 0, dcL x.K c.T c.f c.h c.U, dcF x.K c.T c.f⟩
 else if c.k = 9 then rpO (rwE x.K c.T c.f c.h c.U) ⟨0, 0, rwV x.K c.T c.f c.h c.U, rwL x.K c.T c.f c.h c.U, rwF x.K c.T c.f c.h c.U⟩
 else rpE 0
def exK (x : Sx) (c : Cm) : Ks :=
 if c.k = 3 then crK x.K (drM x.d)
 else if c.k = 4 then rtK x.K c.i (drM x.d)
 else if c.k = 5 then swK x.K c.i (decide (c.n = 1))
 else if c.k = 6 then dsK x.K c.i c.n
 else if c.k = 7 then enK x.K c.i c.T c.U
 else if c.k = 9 then rwK x.K c.T c.f c.h c.U
 else x.K
def exD (x : Sx) (c : Cm) : St := if c.k = 3 ∨ c.k = 4 then drD x.d else if c.k = 10 then updS x.d c.f c.T else x.d
def exC (x : Sx) (c : Cm) : Int := if c.k = 3 ∨ c.k = 4 then x.n + 1 else if c.k = 10 then 1 else x.n
def exS (x : Sx) (c : Cm) : Se := ⟨c.s, c.q, (exR x c).c, (exR x c).n, (exR x c).m, (exR x c).T, (exR x c).f⟩
def seR (s : Se) : Rp := ⟨s.c, s.n, s.m, s.T, s.f⟩
def apR (x : Sx) (c : Cm) : Rp :=
 if chkE c.k c.s c.q c.i c.n c.T c.U ≠ 0 then rpE 1
 else if c.k = 1 then ⟨opE x.l x.g, opN x.l x.g, 0, 0, fun _ => 0#8⟩
 else if c.k = 2 then rpE (exE x.l c.i)
 else if akE x.l c.s c.q ≠ 0 then rpE (akE x.l c.s c.q)
 else if akB x.l c.s c.q = true then seR (akS x.l c.s c.q)
 else exR x c
def apX (x : Sx) (c : Cm) : Sx :=
 if chkE c.k c.s c.q c.i c.n c.T c.U ≠ 0 then x
 else if c.k = 1 then ⟨x.d, x.n, x.K, opSe x.l x.g, opG x.l x.g⟩
 else if c.k = 2 then ⟨x.d, x.n, x.K, ssX x.l c.i, x.g⟩
 else if akE x.l c.s c.q ≠ 0 then x
 else if akB x.l c.s c.q = true then x
 else ⟨exD x c, exC x c, exK x c, dnL x.l (exS x c), x.g⟩
theorem ssG_hit {l : List Se} {x : Se} (h : ssH l x.id = true) : ssG (ssD l x) x.id = some x := by
 have h1 : ssH (ssD l x) x.id = true := by rw [ssH_D l x h]; exact h
 rw [ssH_G] at h1
 obtain ⟨s, hs⟩ := Option.isSome_iff_exists.1 h1
 rcases ssG_D hs with ⟨-, e⟩ | ⟨e, -⟩
 ·rw [hs, e]
 ·exact absurd rfl e
theorem ak_new {l : List Se} {id q : Int} (h0 : akE l id q = 0) (h1 : akB l id q = false) : ∃ s, ssG l id = some s ∧ s.q < q ∧ 1 ≤ q ∧ ssH l id = true := by
 unfold akE at h0
 unfold akB at h1
 cases e : ssG l id with
 | none => rw [e] at h0; simp at h0
 | some s =>
  rw [e] at h0 h1
  have h0 : (if q < s.q ∨ q < 1 then (151 : Int) else 0) = 0 := h0
  have h2 : ¬ (q < s.q ∨ q < 1) := fun hh => by rw [if_pos hh] at h0; omega
  have h3 := of_decide_eq_false h1
  exact ⟨s, rfl, by omega, by omega, by rw [ssH_G, e]; rfl⟩
theorem dn_new {l : List Se} {x : Se} (h0 : akE l x.id x.q = 0) (h1 : akB l x.id x.q = false) : dnE l x.id x.q = 0 ∧ dnL l x = ssD l x := by
 obtain ⟨s, hs, hq, -, -⟩ := ak_new h0 h1
 have e : dnE l x.id x.q = 0 := by
  unfold dnE
  rw [hs]
  exact if_neg (by omega)
 exact ⟨e, by unfold dnL; rw [if_pos e]⟩
theorem ak_again {l : List Se} {x : Se} (h : ssH l x.id = true) (hq : 1 ≤ x.q) : akE (ssD l x) x.id x.q = 0 ∧ akB (ssD l x) x.id x.q = true ∧ akS (ssD l x) x.id x.q = x := by
 have e := ssG_hit h
 have hn : ¬ (x.q < x.q ∨ x.q < 1) := by omega
 unfold akE akB akS
 rw [e]
 exact ⟨if_neg hn, decide_eq_true ⟨hn, rfl⟩, if_pos ⟨hn, rfl⟩⟩
theorem ap_again (x : Sx) (c : Cm) (h1 : c.k ≠ 1) (h2 : c.k ≠ 2) : apR (apX x c) c = apR x c ∧ apX (apX x c) c = apX x c := by
 by_cases hc : chkE c.k c.s c.q c.i c.n c.T c.U ≠ 0
 ·unfold apX apR
  simp only [if_pos hc, and_self]
 by_cases ha : akE x.l c.s c.q ≠ 0
 ·have e : apX x c = x := by unfold apX; rw [if_neg hc, if_neg h1, if_neg h2, if_pos ha]
  rw [e]
  exact ⟨rfl, e⟩
 cases hb : akB x.l c.s c.q with
 | true =>
  have e : apX x c = x := by unfold apX; rw [if_neg hc, if_neg h1, if_neg h2, if_neg ha, if_pos hb]
  rw [e]
  exact ⟨rfl, e⟩
 | false =>
  have ha' : akE x.l c.s c.q = 0 := by simpa using ha
  obtain ⟨s, -, -, hq, hh⟩ := ak_new ha' hb
  have hd := (dn_new (x := exS x c) ha' hb).2
  have e : apX x c = ⟨exD x c, exC x c, exK x c, ssD x.l (exS x c), x.g⟩ := by
   unfold apX
   rw [if_neg hc, if_neg h1, if_neg h2, if_neg ha, if_neg (by rw [hb]; decide), hd]
  have er : apR x c = exR x c := by unfold apR; rw [if_neg hc, if_neg h1, if_neg h2, if_neg ha, if_neg (by rw [hb]; decide)]
  obtain ⟨a1, a2, a3⟩ := ak_again (x := exS x c) hh hq
  have a1' : akE (ssD x.l (exS x c)) c.s c.q = 0 := a1
  have a2' : akB (ssD x.l (exS x c)) c.s c.q = true := a2
  have a3' : akS (ssD x.l (exS x c)) c.s c.q = exS x c := a3
  rw [e, er]
  refine ⟨?_, ?_⟩
  ·unfold apR
   rw [if_neg hc, if_neg h1, if_neg h2, if_neg (by rw [a1']; decide), if_pos a2', a3']
   rfl
  ·unfold apX
   rw [if_neg hc, if_neg h1, if_neg h2, if_neg (by rw [a1']; decide), if_pos a2']
structure SxOk (x : Sx) : Prop where
 K : okK x.K
 T : SsOk x.l x.g
 c : 1 ≤ x.n
theorem enT_le {K : Ks} {id : Int} {L S : Nat} : enL K id L S ≤ 110 := by
 unfold enL
 by_cases h : ecE K id L S = 0
 ·rw [if_pos h]
  have hL : L ≤ 64 := by
   unfold ecE at h
   by_cases hh : 64 < L ∨ 32 < S
   ·rw [if_pos hh] at h; omega
   ·omega
  have := hdL_le id.toNat (usV K id).toNat
  unfold blL
  omega
 ·rw [if_neg h]; omega
theorem dcT_le {K : Ks} {n : Nat} {f s : Bf} {S : Nat} : dcL K n f s S ≤ 64 := by
 unfold dcL
 by_cases h : dcE K n f s S = 0
 ·rw [if_pos h]
  have := @rdL_le n f
  omega
 ·rw [if_neg h]; omega
theorem rwT_le {K : Ks} {n : Nat} {f s : Bf} {S : Nat} : rwL K n f s S ≤ 110 := by
 unfold rwL
 by_cases h : dcE K n f s S = 0
 ·rw [if_pos h]; exact enT_le
 ·rw [if_neg h]; omega
theorem rwX_ok {K : Ks} {n : Nat} {f s : Bf} {S : Nat} (h : okK K) : okK (rwK K n f s S) := by
 unfold rwK
 by_cases e : dcE K n f s S = 0
 ·rw [if_pos e]; exact enK_ok h
 ·rw [if_neg e]; exact h
theorem rpO_T {e : Int} {r : Rp} {n : Nat} (h : r.T ≤ n) : (rpO e r).T ≤ n := by
 unfold rpO
 by_cases he : e = 0
 ·rw [if_pos he]; exact h
 ·rw [if_neg he]; exact Nat.zero_le _
theorem exR_T (x : Sx) (c : Cm) : (exR x c).T ≤ 110 := by
 unfold exR
 repeat' split
 all_goals first
  | exact rpO_T (Nat.zero_le _)
  | exact rpO_T enT_le
  | exact rpO_T (Nat.le_trans dcT_le (by omega))
  | exact rpO_T rwT_le
  | exact Nat.zero_le _
theorem exK_ok {x : Sx} {c : Cm} (h : okK x.K) : okK (exK x c) := by
 unfold exK
 repeat' split
 all_goals first
  | exact crK_ok h _
  | exact rtK_ok h _
  | exact swK_ok h _
  | exact dsK_ok h
  | exact enK_ok h
  | exact rwX_ok h
  | exact h
theorem exC_ok {x : Sx} {c : Cm} (h : 1 ≤ x.n) : 1 ≤ exC x c ∧ exC x c ≤ x.n + 1 := by
 unfold exC
 repeat' split
 all_goals omega
theorem apX_ok {x : Sx} {c : Cm} (h : SxOk x) : SxOk (apX x c) := by
 unfold apX
 repeat' split
 ·exact h
 ·exact ⟨h.K, h.T.opn, h.c⟩
 ·exact ⟨h.K, h.T.drop _, h.c⟩
 ·exact h
 ·exact h
 ·exact ⟨exK_ok h.K, h.T.dn _ (Nat.le_trans (exR_T x c) (by omega)), (exC_ok h.c).1⟩
theorem apX_n {x : Sx} {c : Cm} (h : 1 ≤ x.n) : (apX x c).n ≤ x.n + 1 := by
 unfold apX
 repeat' split
 all_goals first
  | exact (exC_ok h).2
  | exact Int.le_add_one (Int.le_refl _)
def cdB (e : Int) : Prop := e = 0 ∨ e = 2 ∨ e = 3 ∨ e = 40 ∨ (130 ≤ e ∧ e ≤ 134) ∨ e = 140
theorem crE_cd {K : Ks} : cdB (crE K) := by
 unfold crE
 repeat' split
 all_goals (unfold cdB; omega)
theorem rtE_cd {K : Ks} {id : Int} : cdB (rtE K id) := by
 unfold rtE
 repeat' split
 all_goals (unfold cdB; omega)
theorem swE_cd {K : Ks} {id : Int} : cdB (swE K id) := by
 unfold swE
 repeat' split
 all_goals (unfold cdB; omega)
theorem dsE_cd {K : Ks} {id v : Int} : cdB (dsE K id v) := by
 unfold dsE
 repeat' split
 all_goals (unfold cdB; omega)
theorem usE_cd {K : Ks} {id : Int} : cdB (usE K id) := by
 unfold usE
 repeat' split
 all_goals (unfold cdB; omega)
theorem mtE_cd {K : Ks} {id v : Int} : cdB (mtE K id v) := by
 unfold mtE
 repeat' split
 all_goals (unfold cdB; omega)
theorem opC_cd {k n s : Bf} {ns : Nat} {b : Bf} {L : Nat} : cdB (opC k n s ns b L) := by
 unfold opC
 repeat' split
 all_goals (unfold cdB; omega)
theorem ecE_cd {K : Ks} {id : Int} {L S : Nat} : cdB (ecE K id L S) := by
 unfold ecE
 split
 ·unfold cdB; omega
 ·exact usE_cd
theorem dcE_cd {K : Ks} {n : Nat} {f s : Bf} {S : Nat} : cdB (dcE K n f s S) := by
 unfold dcE
 repeat' split
 ·unfold cdB; omega
 ·unfold cdB; omega
 ·exact opC_cd
 ·exact mtE_cd
theorem rwE_cd {K : Ks} {n : Nat} {f s : Bf} {S : Nat} : cdB (rwE K n f s S) := by
 unfold rwE
 split
 ·exact ecE_cd
 ·exact dcE_cd
theorem rpO_c {e : Int} {r : Rp} (h : cdB e) (hr : cdB r.c) : cdB (rpO e r).c := by
 unfold rpO
 split
 ·exact hr
 ·exact h
theorem exR_cd (x : Sx) (c : Cm) : cdB (exR x c).c := by
 unfold exR
 repeat' split
 ·exact rpO_c crE_cd (.inl rfl)
 ·exact rpO_c rtE_cd (.inl rfl)
 ·exact swE_cd
 ·exact dsE_cd
 ·exact rpO_c ecE_cd (.inl rfl)
 ·exact rpO_c dcE_cd (.inl rfl)
 ·exact rpO_c rwE_cd (.inl rfl)
 ·exact .inl rfl
def nmB (r : Rp) : Prop := 0 ≤ r.n ∧ r.n ≤ 9 ∧ 0 ≤ r.m ∧ r.m ≤ 9
theorem nmB_mk {e n m : Int} {T : Nat} {f : Bf} (h : 0 ≤ n ∧ n ≤ 9 ∧ 0 ≤ m ∧ m ≤ 9) : nmB ⟨e, n, m, T, f⟩ := h
theorem rpE_nm (e : Int) : nmB (rpE e) := nmB_mk (by omega)
theorem rpO_nm {e : Int} {r : Rp} (h : e = 0 → nmB r) : nmB (rpO e r) := by
 unfold rpO
 split
 ·rename_i he; exact h he
 ·exact rpE_nm _
theorem has_bd {K : Ks} {id : Int} (ok : okK K) (h : hasK K id = true) : 1 ≤ id ∧ id ≤ 8 := by
 have := hasK_iff.1 h
 have := ok.1
 omega
theorem rtE_has {K : Ks} {id : Int} (h : rtE K id = 0) : hasK K id = true ∧ (rgAt K id).l.length < 4 := by
 unfold rtE at h
 by_cases h1 : hasK K id = true
 ·rw [if_pos h1] at h
  by_cases h2 : 4 ≤ (rgAt K id).l.length
  ·rw [if_pos h2] at h; omega
  ·exact ⟨h1, by omega⟩
 ·rw [if_neg h1] at h; omega
theorem ecE_us {K : Ks} {id : Int} {L S : Nat} (h : ecE K id L S = 0) : usE K id = 0 := by
 unfold ecE at h
 split at h
 ·omega
 ·exact h
theorem enV_bd {K : Ks} {id : Int} {L S : Nat} (ok : okK K) : 0 ≤ enV K id L S ∧ enV K id L S ≤ 9 := by
 unfold enV
 split
 ·rename_i h
  obtain ⟨i, V, C, -, e, -, -, -, -, h1, -⟩ := us_nat (ecE_us h) ok
  rw [e]
  omega
 ·omega
theorem exR_nm {x : Sx} (c : Cm) (ok : okK x.K) : nmB (exR x c) := by
 unfold exR
 repeat' split
 ·refine rpO_nm fun _ => ?_
  refine nmB_mk ?_
  unfold crN
  have := ok.1
  split <;> omega
 ·refine rpO_nm fun h => ?_
  obtain ⟨h1, h2⟩ := rtE_has h
  have := has_bd ok h1
  show 0 ≤ c.i ∧ c.i ≤ 9 ∧ 0 ≤ rtN x.K c.i ∧ rtN x.K c.i ≤ 9
  unfold rtN
  rw [if_pos h]
  omega
 ·exact rpE_nm _
 ·exact rpE_nm _
 ·refine rpO_nm fun h => ?_
  have := has_bd ok (usE_zero (ecE_us h)).1
  have := @enV_bd x.K c.i c.T c.U ok
  exact nmB_mk (by omega)
 ·exact rpO_nm fun _ => nmB_mk (by omega)
 ·refine rpO_nm fun _ => ?_
  show 0 ≤ (0 : Int) ∧ (0 : Int) ≤ 9 ∧ 0 ≤ rwV x.K c.T c.f c.h c.U ∧ rwV x.K c.T c.f c.h c.U ≤ 9
  unfold rwV
  split
  ·have := @enV_bd x.K (dcI x.K c.T c.f c.h c.U) (dcL x.K c.T c.f c.h c.U) c.U ok
   omega
  ·omega
 ·exact rpE_nm _
theorem chk_q {k s q i n : Int} {T U : Nat} (h : chkE k s q i n T U = 0) : q ≤ 1099511627776 := by
 have h' : chkB k s q i n T U = true := by unfold chkE at h; cases hb : chkB k s q i n T U with
  | true => rfl
  | false => rw [hb] at h; simp at h
 have hk : kiB k = true := by unfold chkB at h'; cases hb : kiB k with
  | true => rfl
  | false => rw [hb] at h'; simp at h'
 have hcase : k = 1 ∨ k = 2 ∨ k = 3 ∨ k = 4 ∨ k = 5 ∨ k = 6 ∨ k = 7 ∨ k = 8 ∨ k = 9 ∨ k = 10 := by unfold kiB at hk; simp at hk; omega
 clear h hk
 rcases hcase with rfl | rfl | rfl | rfl | rfl | rfl | rfl | rfl | rfl | rfl
 all_goals
  simp [chkB, kiB, fitB, inB, sh, shN] at h'
  omega
structure SdOk (s : Se) : Prop where
 c : cdB s.c
 nm : nmB (seR s)
 T : s.T ≤ 110
 q0 : 0 ≤ s.q
 q1 : s.q ≤ 1099511627776
 z : s.q = 0 → s.c = 0 ∧ s.n = 0 ∧ s.m = 0 ∧ s.T = 0
theorem SdOk.new (id : Int) : SdOk (Se.new id) := ⟨.inl rfl, nmB_mk (by show 0 ≤ (0 : Int) ∧ (0 : Int) ≤ 9 ∧ 0 ≤ (0 : Int) ∧ (0 : Int) ≤ 9; omega), Nat.zero_le _, Int.le_refl 0, by show (0 : Int) ≤ _; omega, fun _ => ⟨rfl, rfl, rfl, rfl⟩⟩
theorem apX_sd {x : Sx} {c : Cm} (h : SxOk x) (hs : ∀ s ∈ x.l, SdOk s) : ∀ s ∈ (apX x c).l, SdOk s := by
 unfold apX
 by_cases hc : chkE c.k c.s c.q c.i c.n c.T c.U ≠ 0
 ·rw [if_pos hc]; exact hs
 rw [if_neg hc]
 have hc0 : chkE c.k c.s c.q c.i c.n c.T c.U = 0 := by omega
 by_cases h1 : c.k = 1
 ·rw [if_pos h1]
  show ∀ s ∈ opSe x.l x.g, SdOk s
  unfold opSe
  split
  ·exact hs
  ·intro s hm
   rcases List.mem_append.1 hm with hm | hm
   ·exact hs s hm
   ·rw [List.mem_singleton] at hm
    subst hm
    exact SdOk.new _
 rw [if_neg h1]
 by_cases h2 : c.k = 2
 ·rw [if_pos h2]
  exact fun s hm => hs s (List.mem_filter.1 hm).1
 rw [if_neg h2]
 by_cases ha : akE x.l c.s c.q ≠ 0
 ·rw [if_pos ha]; exact hs
 rw [if_neg ha]
 cases hb : akB x.l c.s c.q with
 | true => rw [if_pos rfl]; exact hs
 | false =>
  rw [if_neg (by decide)]
  obtain ⟨-, -, -, hq, -⟩ := ak_new (by omega) hb
  show ∀ s ∈ dnL x.l (exS x c), SdOk s
  unfold dnL
  split
  ·intro s hm
   rcases ssD_mem hm with rfl | ⟨hm, -⟩
   ·refine ⟨exR_cd x c, exR_nm c h.K, exR_T x c, ?_, chk_q hc0, fun hz => ?_⟩
    ·show 0 ≤ c.q; omega
    ·have hz : c.q = 0 := hz
     omega
   ·exact hs s hm
  ·exact hs
def st0 (f : Bf) (n : Nat) : Sx := ⟨updS newS f n, 1, [], [], 0⟩
theorem st0_ok (f : Bf) (n : Nat) : SxOk (st0 f n) := ⟨ok_nil, SsOk.nil, Int.le_refl 1⟩
theorem st0_sd (f : Bf) (n : Nat) : ∀ s ∈ (st0 f n).l, SdOk s := fun s hs => by cases hs
def cmO : Cm := ⟨1, 0, 0, 0, 0, 0, fun _ => 0#8, 0, fun _ => 0#8⟩
def cmC (s q : Int) : Cm := ⟨3, s, q, 0, 0, 0, fun _ => 0#8, 0, fun _ => 0#8⟩
def cmR (s q i : Int) : Cm := ⟨4, s, q, i, 0, 0, fun _ => 0#8, 0, fun _ => 0#8⟩
def cmS (s q : Int) (T : Nat) (f : Bf) : Cm := ⟨10, s, q, 0, 0, T, f, 0, fun _ => 0#8⟩
theorem chk_O : chkE 1 0 0 0 0 0 0 = 0 := by decide
theorem chk_C {s q : Int} (h1 : 1 ≤ s) (h2 : s ≤ 1099511627776) (h3 : 1 ≤ q) (h4 : q ≤ 1099511627776) : chkE 3 s q 0 0 0 0 = 0 := by
 unfold chkE
 rw [if_pos (by simp [chkB, kiB, fitB, inB, sh, shN]; omega)]
theorem chk_R {s q i : Int} (h1 : 1 ≤ s) (h2 : s ≤ 1099511627776) (h3 : 1 ≤ q) (h4 : q ≤ 1099511627776) (h5 : 1 ≤ i) (h6 : i ≤ 1099511627776) : chkE 4 s q i 0 0 0 = 0 := by
 unfold chkE
 rw [if_pos (by simp [chkB, kiB, fitB, inB, sh, shN]; omega)]
theorem chk_S {s q : Int} {T : Nat} (h1 : 1 ≤ s) (h2 : s ≤ 1099511627776) (h3 : 1 ≤ q) (h4 : q ≤ 1099511627776) : chkE 10 s q 0 0 T 0 = if 1 ≤ T ∧ T ≤ 64 then 0 else 1 := by
 unfold chkE
 by_cases h : 1 ≤ T ∧ T ≤ 64
 ·rw [if_pos h, if_pos (by simp [chkB, kiB, fitB, inB, sh, shN]; omega)]
 ·rw [if_neg h, if_neg (by simp [chkB, kiB, fitB, inB, sh, shN]; omega)]
theorem ap_O (x : Sx) : apR x cmO = ⟨opE x.l x.g, opN x.l x.g, 0, 0, fun _ => 0#8⟩ ∧ apX x cmO = ⟨x.d, x.n, x.K, opSe x.l x.g, opG x.l x.g⟩ := by
 constructor
 ·show (if chkE 1 0 0 0 0 0 0 ≠ 0 then _ else _) = _
  rw [if_neg (by rw [chk_O]; decide)]
  exact if_pos rfl
 ·show (if chkE 1 0 0 0 0 0 0 ≠ 0 then _ else _) = _
  rw [if_neg (by rw [chk_O]; decide)]
  exact if_pos rfl
theorem ap_do {x : Sx} {c : Cm} {s : Se} (hc : chkE c.k c.s c.q c.i c.n c.T c.U = 0) (h1 : c.k ≠ 1) (h2 : c.k ≠ 2) (h : ssG x.l c.s = some s) (hq : s.q < c.q) (hq1 : 1 ≤ c.q) : apR x c = exR x c ∧ apX x c = ⟨exD x c, exC x c, exK x c, ssD x.l (exS x c), x.g⟩ := by
 have e : akE x.l c.s c.q = 0 := by unfold akE; rw [h]; exact if_neg (by omega)
 have eb : akB x.l c.s c.q = false := by unfold akB; rw [h]; exact decide_eq_false (by omega)
 have hd := (dn_new (x := exS x c) e eb).2
 have hc : ¬ chkE c.k c.s c.q c.i c.n c.T c.U ≠ 0 := by omega
 have ha : ¬ akE x.l c.s c.q ≠ 0 := by omega
 have hb : ¬ akB x.l c.s c.q = true := by rw [eb]; decide
 constructor
 ·unfold apR
  rw [if_neg hc, if_neg h1, if_neg h2, if_neg ha, if_neg hb]
 ·unfold apX
  rw [if_neg hc, if_neg h1, if_neg h2, if_neg ha, if_neg hb, hd]
theorem one_G (s : Se) : ssG [s] s.id = some s := by unfold ssG; simp
theorem one_D (a b : Se) (h : a.id = b.id) : ssD [a] b = [b] := by unfold ssD; simp [h]
theorem open_1 {g : Int} (h0 : 0 ≤ g) (h1 : g < 1000) : opSe [] g = [Se.new (g + 1)] ∧ opG [] g = g + 1 ∧ opN [] g = g + 1 ∧ opE [] g = 0 := by
 have hF : opF [] g = false := by unfold opF; rw [show decide (g + 1 = 1099511627776) = false from decide_eq_false (by omega)]; rfl
 unfold opSe opG opN opE
 rw [hF]
 exact ⟨rfl, rfl, rfl, rfl⟩
def eN (v : Nat) : By := bl (encL v) (encF v)
theorem front {l : By} {k : Nat} {F : Bf} (hk : k ≤ l.length) (h : ∀ i, i < k → F i = lf l i) : l = bl k F ++ l.drop k := by
 have e : bl k F = l.take k := lf_inj (by rw [bl_len, List.length_take]; omega) fun i hi => by
  rw [bl_len] at hi
  rw [lf_bl _ _ _ hi, lf_take _ _ _ hi, h i hi]
 rw [e, List.take_append_drop]
end Go.Proofs.YteffjpdcghlnlaaGreatDoor.Oct
