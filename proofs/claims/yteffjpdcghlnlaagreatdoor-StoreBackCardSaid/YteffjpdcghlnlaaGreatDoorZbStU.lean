import Derived.Test.YteffjpdcghlnlaaGreatDoorZbStUa
import Derived.Test.YteffjpdcghlnlaaGreatDoorZbStB2
import Derived.Test.YteffjpdcghlnlaaGreatDoorZbSsU
set_option linter.unusedVariables false
set_option linter.unusedSimpArgs false
namespace Go.Proofs.YteffjpdcghlnlaaGreatDoor.Oct
theorem keys_no {K : Ks} {l l1 : By} (hg : LG 8 rgG K) (hn : ¬ okK K) (h : l = eL eRg K ++ l1) : NoF (eL eRg) okK l := fun M r hM he => by
 rw [h] at he
 exact hn (hM.same (eL_unq eRg_unq (m := 8) (by omega) _ _ _ _ hM.lg hg he.symm).1)
theorem seG.w {s : Se} (h : seG s) : seW s := ⟨h.1, h.2.1, h.2.2.w⟩
theorem eSe_unq : Unq eSe seG seS := fun a b r r' ha hb h => eSe_app a b r r' ha.w hb.w h
def eSs (p : Nat × List Se) : By := eN p.1 ++ eL eSe p.2
def ssW (p : Nat × List Se) : Prop := u63 p.1 ∧ LG 8 seG p.2
def ssG' (p : Nat × List Se) : Prop := u63 p.1 ∧ OfOk p.2 p.1 ∧ ∀ s ∈ p.2, seG s
theorem ssG'.w {p : Nat × List Se} (h : ssG' p) : ssW p := ⟨h.1, h.2.1.len, h.2.2⟩
def ssS (a b : Nat × List Se) : Prop := a.1 = b.1 ∧ all2 seS a.2 b.2
theorem eSs_unq : Unq eSs ssW ssS := fun a b r r' ha hb h => by
 unfold eSs at h
 simp only [List.append_assoc] at h
 obtain ⟨e1, h⟩ := eN_app ha.1 hb.1 h
 obtain ⟨e2, h⟩ := eL_unq eSe_unq (m := 8) (by omega) _ _ _ _ ha.2 hb.2 h
 exact ⟨⟨e1, e2⟩, h⟩
theorem lst_same : ∀ {l m : List Se}, all2 seS l m → ∀ i, lst l i = lst m i := fun {l m} h i => by
 have hl := all2_len h
 unfold lst
 by_cases hi : 0 < i ∧ i - 1 < l.length
 ·rw [dif_pos hi, dif_pos (by omega), (all2_get h (i - 1) hi.2 (by omega)).1]
 ·rw [dif_neg hi, dif_neg (by omega)]
theorem noB_same {a b : Se} (h : seS a b) : noB a = noB b := by
 obtain ⟨-, e2, e3, e4, e5, e6, -⟩ := h
 have e3 : a.c = b.c := e3
 have e4 : a.n = b.n := e4
 have e5 : a.m = b.m := e5
 have e6 : a.T = b.T := e6
 unfold noB zB
 rw [e2, e3, e4, e5, e6]
theorem OfOk.same {l m : List Se} {n : Int} (h : OfOk l n) (e : all2 seS l m) : OfOk m n := by
 have hl := all2_len e
 refine ⟨h.n0, h.n1, by rw [← hl]; exact h.len, fun i hi => ?_, ?_, fun s hs => ?_⟩
 ·rw [← lst_same e, ← lst_same e]; exact h.up i (by omega)
 ·rw [← lst_same e, ← hl]; exact h.last
 ·obtain ⟨q, hq, hqs⟩ := all2_mem e hs
  rw [← noB_same hqs]
  exact h.no q hq
theorem sess_no {p : Nat × List Se} {l l1 : By} (hw : ssW p) (hn : ¬ OfOk p.2 p.1) (h : l = eSs p ++ l1) : NoF eSs ssG' l := fun q r hq he => by
 rw [h] at he
 obtain ⟨⟨e1, e2⟩, -⟩ := eSs_unq q p _ _ hq.w hw he.symm
 exact hn (by rw [← e1]; exact hq.2.1.same e2)
structure SxV (x : Sx) : Prop where
 n : 1 ≤ x.n ∧ x.n < 9223372036854775808
 K : okK x.K
 l : OfOk x.l (x.g + 1)
 s : ∀ s ∈ x.l, seG s
theorem eSx_eq (x : Sx) {n g : Nat} (hn : x.n = (n : Int)) (hg : x.g + 1 = (g : Int)) : eSx x = eSr (x.d, n) ++ (eL eRg x.K ++ eSs (g, x.l)) := by
 unfold eSx eSr eSs eL
 rw [hn, hg, Int.toNat_natCast, Int.toNat_natCast]
 simp only [List.append_assoc]
theorem SxV.nat {x : Sx} (h : SxV x) : ∃ n g : Nat, x.n = (n : Int) ∧ x.g + 1 = (g : Int) ∧ srG (x.d, n) ∧ ssG' (g, x.l) := by
 have := h.n
 have := h.l.n0
 have := h.l.n1
 refine ⟨x.n.toNat, (x.g + 1).toNat, by omega, by omega, ⟨by show 1 ≤ x.n.toNat; omega, by show x.n.toNat < 9223372036854775808; omega⟩, by show (x.g + 1).toNat < 9223372036854775808; omega, ?_, h.s⟩
 show OfOk x.l ((x.g + 1).toNat : Nat)
 rw [show (((x.g + 1).toNat : Nat) : Int) = x.g + 1 by omega]
 exact h.l
theorem SxV.same {x y : Sx} (hx : SxV x) (hy : SxV y) (h : eSx x = eSx y) : SxS x y := by
 obtain ⟨n, g, e1, e2, h1, h2⟩ := hx.nat
 obtain ⟨n', g', e1', e2', h1', h2'⟩ := hy.nat
 rw [eSx_eq x e1 e2, eSx_eq y e1' e2'] at h
 obtain ⟨⟨a1, a2, a3⟩, h⟩ := eSr_unq _ _ _ _ h1 h1' h
 obtain ⟨a4, h⟩ := eL_unq eRg_unq (m := 8) (by omega) _ _ _ _ hx.K.lg hy.K.lg h
 obtain ⟨⟨a5, a6⟩, -⟩ := eSs_unq (g, x.l) (g', y.l) [] [] h2.w h2'.w (by rw [List.append_nil, List.append_nil]; exact h)
 have a3 : n = n' := a3
 have a5 : g = g' := a5
 exact ⟨a1, a2, by omega, a4, a6, by omega⟩
theorem SxV.ok {x : Sx} (h : SxV x) : SxOk x := by
 have := h.l.ok (fun s hs => by have := (h.s s hs).2.2.2.2.2; have h2 : s.T ≤ 4096 := this; omega)
 rw [show x.g + 1 - 1 = x.g by omega] at this
 exact ⟨h.K, this, h.n.1⟩
theorem SxR.v {x : Sx} (h : SxR x) : SxV x := by
 have hT := h.ok.T
 have h0 := hT.g0
 have h1 := hT.g1
 have hd : ∀ i (hi : i < x.l.length), lst x.l (i + 1) = (x.l[i]).id := fun i hi => lst_s _ _ hi
 refine ⟨⟨h.ok.c, h.n⟩, h.ok.K, ⟨by omega, by omega, hT.n, fun i hi => ?_, ?_, fun s hs => ?_⟩, h.seG⟩
 ·rw [hd i hi]
  cases i with
  | zero => rw [lst_0]; have := hT.bd _ (List.getElem_mem hi); omega
  | succ i => rw [hd i (by omega)]; exact List.pairwise_iff_getElem.1 hT.up i (i + 1) (by omega) hi (by omega)
 ·cases e : x.l.length with
  | zero => rw [lst_0]; omega
  | succ i => rw [hd i (by omega)]; have := hT.bd _ (List.getElem_mem (show i < x.l.length by omega)); omega
 ·have hs' := h.sd s hs
  have hg := h.seG s hs
  have q0 := hs'.q0
  have q1 := hs'.q1
  unfold noB
  have e1 : decide (s.q < 0) = false := decide_eq_false (by omega)
  have e2 : decide (1099511627776 < s.q) = false := decide_eq_false (by omega)
  have e3 : repE s.c s.n s.m s.T = 0 := repE_g (r := seR s) hg.2.2
  rw [e1, e2, e3]
  by_cases hq : s.q = 0
  ·obtain ⟨a, b, c, d⟩ := hs'.z hq
   unfold zB
   rw [a, b, c, d]
   simp
  ·have e4 : (s.q == 0) = false := by simpa using hq
   rw [e4]
   simp
abbrev NoS (b : By) : Prop := ∀ x, SxV x → eSx x ≠ b
theorem noS_1 {b : By} (h : NoF eSr srG b) : NoS b := fun x hx e => by
 obtain ⟨n, g, e1, e2, h1, -⟩ := hx.nat
 rw [eSx_eq x e1 e2] at e
 exact h _ _ h1 e.symm
theorem noS_2 {b l1 : By} {s : St × Nat} (hs : srG s) (hb : b = eSr s ++ l1) (h : NoF (eL eRg) okK l1) : NoS b := fun x hx e => by
 obtain ⟨n, g, e1, e2, h1, -⟩ := hx.nat
 rw [eSx_eq x e1 e2, hb] at e
 exact h _ _ hx.K (eSr_unq _ _ _ _ h1 hs e).2.symm
theorem noS_3 {b l1 l2 : By} {s : St × Nat} {K : Ks} (hs : srG s) (hb : b = eSr s ++ l1) (hK : okK K) (h1 : l1 = eL eRg K ++ l2) (h : NoF eSs ssG' l2) : NoS b := fun x hx e => by
 obtain ⟨n, g, e1, e2, h3, h4⟩ := hx.nat
 rw [eSx_eq x e1 e2, hb] at e
 have e := (eSr_unq _ _ _ _ h3 hs e).2
 rw [h1] at e
 have e := (eL_unq eRg_unq (m := 8) (by omega) _ _ _ _ hx.K.lg hK.lg e).2
 exact h _ [] h4 (by rw [List.append_nil]; exact e.symm)
theorem noS_4 {b l1 l2 l3 : By} {s : St × Nat} {K : Ks} {p : Nat × List Se} (hs : srG s) (hb : b = eSr s ++ l1) (hK : okK K) (h1 : l1 = eL eRg K ++ l2) (hp : ssG' p) (h2 : l2 = eSs p ++ l3) (h : l3 ≠ []) : NoS b := fun x hx e => by
 obtain ⟨n, g, e1, e2, h3, h4⟩ := hx.nat
 rw [eSx_eq x e1 e2, hb] at e
 have e := (eSr_unq _ _ _ _ h3 hs e).2
 rw [h1] at e
 have e := (eL_unq eRg_unq (m := 8) (by omega) _ _ _ _ hx.K.lg hK.lg e).2
 rw [h2] at e
 exact h (eSs_unq (g, x.l) p [] l3 h4.w hp.w (by rw [List.append_nil]; exact e)).2.symm
theorem isS {b l1 l2 : By} {s : St × Nat} {K : Ks} {p : Nat × List Se} (hs : srG s) (hb : b = eSr s ++ l1) (hK : okK K) (h1 : l1 = eL eRg K ++ l2) (hp : ssG' p) (h2 : l2 = eSs p) :
  SxV ⟨s.1, (s.2 : Int), K, p.2, (p.1 : Int) - 1⟩ ∧ eSx ⟨s.1, (s.2 : Int), K, p.2, (p.1 : Int) - 1⟩ = b := by
 refine ⟨⟨⟨by have := hs.1; show (1 : Int) ≤ (s.2 : Int); omega, by have := hs.2; show (s.2 : Int) < _; omega⟩, hK, ?_, hp.2.2⟩, ?_⟩
 ·show OfOk p.2 ((p.1 : Int) - 1 + 1)
  rw [show (p.1 : Int) - 1 + 1 = p.1 by omega]
  exact hp.2.1
 ·rw [eSx_eq _ (n := s.2) (g := p.1) rfl (by show (p.1 : Int) - 1 + 1 = p.1; omega), hb, h1, h2]
end Go.Proofs.YteffjpdcghlnlaaGreatDoor.Oct
