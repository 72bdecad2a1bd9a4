/- Contracts of the reference's is, Switch, Destroy. -/
import Derived.Test.YtabchkcieddhpaaKrTy
import Derived.WalkKit
import Derived.ProofKit
import Derived.OpenShut
import Derived.Outline
import Derived.Lib.Hide
import Derived.BigQuiet
import Derived.Deep.QuietTactic
import Derived.OwnWalk
namespace Go.Proofs.Ytabchkcieddhpaa.Oct
open Go.ChangeShapes Go.WideShapes Go.ChangeAt Go.RowKit
set_option linter.unusedVariables false

/-- a call on one keyring: what it may change, and the marks of what is new -/
structure Fk (T T' : Mk) (t : Nat) (w w' : World) : Prop where
  fr : Fr T T' (Hk t) w w'
  mks : ∀ k, T' k = T k ∨ Hk t (T' k)
theorem Fk.same {T : Mk} {t : Nat} {w w' : World} (h : Fr T T (Hk t) w w') : Fk T T t w w' := ⟨h, fun _ => .inl rfl⟩
theorem Fk.trans {T T' T2 : Mk} {t : Nat} {w w' w2 : World} (h : Fk T T' t w w') (k : Fk T' T2 t w' w2) : Fk T T2 t w w2 := ⟨h.fr.trans k.fr, fun i => by
  rcases k.mks i with e | e
  · rw [e]; exact h.mks i
  · exact .inr e⟩
theorem ris_any (B : Nat) (A : Option Addr) (n c : Nat) (id : Int) (w : World) (hr : w.cell? ⟨B, 0, none⟩ = some (.slice A n c)) :
    Calls Try.prog 44 #[.pointer (some ⟨B, 0, none⟩), .int .i64 id] w fun e w' => e = .returned (.bool (decide (1 ≤ id) && decide (id ≤ (n : Int)))) ∧ w = w' := by
  cases h0 : decide (1 ≤ id)
  · rw [Bool.false_and]
    go_enter Try.func44, Try.ntmps44
    go_wp2
    go_ret
    exact ⟨rfl, rfl⟩
  · rw [Bool.true_and]
    go_enter Try.func44, Try.ntmps44
    go_wp2
    go_ret
    exact ⟨rfl, rfl⟩
/-- a keyring, taken apart -/
theorem KAt.open_ {T : Mk} {w : World} {t B : Nat} {eR eV : TypeId} {K : Ks} (h : KAt T w t eR eV B K) : ∃ A c, w.cell? ⟨B, 0, none⟩ = some (.slice A K.length c) ∧ Oct.row w B = some #[.slice A K.length c] ∧ RsAt T w (t + 1) eR eV (.slice A K.length c) K := by
  obtain ⟨v, hr, h2⟩ := h.row
  obtain ⟨A, c, rfl, _⟩ := h2.form
  exact ⟨A, c, by rw [cell_row hr]; rfl, hr, h2⟩

/-- a ring of it -/
theorem KAt.ring {T : Mk} {w : World} {t B : Nat} {eR eV : TypeId} {K : Ks} {id : Int} (h : KAt T w t eR eV B K) (hok : hasK K id = true) : ∃ (i : Nat) (hi : i < K.length) (g c : Nat) (vi : Value),
    id = (i : Int) + 1 ∧ i < 8 ∧ K.length ≤ 8 ∧ rgAt K id = K[i] ∧ T g = t + 1 ∧ w.cell? ⟨B, 0, none⟩ = some (.slice (some ⟨g, 0, none⟩) K.length c) ∧ Oct.row w B = some #[.slice (some ⟨g, 0, none⟩) K.length c] ∧ RsAt T w (t + 1) eR eV (.slice (some ⟨g, 0, none⟩) K.length c) K ∧
    K.length ≤ c ∧ (∀ j, w.frozen? ⟨g, j, none⟩ = false) ∧ w.cell? ⟨g, i * 2, none⟩ = some (.bool K[i].off) ∧ w.cell? ⟨g, i * 2 + 1, none⟩ = some vi ∧ VsAt T w (t + 1 + 1 + i) eV vi K[i].l ∧ (∀ r, putR K id r = K.set i r) := by
  obtain ⟨a1, a2⟩ := hasK_iff.1 hok
  obtain ⟨A, c, hc, hrow, hrs⟩ := h.open_
  obtain ⟨i, hi⟩ : ∃ i : Nat, id = (i : Int) + 1 := ⟨(id - 1).toNat, by omega⟩
  have hlt : i < K.length := by omega
  have ei : (id - 1).toNat = i := by omega
  have h8 := h.ok.1
  obtain ⟨A', c', e', hle, hmx, hform⟩ := hrs.form
  simp only [Value.slice.injEq] at e'
  obtain ⟨rfl, -, rfl⟩ := e'
  obtain ⟨g, cur, rfl, hg, hgr, hgh, hgs, hgc⟩ := hform (by omega)
  obtain ⟨k1, vi, k2, k3⟩ := hgc i hlt
  exact ⟨i, hlt, g, c, vi, hi, by omega, h8, rgAt_get i hlt ei, hg, hc, hrow, hrs, hle, fun j => froz_row hgr j, by rw [cell_row hgr]; exact k1, by rw [cell_row hgr]; exact k2, k3, fun r => by unfold putR; rw [ei]⟩
/-- a ring's versions changed, its slice as it was -/
theorem RsAt.at_ {T T' : Mk} {H : Nat → Prop} {w w' : World} {t : Nat} {eR eV : TypeId} {K : Ks} {g c i : Nat} (hi : i < K.length) {vi : Value} {l' : List Ve} (h : RsAt T w t eR eV (.slice (some ⟨g, 0, none⟩) K.length c) K) (hc : w.cell? ⟨g, i * 2 + 1, none⟩ = some vi)
    (hf : Fr T T' H w w') (hH : ∀ c, H c → c = t + 1 + i) (hv : VsAt T' w' (t + 1 + i) eV vi l') (hlen : l'.length = K[i].l.length) : RsAt T' w' t eR eV (.slice (some ⟨g, 0, none⟩) K.length c) (K.set i ⟨K[i].off, l'⟩) := by
  obtain ⟨xs, h1, h2⟩ := h.own
  refine ⟨⟨xs, by rw [List.length_set]; exact ownsRow_fr h1 h.tg hf (fun e => by have := hH _ e; omega), fun j hj => ?_⟩, tg_fr h1 h.tg hf⟩
  rw [List.length_set] at hj
  obtain ⟨h3, vj, h4, h5⟩ := h2 j hj
  by_cases hji : j = i
  · subst hji
    rw [List.getElem_set_self]
    have e := World.ownsRow.cellAt (w := w) h1 (j * 2 + 1) (by omega)
    rw [hc, h4] at e
    obtain rfl := Option.some.inj e
    exact ⟨h3, _, h4, hv⟩
  · rw [List.getElem_set_ne (fun e => hji e.symm)]
    exact ⟨h3, vj, h4, h5.fr hf (fun e => by have := hH _ e; omega)⟩
/-- put together again -/
theorem KAt.back {T T' : Mk} {w w' : World} {t B : Nat} {eR eV : TypeId} {K' : Ks} {v : Value} {H : Nat → Prop} (hB : T B = t) (hr : Oct.row w B = some #[v]) (hf : Fr T T' H w w') (hH : ¬ H t) (hrs : RsAt T' w' (t + 1) eR eV v K') (hok : okK K') : KAt T' w' t eR eV B K' :=
  ⟨by rw [hf.tag B (row_lt hr)]; exact hB, ⟨v, hf.rowAt hr (by rw [hB]; exact hH), hrs⟩, hok⟩

set_option maxRecDepth 20000 in
set_option maxHeartbeats 2000000 in
theorem rsw_any (T : Mk) (t B : Nat) (K : Ks) (id : Int) (on : Bool) (w : World) (h : KAt T w t 48 50 B K) :
    Calls Try.prog 34 #[.pointer (some ⟨B, 0, none⟩), .int .i64 id, .bool on] w fun e w' => e = .returned (.int .i64 (swE K id)) ∧ ∃ T', KAt T' w' t 48 50 B (swK K id on) ∧ Fk T T' t w w' := by
  have HH := Lib.hid h
  cases hok : hasK K id
  · obtain ⟨A, c, hc, hrow, hrs⟩ := h.open_
    rw [show swE K id = 130 by unfold swE; rw [hok]; rfl, show swK K id on = K by unfold swK; rw [hok]; rfl]
    go_enter Try.func34, Try.ntmps34
    go_wp2_with fail
    refine (ris_any B A K.length c id w hc).mono ?_
    rintro e w1 ⟨rfl, rfl⟩
    rw [show (decide (1 ≤ id) && decide (id ≤ (K.length : Int))) = false from hok]
    go_wp2_with fail
    go_ret
    exact ⟨rfl, T, HH.out, .same (Fr.refl _ _ _)⟩
  · obtain ⟨i, hi, g, c, vi, rfl, hi8, hl8, hrg, hg, hc, hrow, hrs, hle, hfr, hcell, -, -, hput⟩ := h.ring hok
    have hf0 := hfr (i * 2)
    have e1 : (i : Int) + 1 - 1 = (i : Int) := by omega
    have hF : Fr T T (fun c => c = t + 1) w (w.setCell ⟨g, i * 2, none⟩ (.bool (!on))) := Fr.cell (a := ⟨g, i * 2, none⟩) hg _
    have hswE : swE K ((i : Int) + 1) = 0 := by unfold swE; rw [hok]; rfl
    have hswK : swK K ((i : Int) + 1) on = K.set i ⟨!on, K[i].l⟩ := by unfold swK; rw [if_pos hok, hput, hrg]
    have HK := Lib.hid (KAt.back h.tg hrow hF (by omega) (hrs.setOff hi (!on)) (hswK ▸ swK_ok (id := (i : Int) + 1) h.ok on))
    have HF := Lib.hid (hF.mono (H' := Hk t) fun c e => by rw [e]; exact ⟨by omega, by omega⟩)
    rw [hswE, hswK]
    clear h HH hrs hfr hswK hswE hF hrg hput hrow
    go_enter Try.func34, Try.ntmps34
    go_wp2_with fail
    refine (ris_any B _ K.length c ((i : Int) + 1) w hc).mono ?_
    rintro e w1 ⟨rfl, rfl⟩
    rw [show (decide (1 ≤ (i : Int) + 1) && decide ((i : Int) + 1 ≤ (K.length : Int))) = true from hok]
    go_wp2_with fail
    exact bodyPost_ret (v := .int .i64 0) (by simp [results, Try.results34, go_sem]) rfl ⟨rfl, T, HK.out, .same HF.out⟩
end Go.Proofs.Ytabchkcieddhpaa.Oct
