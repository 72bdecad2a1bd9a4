/- Contract of the reference's Destroy. -/
import Derived.Test.YtabchkcieddhpaaKrA
import Derived.Test.YtabchkcieddhpaaKrU
namespace Go.Proofs.Ytabchkcieddhpaa.Oct
open Go.ChangeShapes Go.WideShapes Go.ChangeAt Go.RowKit
set_option linter.unusedVariables false

/-- a version's number -/
theorem ver_num {r : Rg} {v : Int} (h1 : 1 ≤ v) (h2 : v ≤ (r.l.length : Int)) : ∃ (k : Nat) (hk : k < r.l.length), v = (k : Int) + 1 ∧ veAt r v = r.l[k] ∧ ∀ x, putV r v x = ⟨r.off, r.l.set k x⟩ := by
  have e : (v - 1).toNat < r.l.length := by omega
  exact ⟨(v - 1).toNat, e, by omega, veAt_get _ e rfl, fun x => rfl⟩

set_option maxRecDepth 20000 in
set_option maxHeartbeats 4000000 in
theorem rds_any (T : Mk) (t B : Nat) (K : Ks) (id ver : Int) (w : World) (h : KAt T w t 48 50 B K) :
    Calls Try.prog 35 #[.pointer (some ⟨B, 0, none⟩), .int .i64 id, .int .i64 ver] w fun e w' => e = .returned (.int .i64 (dsE K id ver)) ∧ ∃ T', KAt T' w' t 48 50 B (dsK K id ver) ∧ Fk T T' t w w' := by
  have HH := Lib.hid h
  cases hok : hasK K id
  · obtain ⟨A, c, hc, hrow, hrs⟩ := h.open_
    have hno : hasV K id ver = false := by unfold hasV; rw [hok]; rfl
    have hE : dsE K id ver = 130 := by unfold dsE; rw [hno]; rfl
    rw [show dsK K id ver = K by unfold dsK; rw [hE]; rfl, hE]
    go_enter Try.func35, Try.ntmps35
    go_wp2_with fail
    refine (ris_any B A K.length c id w hc).mono ?_
    rintro e w1 ⟨rfl, rfl⟩
    rw [show (decide (1 ≤ id) && decide (id ≤ (K.length : Int))) = false from hok]
    go_wp2_with fail
    go_ret
    exact ⟨rfl, T, HH.out, .same (Fr.refl _ _ _)⟩
  · obtain ⟨i, hi, g, c, vi, rfl, hi8, hl8, hrg, hg, hc, hrow, hrs, hle, hfr, hcell, hcell2, hvs, hput⟩ := h.ring hok
    have hR := h.ok.ring hok
    rw [hrg] at hR
    obtain ⟨g2, c2, cur2, rfl, hle2, hm2, hg2, hr2, hfr2, hcells⟩ := hvs.open_ (by have := hR.1.1; omega)
    have hl4 := hR.1.2
    have e1 : (i : Int) + 1 - 1 = (i : Int) := by omega
    have HIS := Lib.hid (ris_any B _ K.length c ((i : Int) + 1) w hc)
    by_cases hv1 : ver < 1
    · have hno : hasV K ((i : Int) + 1) ver = false := by
        cases hh : hasV K ((i : Int) + 1) ver
        · rfl
        · have := (hasV_iff.1 hh).2.1; omega
      have hE : dsE K ((i : Int) + 1) ver = 130 := by unfold dsE; rw [hno]; rfl
      rw [show dsK K ((i : Int) + 1) ver = K by unfold dsK; rw [hE]; rfl, hE]
      have hd : decide (ver < 1) = true := by simpa using hv1
      clear hcells hrs hput hno hE
      go_enter Try.func35, Try.ntmps35
      go_wp2_with fail
      refine (HIS.out).mono ?_
      rintro e w1 ⟨rfl, rfl⟩
      rw [show (decide (1 ≤ (i : Int) + 1) && decide ((i : Int) + 1 ≤ (K.length : Int))) = true from hok]
      go_wp2_with fail
      go_ret
      exact ⟨rfl, T, HH.out, .same (Fr.refl _ _ _)⟩
    have hd : decide (ver < 1) = false := by simpa using hv1
    by_cases hv2 : (K[i].l.length : Int) < ver
    · have hno : hasV K ((i : Int) + 1) ver = false := by
        cases hh : hasV K ((i : Int) + 1) ver
        · rfl
        · have := (hasV_iff.1 hh).2.2; rw [hrg] at this; omega
      have hE : dsE K ((i : Int) + 1) ver = 130 := by unfold dsE; rw [hno]; rfl
      rw [show dsK K ((i : Int) + 1) ver = K by unfold dsK; rw [hE]; rfl, hE]
      have hd2 : decide ((K[i].l.length : Int) < ver) = true := by simpa using hv2
      clear hcells hrs hput hno hE
      go_enter Try.func35, Try.ntmps35
      go_wp2_with fail
      refine (HIS.out).mono ?_
      rintro e w1 ⟨rfl, rfl⟩
      rw [show (decide (1 ≤ (i : Int) + 1) && decide ((i : Int) + 1 ≤ (K.length : Int))) = true from hok]
      go_wp2_with fail
      go_ret
      exact ⟨rfl, T, HH.out, .same (Fr.refl _ _ _)⟩
    have hd2 : decide ((K[i].l.length : Int) < ver) = false := by simpa using hv2
    obtain ⟨k, hk, rfl, hve, hpv⟩ := ver_num (r := K[i]) (v := ver) (by omega) (by omega)
    have hk4 : k < 4 := by omega
    have e2 : (k : Int) + 1 - 1 = (k : Int) := by omega
    have hyes : hasV K ((i : Int) + 1) ((k : Int) + 1) = true := hasV_iff.2 ⟨hasK_iff.1 hok, by omega, by rw [hrg]; omega⟩
    obtain ⟨k1, k2, k3⟩ := hcells k hk
    cases hgn : K[i].l[k].g
    · have hE : dsE K ((i : Int) + 1) ((k : Int) + 1) = 0 := by unfold dsE; rw [if_pos hyes, hrg, hve, hgn]; rfl
      have hK : dsK K ((i : Int) + 1) ((k : Int) + 1) = K.set i ⟨K[i].off, K[i].l.set k ⟨fun _ => 0#8, K[i].l[k].u, true⟩⟩ := by
        unfold dsK; rw [if_pos hE, hput, hrg, hpv, hve]
      have hokK := hK ▸ dsK_ok (id := (i : Int) + 1) (v := (k : Int) + 1) h.ok
      rw [hgn] at k3
      have hx : K[i].l[k]? = some K[i].l[k] := List.getElem?_eq_getElem hk
      have V1 := hvs.setOne (u := .bool true) rfl hx (show 33 < 34 by omega) (veC_setG _ _)
      have F1 : Fr T T (fun c => c = t + 1 + 1 + i) w (w.setCell ⟨g2, k * 34 + 33, none⟩ (.bool true)) := Fr.cell (a := ⟨g2, k * 34 + 33, none⟩) hg2 _
      obtain ⟨cur3, hr3⟩ := V1.row_ rfl (by omega)
      have hx2 : (K[i].l.set k ⟨K[i].l[k].m, K[i].l[k].u, true⟩)[k]? = some ⟨K[i].l[k].m, K[i].l[k].u, true⟩ := List.getElem?_set_self hk
      obtain ⟨hst, V2⟩ := V1.setMat (f := fun _ => 0#8) rfl hx2 hr3
      have hst' := hst Try.prog 32
      rw [List.set_set] at V2
      generalize hW1 : w.setCell ⟨g2, k * 34 + 33, none⟩ (.bool true) = w1 at F1 hr3 hst V2 hst'
      have F2 := F1.trans (Fr.row (w := w1) (H := fun c => c = t + 1 + 1 + i) (B := g2) (by show T g2 = _; exact hg2) (spl cur3 (k * 34) (ba 32 fun _ => 0#8).toList))
      have hV2 := V2
      have HK := Lib.hid (KAt.back h.tg hrow F2 (by omega) (hrs.at_ hi hcell2 F2 (fun c e => e) hV2 (by rw [List.length_set])) hokK)
      have HF := Lib.hid (F2.mono (H' := Hk t) fun c e => by rw [e]; exact ⟨by omega, by omega⟩)
      have hf1 := hfr2 (k * 34 + 33)
      rw [hK, hE]
      generalize hW2 : w1.setRow g2 (spl cur3 (k * 34) (ba 32 fun _ => 0#8).toList) = w2 at HK HF hst' hst V2 F2 hV2
      clear hcells hrs hput hyes hE k1 hK hokK V1 F1 hst V2 hV2 F2 hvs hfr hfr2 HH hx hx2
      go_enter Try.func35, Try.ntmps35
      go_wp2_with fail
      refine (HIS.out).mono ?_
      rintro e w1' ⟨rfl, rfl⟩
      rw [show (decide (1 ≤ (i : Int) + 1) && decide ((i : Int) + 1 ≤ (K.length : Int))) = true from hok]
      go_wp2_with fail
      exact bodyPost_ret (v := .int .i64 0) (by simp [results, Try.results35, go_sem]) rfl ⟨rfl, T, HK.out, .same HF.out⟩
    · have hE : dsE K ((i : Int) + 1) ((k : Int) + 1) = 132 := by unfold dsE; rw [hyes, hrg, hve, hgn]; rfl
      rw [show dsK K ((i : Int) + 1) ((k : Int) + 1) = K by unfold dsK; rw [hE]; rfl, hE]
      rw [hgn] at k3
      clear hcells hrs hput hyes hE k1
      go_enter Try.func35, Try.ntmps35
      go_wp2_with fail
      refine (HIS.out).mono ?_
      rintro e w1 ⟨rfl, rfl⟩
      rw [show (decide (1 ≤ (i : Int) + 1) && decide ((i : Int) + 1 ≤ (K.length : Int))) = true from hok]
      go_wp2_with fail
      go_ret
      exact ⟨rfl, T, HH.out, .same (Fr.refl _ _ _)⟩
end Go.Proofs.Ytabchkcieddhpaa.Oct
