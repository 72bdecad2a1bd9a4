/- Contract of the reference's Material. -/
import Derived.Test.YtabchkcieddhpaaKrC
namespace Go.Proofs.Ytabchkcieddhpaa.Oct
open Go.ChangeShapes Go.WideShapes Go.ChangeAt Go.RowKit
set_option linter.unusedVariables false

set_option maxRecDepth 20000 in
set_option maxHeartbeats 4000000 in
theorem rmt_any (T : Mk) (t B : Nat) (K : Ks) (id ver : Int) (w : World) (h : KAt T w t 48 50 B K) :
    Calls Try.prog 37 #[.pointer (some ⟨B, 0, none⟩), .int .i64 id, .int .i64 ver] w fun e w' => e = .returned (.tuple #[.agg (ba 32 (mtM K id ver)), .int .i64 (mtE K id ver)]) ∧ Below w.heap.size w w' := by
  have hfin : ∀ (tm : Array Value) (e : Int) (f : Bf), tm.getD 6 undef = .pointer (some ⟨w.heap.size, 0, none⟩) → tm.getD 7 undef = .int .i64 e → ∀ (w2 : World), Below w.heap.size w w2 → row w2 w.heap.size = some (ba 32 f) →
      bodyPost Try.prog Try.f37 (fun e' w' => e' = .returned (.tuple #[.agg (ba 32 f), .int .i64 e]) ∧ Below w.heap.size w w') .ret { tmps := tm, defers := [] } w2 := by
    intro tm e f h6 h7 w2 hb q2
    refine bodyPost_ret (v := .tuple #[.agg (ba 32 f), .int .i64 e]) ?_ rfl ⟨rfl, hb⟩
    rw [← h7]
    exact res_ctK (p := 6) (u := 7) rfl _ _ w.heap.size (ba 32 f) _ h6 q2 kk_u rfl (by rw [ba_size]; exact kk_i)
  have HFIN := Lib.hid hfin
  obtain ⟨w0, hw0⟩ : ∃ w0, w0 = w.alloc (.cells (ba 32 fun _ => 0#8) 32) := ⟨_, rfl⟩
  have B0 := Lib.hid (show Below w.heap.size w w0 by rw [hw0]; exact (Below.refl w.heap.size w).alloc (by simp) _)
  have hz0 : w0.heap.size = w.heap.size + 1 := by rw [hw0]; simp
  have rk0 : row w0 w.heap.size = some (ba 32 fun _ => 0#8) := by rw [hw0]; exact row_alloc_at _ _ _ _ rfl
  clear hfin
  cases hok : hasK K id
  · obtain ⟨A, c, hc, hrow, hrs⟩ := h.open_
    have hno : hasV K id ver = false := by unfold hasV; rw [hok]; rfl
    have hE : mtE K id ver = 130 := by unfold mtE; rw [hno]; rfl
    rw [show mtM K id ver = fun _ => 0#8 by unfold mtM; rw [hE]; rfl, hE]
    have hc0 := (B0.out.cell (p := ⟨B, 0, none⟩) (row_lt hrow)).trans hc
    have HIS := Lib.hid (ris_any B A K.length c id w0 hc0)
    clear h hrs
    go_enter Try.func37, Try.ntmps37
    go_wp2_with fail
    rw [← hw0]
    refine HIS.out.mono ?_
    rintro e w1 ⟨rfl, rfl⟩
    rw [show (decide (1 ≤ id) && decide (id ≤ (K.length : Int))) = false from hok]
    clear hw0
    go_wp2_with fail
    rw [setRow_self rk0]
    exact HFIN.out _ _ _ rfl rfl _ B0.out rk0
  · obtain ⟨i, hi, g, c, vi, rfl, hi8, hl8, hrg, hg, hc, hrow, hrs, hle, hfr, hcell, hcell2, hvs, hput⟩ := h.ring hok
    have hR := h.ok.ring hok
    rw [hrg] at hR
    obtain ⟨g2, c2, cur2, rfl, hle2, hm2, hg2, hr2, hfr2, hcells⟩ := hvs.open_ (by have := hR.1.1; omega)
    have hl4 := hR.1.2
    have e1 : (i : Int) + 1 - 1 = (i : Int) := by omega
    have zg : g < w.heap.size := World.block_lt_of_cell? w _ hcell
    have zg2 : g2 < w.heap.size := row_lt hr2
    have hc0 := (B0.out.cell (p := ⟨B, 0, none⟩) (row_lt hrow)).trans hc
    have HIS := Lib.hid (ris_any B _ K.length c ((i : Int) + 1) w0 hc0)
    have y0 := (B0.out.cell (p := ⟨g, i * 2, none⟩) zg).trans hcell
    have y1 := (B0.out.cell (p := ⟨g, i * 2 + 1, none⟩) zg).trans hcell2
    by_cases hv1 : ver < 1
    · have hno : hasV K ((i : Int) + 1) ver = false := by
        cases hh : hasV K ((i : Int) + 1) ver
        · rfl
        · have := (hasV_iff.1 hh).2.1; omega
      have hE : mtE K ((i : Int) + 1) ver = 130 := by unfold mtE; rw [hno]; rfl
      rw [show mtM K ((i : Int) + 1) ver = fun _ => 0#8 by unfold mtM; rw [hE]; rfl, hE]
      have hd : decide (ver < 1) = true := by simpa using hv1
      clear h hcells hrs hput hvs hR hE hfr hfr2 hcell hcell2 hz0 hr2 hc
      go_enter Try.func37, Try.ntmps37
      go_wp2_with fail
      rw [← hw0]
      refine HIS.out.mono ?_
      rintro e w1 ⟨rfl, rfl⟩
      rw [show (decide (1 ≤ (i : Int) + 1) && decide ((i : Int) + 1 ≤ (K.length : Int))) = true from hok]
      clear hw0
      go_wp2_with fail
      rw [setRow_self rk0]
      exact HFIN.out _ _ _ rfl rfl _ B0.out rk0
    have hd : decide (ver < 1) = false := by simpa using hv1
    by_cases hv2 : (K[i].l.length : Int) < ver
    · have hno : hasV K ((i : Int) + 1) ver = false := by
        cases hh : hasV K ((i : Int) + 1) ver
        · rfl
        · have := (hasV_iff.1 hh).2.2; rw [hrg] at this; omega
      have hE : mtE K ((i : Int) + 1) ver = 130 := by unfold mtE; rw [hno]; rfl
      rw [show mtM K ((i : Int) + 1) ver = fun _ => 0#8 by unfold mtM; rw [hE]; rfl, hE]
      have hd2 : decide ((K[i].l.length : Int) < ver) = true := by simpa using hv2
      clear h hcells hrs hput hvs hR hE hfr hfr2 hcell hcell2 hz0 hr2 hc
      go_enter Try.func37, Try.ntmps37
      go_wp2_with fail
      rw [← hw0]
      refine HIS.out.mono ?_
      rintro e w1 ⟨rfl, rfl⟩
      rw [show (decide (1 ≤ (i : Int) + 1) && decide ((i : Int) + 1 ≤ (K.length : Int))) = true from hok]
      clear hw0
      go_wp2_with fail
      rw [setRow_self rk0]
      exact HFIN.out _ _ _ rfl rfl _ B0.out rk0
    have hd2 : decide ((K[i].l.length : Int) < ver) = false := by simpa using hv2
    obtain ⟨k, hk, rfl, hve, hpv⟩ := ver_num (r := K[i]) (v := ver) (by omega) (by omega)
    have hk4 : k < 4 := by omega
    have e2 : (k : Int) + 1 - 1 = (k : Int) := by omega
    have hyes : hasV K ((i : Int) + 1) ((k : Int) + 1) = true := hasV_iff.2 ⟨hasK_iff.1 hok, by omega, by rw [hrg]; omega⟩
    obtain ⟨k1, k2, k3⟩ := hcells k hk
    cases hoff : K[i].off
    · rw [hoff] at y0
      obtain ⟨x, hx⟩ : ∃ x, x = K[i].l[k] := ⟨_, rfl⟩
      rw [← hx] at k1 hve
      have hld := ver_cells w0 g2 (k * 34) x fun j hj => (B0.out.cell (p := ⟨g2, k * 34 + j, none⟩) zg2).trans (k1 j hj)
      have B1 := Lib.hid (B0.out.alloc B0.out.size (.cells (veA x) 50))
      have rk1 := row_alloc rk0 (.cells (veA x) 50)
      cases hgn : x.g
      · have hE : mtE K ((i : Int) + 1) ((k : Int) + 1) = 0 := by unfold mtE; rw [hyes, hrg, hve, hoff, hgn]; rfl
        rw [show mtM K ((i : Int) + 1) ((k : Int) + 1) = x.m by unfold mtM; rw [if_pos hE, hrg, hve], hE]
        clear h hcells hrs hput hvs hR hE hfr hfr2 hcell hcell2 k1 hz0 hr2 hc hx hyes hpv hve
        go_enter Try.func37, Try.ntmps37
        go_wp2_with fail
        rw [← hw0]
        refine HIS.out.mono ?_
        rintro e w1 ⟨rfl, rfl⟩
        rw [show (decide (1 ≤ (i : Int) + 1) && decide ((i : Int) + 1 ≤ (K.length : Int))) = true from hok]
        clear hw0
        go_wp2_with fail
        exact HFIN.out _ _ _ rfl rfl _ (below_setRow B1.out (Nat.le_refl _) _) (row_setRow rk1 _)
      · have hE : mtE K ((i : Int) + 1) ((k : Int) + 1) = 132 := by unfold mtE; rw [hyes, hrg, hve, hoff, hgn]; rfl
        rw [show mtM K ((i : Int) + 1) ((k : Int) + 1) = fun _ => 0#8 by unfold mtM; rw [hE]; rfl, hE]
        clear h hcells hrs hput hvs hR hE hfr hfr2 hcell hcell2 k1 hz0 hr2 hc hx hyes hpv hve
        go_enter Try.func37, Try.ntmps37
        go_wp2_with fail
        rw [← hw0]
        refine HIS.out.mono ?_
        rintro e w1 ⟨rfl, rfl⟩
        rw [show (decide (1 ≤ (i : Int) + 1) && decide ((i : Int) + 1 ≤ (K.length : Int))) = true from hok]
        clear hw0
        go_wp2_with fail
        rw [setRow_self rk1]
        exact HFIN.out _ _ _ rfl rfl _ B1.out rk1
    · rw [hoff] at y0
      have hE : mtE K ((i : Int) + 1) ((k : Int) + 1) = 131 := by unfold mtE; rw [hyes, hrg, hoff]; rfl
      rw [show mtM K ((i : Int) + 1) ((k : Int) + 1) = fun _ => 0#8 by unfold mtM; rw [hE]; rfl, hE]
      clear h hcells hrs hput hvs hR hE hfr hfr2 hcell hcell2 hz0 hr2 hc
      go_enter Try.func37, Try.ntmps37
      go_wp2_with fail
      rw [← hw0]
      refine HIS.out.mono ?_
      rintro e w1 ⟨rfl, rfl⟩
      rw [show (decide (1 ≤ (i : Int) + 1) && decide ((i : Int) + 1 ≤ (K.length : Int))) = true from hok]
      clear hw0
      go_wp2_with fail
      rw [setRow_self rk0]
      exact HFIN.out _ _ _ rfl rfl _ B0.out rk0
end Go.Proofs.Ytabchkcieddhpaa.Oct
