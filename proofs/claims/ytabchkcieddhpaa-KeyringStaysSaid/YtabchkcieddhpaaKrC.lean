/- Contract of the reference's Use and Material. -/
import Derived.Test.YtabchkcieddhpaaKrB
namespace Go.Proofs.Ytabchkcieddhpaa.Oct
open Go.ChangeShapes Go.WideShapes Go.ChangeAt Go.RowKit
set_option linter.unusedVariables false

/-- a cell stored in two worlds that are the same below -/
theorem below_cell2 {D : Nat} {w w' : World} (h : Below D w w') (a : Addr) (v : Value) : Below D (w.setCell a v) (w'.setCell a v) := by
  refine ⟨h.os, h.tape, h.output, ?_, fun k hk => ?_⟩
  · have := h.size
    simpa [World.setCell] using this
  · simp only [World.setCell, Array.getElem?_modify, h.block k hk]
theorem Fr.same {T : Mk} {H : Nat → Prop} {w w' : World} (h : Below w.heap.size w w') : Fr T T H w w' := Fr.calm h fun _ _ => rfl

set_option maxRecDepth 20000 in
set_option maxHeartbeats 4000000 in
theorem rus_any (T : Mk) (t B : Nat) (K : Ks) (id : Int) (w : World) (h : KAt T w t 48 50 B K) :
    Calls Try.prog 36 #[.pointer (some ⟨B, 0, none⟩), .int .i64 id] w fun e w' => e = .returned (.tuple #[.int .i64 (usV K id), .int .i64 (usC K id), .agg (ba 32 (usM K id)), .int .i64 (usE K id)]) ∧ ∃ T', KAt T' w' t 48 50 B (usK K id) ∧ Fk T T' t w w' := by
  have HH := Lib.hid h
  have hfin : ∀ (tm : Array Value) (v c e : Int) (f : Bf), tm.getD 6 undef = .pointer (some ⟨w.heap.size, 0, none⟩) → tm.getD 4 undef = .int .i64 v → tm.getD 5 undef = .int .i64 c → tm.getD 7 undef = .int .i64 e → ∀ (w2 : World) (K' : Ks), (∃ T', KAt T' w2 t 48 50 B K' ∧ Fk T T' t w w2) → row w2 w.heap.size = some (ba 32 f) →
      bodyPost Try.prog Try.f36 (fun e' w' => e' = .returned (.tuple #[.int .i64 v, .int .i64 c, .agg (ba 32 f), .int .i64 e]) ∧ ∃ T', KAt T' w' t 48 50 B K' ∧ Fk T T' t w w') .ret { tmps := tm, defers := [] } w2 := by
    intro tm v c e f h6 h4 h5 h7 w2 K' hk q2
    refine bodyPost_ret (v := .tuple #[.int .i64 v, .int .i64 c, .agg (ba 32 f), .int .i64 e]) ?_ rfl ⟨rfl, hk⟩
    rw [← h4, ← h5, ← h7]
    exact res_ttctK (q := 4) (r := 5) (p := 6) (u := 7) rfl _ _ w.heap.size (ba 32 f) _ h6 q2 kk_u rfl (by rw [ba_size]; exact kk_i)
  have HFIN := Lib.hid hfin
  have B0 := Lib.hid ((Below.refl w.heap.size w).alloc (by simp) (.cells (ba 32 fun _ => 0#8) 32))
  clear hfin
  cases hok : hasK K id
  · obtain ⟨A, c, hc, hrow, hrs⟩ := h.open_
    have hE : usE K id = 130 := by unfold usE; rw [hok]; rfl
    rw [show usV K id = 0 by unfold usV; rw [hE]; rfl, show usC K id = 0 by unfold usC; rw [hE]; rfl, show usM K id = fun _ => 0#8 by unfold usM; rw [hE]; rfl, show usK K id = K by unfold usK; rw [hE]; rfl, hE]
    have hc0 := (B0.out.cell (p := ⟨B, 0, none⟩) (row_lt hrow)).trans hc
    go_enter Try.func36, Try.ntmps36
    go_wp2_with fail
    refine (ris_any B A K.length c id _ hc0).mono ?_
    rintro e w1 ⟨rfl, rfl⟩
    rw [show (decide (1 ≤ id) && decide (id ≤ (K.length : Int))) = false from hok]
    go_wp2_with fail
    exact HFIN.out _ _ _ _ _ rfl rfl rfl rfl _ _ ⟨T, HH.out.fr (Fr.same (H := fun _ => False) B0.out) (fun _ _ e => e), .same (Fr.same B0.out)⟩ (row_alloc_at _ _ _ _ rfl)
  · obtain ⟨i, hi, g, c, vi, rfl, hi8, hl8, hrg, hg, hc, hrow, hrs, hle, hfr, hcell, hcell2, hvs, hput⟩ := h.ring hok
    have hR := h.ok.ring hok
    rw [hrg] at hR
    obtain ⟨g2, c2, cur2, rfl, hle2, hm2, hg2, hr2, hfr2, hcells⟩ := hvs.open_ (by have := hR.1.1; omega)
    have hl4 := hR.1.2
    obtain ⟨k, hk⟩ : ∃ k, K[i].l.length = k + 1 := ⟨K[i].l.length - 1, by have := hR.1.1; omega⟩
    have hkl : k < K[i].l.length := by omega
    have hlast : lastV (rgAt K ((i : Int) + 1)) = K[i].l[k] := by unfold lastV; rw [hrg]; exact veAt_get k hkl (by omega)
    have e1 : (i : Int) + 1 - 1 = (i : Int) := by omega
    have hk4 : k < 4 := by omega
    have e2 : ((k + 1 : Nat) : Int) - 1 = (k : Int) := by omega
    rw [hk] at hcell2 hle2
    obtain ⟨k1, k2, k3⟩ := hcells k hkl
    have zg : g < w.heap.size := World.block_lt_of_cell? w _ hcell
    have zg2 : g2 < w.heap.size := row_lt hr2
    have zB := row_lt hrow
    obtain ⟨w0, hw0⟩ : ∃ w0, w0 = w.alloc (.cells (ba 32 fun _ => 0#8) 32) := ⟨_, rfl⟩
    rw [← hw0] at B0
    have hz0 : w0.heap.size = w.heap.size + 1 := by rw [hw0]; simp
    have rk0 : row w0 w.heap.size = some (ba 32 fun _ => 0#8) := by rw [hw0]; exact row_alloc_at _ _ _ _ rfl
    have hc0 := (B0.out.cell (p := ⟨B, 0, none⟩) zB).trans hc
    have hld0 := rin_cells w0 g (i * 2) K[i].off _ ((B0.out.cell (p := ⟨g, i * 2, none⟩) zg).trans hcell) ((B0.out.cell (p := ⟨g, i * 2 + 1, none⟩) zg).trans hcell2)
    obtain ⟨w1, hw1⟩ : ∃ w1, w1 = w0.alloc (.cells (rgA K[i].off (.slice (some ⟨g2, 0, none⟩) (k + 1) c2)) 48) := ⟨_, rfl⟩
    have B1 := Lib.hid (show Below w.heap.size w w1 by rw [hw1]; exact B0.out.alloc B0.out.size _)
    have rk1 : row w1 w.heap.size = some (ba 32 fun _ => 0#8) := by rw [hw1]; exact row_alloc rk0 _
    have rx1 : row w1 (w.heap.size + 1) = some (rgA K[i].off (.slice (some ⟨g2, 0, none⟩) (k + 1) c2)) := by rw [hw1]; exact row_alloc_at _ _ _ _ hz0.symm
    have x0 := rgA_c0 rx1
    have x1 := rgA_c1 rx1
    have y2 := (B1.out.cell (p := ⟨g2, k * 34 + 32, none⟩) zg2).trans k2
    have y3 := (B1.out.cell (p := ⟨g2, k * 34 + 33, none⟩) zg2).trans k3
    have HIS := Lib.hid (ris_any B _ K.length c ((i : Int) + 1) w0 hc0)
    have HW1 := Lib.hid hw1
    have HZ0 := Lib.hid hz0
    have KEEP := Lib.hid (show ∃ T', KAt T' w1 t 48 50 B K ∧ Fk T T' t w w1 from ⟨T, HH.out.fr (Fr.same (H := fun _ => False) B1.out) (fun _ _ e => e), .same (Fr.same B1.out)⟩)
    cases hoff : K[i].off
    · rw [hoff] at hld0 x0 rx1 hw1
      cases hgn : K[i].l[k].g
      · rw [hgn] at y3
        by_cases hu : 16 ≤ K[i].l[k].u
        · have hE : usE K ((i : Int) + 1) = 133 := by unfold usE; rw [if_pos hok, hlast, hrg, hoff, hgn, if_pos hu]; rfl
          rw [show usV K ((i : Int) + 1) = 0 by unfold usV; rw [hE]; rfl, show usC K ((i : Int) + 1) = 0 by unfold usC; rw [hE]; rfl, show usM K ((i : Int) + 1) = fun _ => 0#8 by unfold usM; rw [hE]; rfl, show usK K ((i : Int) + 1) = K by unfold usK; rw [hE]; rfl, hE]
          have hd : decide (16 ≤ K[i].l[k].u) = true := by simpa using hu
          clear h hcells hrs hput hvs hR hE hfr hfr2 hcell hcell2 k1 hz0 HW1 hr2 hc
          go_enter Try.func36, Try.ntmps36
          go_wp2_with fail
          rw [← hw0]
          refine (HIS.out).mono ?_
          rintro e w1' ⟨rfl, rfl⟩
          rw [show (decide (1 ≤ (i : Int) + 1) && decide ((i : Int) + 1 ≤ (K.length : Int))) = true from hok]
          clear hw0
          subst hw1
          go_wp2_with fail
          rw [setRow_self rk1]
          exact HFIN.out _ _ _ _ _ rfl rfl rfl rfl _ _ KEEP.out rk1
        · have hd : decide (16 ≤ K[i].l[k].u) = false := by simpa using hu
          have hE : usE K ((i : Int) + 1) = 0 := by unfold usE; rw [if_pos hok, hlast, hrg, hoff, hgn, if_neg hu]; rfl
          have hok' := hR.last
          rw [← hrg, hlast] at hok'
          have hu0 : 0 ≤ K[i].l[k].u ∧ K[i].l[k].u < 16 := ⟨hok'.1.1, by omega⟩
          obtain ⟨x, hx⟩ : ∃ x : Ve, x = ⟨K[i].l[k].m, K[i].l[k].u + 1, false⟩ := ⟨_, rfl⟩
          have hKK : usK K ((i : Int) + 1) = K.set i ⟨K[i].off, K[i].l.set k x⟩ := by
            unfold usK putV; rw [if_pos hE, hput, hlast, hrg, hgn, hx, show ((K[i].l.length : Int) - 1).toNat = k by omega]
          have hokK := hKK ▸ usK_ok (id := (i : Int) + 1) h.ok
          have hxe : (veC K[i].l[k]).set 32 (.int .i64 (K[i].l[k].u + 1)) = veC x := by rw [veC_setU, hx, hgn]
          have V1 := hvs.setOne (u := .int .i64 (K[i].l[k].u + 1)) rfl (List.getElem?_eq_getElem hkl) (show 32 < 34 by omega) hxe
          have F1 : Fr T T (fun c => c = t + 1 + 1 + i) w (w.setCell ⟨g2, k * 34 + 32, none⟩ (.int .i64 (K[i].l[k].u + 1))) := Fr.cell (a := ⟨g2, k * 34 + 32, none⟩) hg2 _
          rw [hk] at V1
          have KV := KAt.back h.tg hrow F1 (by omega) (hrs.at_ hi hcell2 F1 (fun c e => e) V1 (by rw [List.length_set])) hokK
          obtain ⟨g3, c3, cur3, e3, -, -, -, hr3, -, hcells3⟩ := V1.open_ (by rw [List.length_set]; omega)
          simp only [Value.slice.injEq, Option.some.injEq, Addr.mk.injEq] at e3
          obtain ⟨⟨rfl, -⟩, -, rfl⟩ := e3
          obtain ⟨m1, m2, -⟩ := hcells3 k (by rw [List.length_set]; omega)
          rw [List.getElem_set_self] at m1 m2
          have B2 := below_cell2 B1.out ⟨g2, k * 34 + 32, none⟩ (.int .i64 (K[i].l[k].u + 1))
          obtain ⟨U, hU⟩ : ∃ U, U = K[i].l[k].u := ⟨_, rfl⟩
          have hfz : w1.frozen? ⟨g2, k * 34 + 32, none⟩ = false := froz_row (by rw [row_below B1.out zg2]; exact hr2) _
          have zv : (w.setCell ⟨g2, k * 34 + 32, none⟩ (.int .i64 (K[i].l[k].u + 1))).heap.size = w.heap.size := by simp [World.setCell]
          obtain ⟨w2, hw2⟩ : ∃ w2, w2 = w1.setCell ⟨g2, k * 34 + 32, none⟩ (.int .i64 (K[i].l[k].u + 1)) := ⟨_, rfl⟩
          rw [← hw2] at B2
          generalize w.setCell ⟨g2, k * 34 + 32, none⟩ (.int .i64 (K[i].l[k].u + 1)) = wv at KV F1 V1 hr3 hcells3 m1 m2 B2 zv
          have B2' := Lib.hid (show Below wv.heap.size wv w2 by rw [zv]; exact B2)
          have HKV := Lib.hid KV
          have HF1 := Lib.hid (F1.mono (H' := Hk t) fun c e => by rw [e]; exact ⟨by omega, by omega⟩)
          have s1 : w2.heap.size = w1.heap.size := by rw [hw2]; simp [World.setCell]
          have r1 : row w2 w.heap.size = some (ba 32 fun _ => 0#8) := by rw [hw2, row_heap (Below.heap_setCell w1 _ _ _ (by show w.heap.size ≠ g2; omega))]; exact rk1
          have r2 : row w2 w0.heap.size = some (rgA false (.slice (some ⟨g2, 0, none⟩) (k + 1) c2)) := by
            rw [hw2, row_heap (Below.heap_setCell w1 _ _ _ (by show w0.heap.size ≠ g2; omega)), hz0]; exact rx1
          have r3 := rgA_c1 r2
          have n1 : ∀ j, j < 34 → w2.cell? ⟨g2, k * 34 + j, none⟩ = (veC x)[j]? := fun j hj => (B2.cell (p := ⟨g2, k * 34 + j, none⟩) zg2).trans (m1 j hj)
          have n2 : w2.cell? ⟨g2, k * 34 + 32, none⟩ = some (.int .i64 (K[i].l[k].u + 1)) := (B2.cell (p := ⟨g2, k * 34 + 32, none⟩) zg2).trans (by rw [m2, hx])
          have hzz : g2 < w2.heap.size ∧ w0.heap.size < w2.heap.size := ⟨by have := B1.out.size; omega, row_lt r2⟩
          rw [show usV K ((i : Int) + 1) = ((k + 1 : Nat) : Int) by unfold usV; rw [if_pos hE, hrg, hk], show usC K ((i : Int) + 1) = K[i].l[k].u by unfold usC; rw [if_pos hE, hlast], show usM K ((i : Int) + 1) = x.m by unfold usM; rw [if_pos hE, hlast, hx], hKK, hE]
          have HX := Lib.hid hx
          clear h hcells hrs hput hvs hR hE hfr hfr2 hcell hcell2 k1 hz0 HW1 hr2 hc hKK hokK hxe V1 F1 KV hcells3 m1 m2 B2 hr3 hx hok'
          go_enter Try.func36, Try.ntmps36
          go_wp2_with fail
          rw [← hw0]
          refine (HIS.out).mono ?_
          rintro e w1' ⟨rfl, rfl⟩
          rw [show (decide (1 ≤ (i : Int) + 1) && decide ((i : Int) + 1 ≤ (K.length : Int))) = true from hok]
          clear hw0
          subst hw1
          go_wp2_with fail
          rw [← hw2]
          clear r2 y2 y3 x0 x1 rx1 rk1 k2 k3 hld0
          have eu : K[i].l[k].u + 1 - 1 = K[i].l[k].u := by omega
          refine flow_seen [([0, 1, 2, 3, 4, 5, 6, 7, 8, 9, 10, 11, 12, 13], 14, true)] [15] (by kernel_rfl) (by kernel_rfl) (fun _ _ _ _ _ h => h) fun Z => ?_
          have q1 := carry Z.below r1
          have q3 := (Z.below.cell (p := ⟨w0.heap.size, 1, none⟩) hzz.2).trans r3
          have qn1 : ∀ j, j < 34 → Z.val.cell? ⟨g2, k * 34 + j, none⟩ = (veC x)[j]? := fun j hj => (Z.below.cell (p := ⟨g2, k * 34 + j, none⟩) hzz.1).trans (n1 j hj)
          have qn2 := (Z.below.cell (p := ⟨g2, k * 34 + 32, none⟩) hzz.1).trans n2
          have qz : g2 < Z.val.heap.size ∧ w0.heap.size < Z.val.heap.size := by have := Z.below.size; omega
          have B3 := Lib.hid (onto B2'.out B2'.out.size Z.below)
          clear r1 r3 n1 n2 hzz B2' hw2
          generalize Z.val = w3 at q1 q3 qn1 qn2 qz B3 ⊢
          clear Z
          have p1 : ∀ y : After w3, y.val.cell? ⟨w0.heap.size, 1, none⟩ = some (.slice (some ⟨g2, 0, none⟩) (k + 1) c2) := fun y => (y.below.cell (p := ⟨w0.heap.size, 1, none⟩) qz.2).trans q3
          have p2 : ∀ y : After w3, y.val.cell? ⟨g2, k * 34 + 32, none⟩ = some (.int .i64 (K[i].l[k].u + 1)) := fun y => (y.below.cell (p := ⟨g2, k * 34 + 32, none⟩) qz.1).trans qn2
          have p3 : ∀ y : After w3, ldR Try.prog 32 32 y.val g2 (k * 34) (row y.val g2) = .ok (.agg (ba 32 x.m)) y.val := fun y => mat_cells y.val g2 (k * 34) x fun j hj => (y.below.cell (p := ⟨g2, k * 34 + j, none⟩) qz.1).trans (qn1 j hj)
          simp only [wpFs, pk, List.getElem?_cons_zero, List.getElem?_cons_succ]
          repeat (go_big_quiet_step (fail))
          refine wpQuiet_nil ?_
          clear p1 p2 p3
          go_wp2_with fail
          refine ⟨.inl trivial, ?_⟩
          show wpQuiet _ _ _ _ _ _
          repeat (go_big_quiet_step (fail))
          refine wpQuiet_nil ?_
          go_wp2_with fail
          have B4 : Below wv.heap.size wv (w3.setRow w.heap.size (ba 32 x.m)) := below_setRow B3.out (by omega) _
          exact HFIN.out _ _ _ _ _ rfl rfl rfl rfl _ _ ⟨T, HKV.out.fr (Fr.same (H := fun _ => False) B4) (fun _ _ e => e), Fk.same (HF1.out.trans (Fr.same B4))⟩ (row_setRow q1 _)
      · have hE : usE K ((i : Int) + 1) = 132 := by unfold usE; rw [if_pos hok, hlast, hrg, hoff, hgn]; rfl
        rw [show usV K ((i : Int) + 1) = 0 by unfold usV; rw [hE]; rfl, show usC K ((i : Int) + 1) = 0 by unfold usC; rw [hE]; rfl, show usM K ((i : Int) + 1) = fun _ => 0#8 by unfold usM; rw [hE]; rfl, show usK K ((i : Int) + 1) = K by unfold usK; rw [hE]; rfl, hE]
        rw [hgn] at y3
        clear h hcells hrs hput hvs hR hE hfr hfr2 hcell hcell2 k1 hz0 HW1 hr2 hc
        go_enter Try.func36, Try.ntmps36
        go_wp2_with fail
        rw [← hw0]
        refine (HIS.out).mono ?_
        rintro e w1' ⟨rfl, rfl⟩
        rw [show (decide (1 ≤ (i : Int) + 1) && decide ((i : Int) + 1 ≤ (K.length : Int))) = true from hok]
        clear hw0
        subst hw1
        go_wp2_with fail
        rw [setRow_self rk1]
        exact HFIN.out _ _ _ _ _ rfl rfl rfl rfl _ _ KEEP.out rk1
    · have hE : usE K ((i : Int) + 1) = 131 := by unfold usE; rw [if_pos hok, hrg, hoff]; rfl
      rw [show usV K ((i : Int) + 1) = 0 by unfold usV; rw [hE]; rfl, show usC K ((i : Int) + 1) = 0 by unfold usC; rw [hE]; rfl, show usM K ((i : Int) + 1) = fun _ => 0#8 by unfold usM; rw [hE]; rfl, show usK K ((i : Int) + 1) = K by unfold usK; rw [hE]; rfl, hE]
      rw [hoff] at hld0 x0 rx1 hw1
      clear h hcells hrs hput hvs hR hE hfr hfr2 hcell hcell2 k1 hz0 HW1 hr2 hc
      go_enter Try.func36, Try.ntmps36
      go_wp2_with fail
      rw [← hw0]
      refine (HIS.out).mono ?_
      rintro e w1' ⟨rfl, rfl⟩
      rw [show (decide (1 ≤ (i : Int) + 1) && decide ((i : Int) + 1 ≤ (K.length : Int))) = true from hok]
      clear hw0
      subst hw1
      go_wp2_with fail
      rw [setRow_self rk1]
      exact HFIN.out _ _ _ _ _ rfl rfl rfl rfl _ _ KEEP.out rk1
end Go.Proofs.Ytabchkcieddhpaa.Oct
