/- Contract of the reference's Presses. -/
import Derived.Test.YtjebkokkgkkogaaDoorShaJ
namespace Go.Proofs.YtjebkokkgkkogaaDoor.Oct
open Go.ChangeShapes Go.WideShapes Go.ChangeAt Go.RowKit
set_option linter.unusedVariables false

/-- make([]uint32, 64) -/
theorem wmk (w : World) : (Instr.makeSlice 37 (.int .i64 64) (.int .i64 64)).run Tryd.prog w = .ok (.slice (some ⟨w.heap.size, 0, none⟩) 64 64) (w.alloc (.cells (wa 64 fun _ => 0#32) 28)) := by unfold wa; kernel_rfl
/-- with the state in block p -/
structure PtInv (w : World) (h : Wf) (W : Wf) (p : Nat) (S : Wf) (wr : World) : Prop where
  ps : Below w.heap.size w wr ∧ row wr w.heap.size = some (wa 8 h) ∧ row wr (w.heap.size + 1) = some (wa 8 fun _ => 0#32) ∧ row wr (w.heap.size + 1 + 1) = some (wa 64 W)
  hp : w.heap.size + 2 < p
  rp : row wr p = some (wa 8 S)
theorem PtInv.drewN {w : World} {h W : Wf} {p : Nat} {S : Wf} {wr : World} (i : PtInv w h W p S wr) (n : Nat) : PtInv w h W p S (wr.drewN n) :=
  ⟨⟨below_drewN i.ps.1 n, by rw [row_drewN]; exact i.ps.2.1, by rw [row_drewN]; exact i.ps.2.2.1, by rw [row_drewN]; exact i.ps.2.2.2⟩, i.hp, by rw [row_drewN]; exact i.rp⟩
theorem PtInv.put {w : World} {h W : Wf} {p : Nat} {S : Wf} {wr : World} (i : PtInv w h W p S wr) (S' : Wf) : PtInv w h W p S' (wr.setRow p (wa 8 S')) := by
  have hp := i.hp
  exact ⟨⟨below_setRow i.ps.1 (by omega) _, by rw [row_setRow_other _ _ _ _ (by omega)]; exact i.ps.2.1, by rw [row_setRow_other _ _ _ _ (by omega)]; exact i.ps.2.2.1, by rw [row_setRow_other _ _ _ _ (by omega)]; exact i.ps.2.2.2⟩, hp, row_setRow i.rp _⟩
theorem PtInv.set {w : World} {h W : Wf} {p : Nat} {S : Wf} {wr : World} (i : PtInv w h W p S wr) (k : Nat) (v : BitVec 32) : PtInv w h W p (updA S k v) (wr.setCell ⟨p, k, none⟩ (.int .u32 (M v))) := by
  have hp := i.hp
  exact ⟨⟨i.ps.1.setCell (by simp; omega) _, by rw [row_setCell_other _ _ _ _ (by simp; omega)]; exact i.ps.2.1, by rw [row_setCell_other _ _ _ _ (by simp; omega)]; exact i.ps.2.2.1, by rw [row_setCell_other _ _ _ _ (by simp; omega)]; exact i.ps.2.2.2⟩, hp, row_setCellW i.rp _ _⟩
theorem PtInv.at_ {w : World} {h W : Wf} {p : Nat} {S : Wf} {wr : World} (i : PtInv w h W p S wr) (k : Nat) (hk : k < 8) : wr.cell? ⟨p, k, none⟩ = some (.int .u32 (M (S k))) := by rw [cell_row i.rp, wa_get _ _ _ hk]
/-- what is known of the world in Presses: state block h, result block r, words' block -/
structure PsInv (w : World) (h : Wf) (W : Wf) (wr : World) : Prop where
  below : Below w.heap.size w wr
  h0 : row wr w.heap.size = some (wa 8 h)
  h1 : row wr (w.heap.size + 1) = some (wa 8 fun _ => 0#32)
  h2 : row wr (w.heap.size + 1 + 1) = some (wa 64 W)
theorem PsInv.drewN {w : World} {h W : Wf} {wr : World} (i : PsInv w h W wr) (n : Nat) : PsInv w h W (wr.drewN n) :=
  ⟨below_drewN i.below n, by rw [row_drewN]; exact i.h0, by rw [row_drewN]; exact i.h1, by rw [row_drewN]; exact i.h2⟩
theorem PsInv.set {w : World} {h W : Wf} {wr : World} (i : PsInv w h W wr) (t : Nat) (v : BitVec 32) : PsInv w h (updA W t v) (wr.setCell ⟨w.heap.size + 1 + 1, t, none⟩ (.int .u32 (M v))) :=
  ⟨i.below.setCell (by simp; omega) _, by rw [row_setCell_other _ _ _ _ (by simp; omega)]; exact i.h0, by rw [row_setCell_other _ _ _ _ (by simp)]; exact i.h1, row_setCellW i.h2 _ _⟩
theorem PsInv.cell {w : World} {h W : Wf} {wr : World} (i : PsInv w h W wr) (t : Nat) (ht : t < 64) : wr.cell? ⟨w.heap.size + 1 + 1, t, none⟩ = some (.int .u32 (M (W t))) := by rw [cell_row i.h2, wa_get _ _ _ ht]
theorem sch_lo (m : Bf) (t : Nat) (h : t < 16) : updA (sch m t) t (wrd m t) = sch m (t + 1) := by
  simp only [sch]; rw [if_pos h]
theorem sch_hi (m : Bf) (t : Nat) (h : ¬ t < 16) : updA (sch m t) t (sm1 (sch m t (t - 2)) + sch m t (t - 7) + sm0 (sch m t (t - 15)) + sch m t (t - 16)) = sch m (t + 1) := by
  simp only [sch]; rw [if_neg h]; rfl

theorem M_add4 (a b c d : BitVec 32) : (M a + M b + M c + M d) % 4294967296 = M (a + b + c + d) := by
  unfold M; rw [BitVec.toNat_add, BitVec.toNat_add, BitVec.toNat_add]; omega
theorem I_m24 (a : BitVec 8) : I a * (16777216 : Int) = M (a.setWidth 32 <<< 24) := by
  have h : I a * (16777216 : Int) % 4294967296 = M (a.setWidth 32 <<< 24) := I_shlm a 24
  have := I_bd a; omega
theorem I_m16 (a : BitVec 8) : I a * (65536 : Int) = M (a.setWidth 32 <<< 16) := by
  have h : I a * (65536 : Int) % 4294967296 = M (a.setWidth 32 <<< 16) := I_shlm a 16
  have := I_bd a; omega
theorem I_m8 (a : BitVec 8) : I a * (256 : Int) = M (a.setWidth 32 <<< 8) := by
  have h : I a * (256 : Int) % 4294967296 = M (a.setWidth 32 <<< 8) := I_shlm a 8
  have := I_bd a; omega
theorem wrd_eq (m : Bf) (t : Nat) : bits .or .u32 (bits .or .u32 (bits .or .u32 (I (m (4 * t)) * (16777216 : Int)) (I (m (4 * t + 1)) * (65536 : Int))) (I (m (4 * t + 2)) * (256 : Int))) (I (m (4 * t + 3))) = M (wrd m t) := by
  rw [I_m24, I_m16, I_m8, M_or, M_or, M_orI]; rfl

set_option maxRecDepth 20000 in
set_option maxHeartbeats 4000000 in
theorem presses_any (h : Wf) (m : Bf) (c nK cK : Nat) (A AK : Option Addr) (nm : Nat) (w : World) (hs : Sl w w.heap.size A nm c m) (hnm : 64 ≤ nm) (hK : SlG w w.heap.size AK 64 cK kV) :
    Calls Tryd.prog 24 #[.agg (wa 8 h), .slice A nm c, .slice AK 64 cK] w fun e w' => e = .returned (.agg (wa 8 (prF kF h m))) ∧ Below w.heap.size w w' := by
  have I0 : PsInv w h (sch m 0) (((w.alloc (.cells (wa 8 h) 29)).alloc (.cells (wa 8 fun _ => 0#32) 29)).alloc (.cells (wa 64 fun _ => 0#32) 28)) :=
    ⟨(((Below.refl _ _).alloc (by simp) _).alloc (by simp) _).alloc (by simp; omega) _, by simp [go_sem], by simp [go_sem], by simp [go_sem]; rfl⟩
  have HI0 := Lib.hid I0
  have HS := Lib.hid hs
  have HKK := Lib.hid hK
  obtain ⟨g, o, hA, hg, -⟩ := hs.at_ (by omega)
  obtain ⟨gk, ok, hAK, hgk, -⟩ := hK.at_ (by omega)
  subst hA; subst hAK
  have hmk := wmk
  clear I0 hs hK
  go_enter Tryd.func24, Tryd.ntmps24
  go_wp2_with fail
  clear hmk
  go_loopw [8, 9, 10] (fun iv _ _ wr => ∃ t : Nat, t ≤ 64 ∧ iv = .int .i64 t ∧ PsInv w h (sch m t) wr) (fun iv _ _ _ => 64 - (intOf iv).toNat)
  case atStart => exact ⟨0, by omega, rfl, HI0.out⟩
  case round =>
    clear HI0
    obtain ⟨t, ht, rfl, hI⟩ := hrel
    obtain ⟨wo, rfl⟩ : ∃ wo : World, wo = wr := ⟨_, rfl⟩
    have HI := Lib.hid hI
    by_cases hlt : t < 64
    · have hd : decide ((t : Int) < 64) = true := by simp; omega
      by_cases hlo : t < 16
      · have hdl : decide ((t : Int) < 16) = true := by simp; omega
        obtain ⟨g', o', e, -, hcell⟩ := (HS.out.below hI.below).at_ (by omega)
        obtain ⟨rfl, rfl⟩ : g = g' ∧ o = o' := by injection e with e; injection e with e1 e2; exact ⟨e1, e2⟩
        have hc0 := hcell (4 * t) (by omega)
        have hc1 := hcell (4 * t + 1) (by omega)
        have hc2 := hcell (4 * t + 2) (by omega)
        have hc3 := hcell (4 * t + 3) (by omega)
        have b0 : 4 * t < nm := by omega
        have b1 : 4 * t + 1 < nm := by omega
        have b2 : 4 * t + 2 < nm := by omega
        have b3 : 4 * t + 3 < nm := by omega
        obtain ⟨u0, u1⟩ := I_bd (m (4 * t))
        obtain ⟨u2, u3⟩ := I_bd (m (4 * t + 1))
        obtain ⟨u4, u5⟩ := I_bd (m (4 * t + 2))
        obtain ⟨u6, u7⟩ := I_bd (m (4 * t + 3))
        have hcl := hI.cell t hlt
        have hfz := froz_row hI.h2 t
        have HW := Lib.hid (sch_lo m t hlo)
        clear hI hcell e
        go_wp2_with fail
        refine quiet_tail 36 (by kernel_rfl) (by kernel_rfl) (fun _ _ _ _ _ h => h) ?_
        simp only [List.take_succ_cons, List.take_zero, List.drop_succ_cons, List.drop_zero]
        repeat (go_big_quiet_step (fail))
        refine wpQuiet_nil ?_
        rintro _ ⟨nq, rfl⟩
        go_wp2_with fail
        rw [wrd_eq]
        go_roundw
        case rel => exact ⟨t + 1, by omega, by go_num, by rw [← HW.out]; exact (HI.out.set t (wrd m t)).drewN nq⟩
        case measure => simp [intOf]; omega
      · have hdl : decide ((t : Int) < 16) = false := by simp; omega
        have HW := Lib.hid (sch_hi m t hlo)
        have c2 : ((t : Int) - 2).toNat = t - 2 := by omega
        have c7 : ((t : Int) - 7).toNat = t - 7 := by omega
        have c15 : ((t : Int) - 15).toNat = t - 15 := by omega
        have c16 : ((t : Int) - 16).toNat = t - 16 := by omega
        have f2 : t - 2 < 64 := by omega
        have f7 : t - 7 < 64 := by omega
        have f15 : t - 15 < 64 := by omega
        have f16 : t - 16 < 64 := by omega
        have d2 : (0 : Int) ≤ (t : Int) - 2 ∧ (t : Int) - 2 < 64 := by omega
        have d7 : (0 : Int) ≤ (t : Int) - 7 ∧ (t : Int) - 7 < 64 := by omega
        have d15 : (0 : Int) ≤ (t : Int) - 15 ∧ (t : Int) - 15 < 64 := by omega
        have d16 : (0 : Int) ≤ (t : Int) - 16 ∧ (t : Int) - 16 < 64 := by omega
        have k2 := hI.cell (t - 2) f2
        have k7 := hI.cell (t - 7) f7
        have k15 := hI.cell (t - 15) f15
        have k16 := hI.cell (t - 16) f16
        have hcl := hI.cell t hlt
        have hfz := froz_row hI.h2 t
        clear hI
        go_wp2_with fail
        refine quiet_tail 32 (by kernel_rfl) (by kernel_rfl) (fun _ _ _ _ _ h => h) ?_
        simp only [List.take_succ_cons, List.take_zero, List.drop_succ_cons, List.drop_zero]
        iterate 4 (go_big_quiet_step (exact Calls.quiet_of (rt17 _ _)))
        iterate 2 (go_big_quiet_step (exact Calls.quiet_of (rt19 _ _)))
        iterate 12 (go_big_quiet_step (exact Calls.quiet_of (rt7 _ _)))
        iterate 2 (go_big_quiet_step (exact Calls.quiet_of (rt18 _ _)))
        repeat (go_big_quiet_step (fail))
        refine wpQuiet_nil ?_
        rintro _ ⟨nq, rfl⟩
        go_wp2_with fail
        go_roundw
        case rel => exact ⟨t + 1, by omega, by go_num, by rw [← HW.out]; exact (HI.out.set t _).drewN nq⟩
        case measure => simp [intOf]; omega
    · obtain rfl : t = 64 := by omega
      have h0 := hI.h0
      have J0 := Lib.hid (show PtInv w h (sch m 64) wo.heap.size h (wo.alloc (.cells (wa 8 h) 29)) from
        ⟨⟨hI.below.alloc (by have := hI.below.size; omega) _, row_alloc hI.h0 _, row_alloc hI.h1 _, row_alloc hI.h2 _⟩, by have := row_lt hI.h2; omega, row_alloc_at _ _ _ _ rfl⟩)
      clear hI HI
      go_wp2_with fail
      clear h0
      obtain ⟨p, hp⟩ : ∃ p, p = wo.heap.size := ⟨_, rfl⟩
      rw [← hp] at J0 ⊢
      obtain ⟨w2, hw2⟩ : ∃ w2, w2 = wo.alloc (.cells (wa 8 h) 29) := ⟨_, rfl⟩
      rw [← hw2] at J0 ⊢
      clear hw2 hp
      go_loopw [12, 13, 14, 15, 16] (fun iv _ _ _ _ wr => ∃ t : Nat, ∃ S : Wf, t ≤ 64 ∧ S = rds kF (sch m 64) h t ∧ iv = .int .i64 t ∧ PtInv w h (sch m 64) p S wr) (fun iv _ _ _ _ _ => 64 - (intOf iv).toNat)
      case atStart => exact ⟨0, h, by omega, rfl, rfl, J0.out⟩
      case round =>
        clear J0
        obtain ⟨t, S, ht, hS, rfl, hI⟩ := hrel
        obtain ⟨wo, rfl⟩ : ∃ wo : World, wo = wr := ⟨_, rfl⟩
        have HI := Lib.hid hI
        have HSS := Lib.hid hS
        clear hS
        by_cases hlt : t < 64
        · have hd : decide ((t : Int) < 64) = true := by simp; omega
          have k0 := hI.at_ 0 (by omega)
          have k1 := hI.at_ 1 (by omega)
          have k2 := hI.at_ 2 (by omega)
          have k3 := hI.at_ 3 (by omega)
          have k4 := hI.at_ 4 (by omega)
          have k5 := hI.at_ 5 (by omega)
          have k6 := hI.at_ 6 (by omega)
          have k7 := hI.at_ 7 (by omega)
          have kw : wo.cell? ⟨w.heap.size + 1 + 1, t, none⟩ = some (.int .u32 (M (sch m 64 t))) := by rw [cell_row hI.ps.2.2.2, wa_get _ _ _ hlt]
          obtain ⟨gk', ok', e, -, hcell⟩ := (HKK.out.below hI.ps.1).at_ (by omega)
          obtain ⟨rfl, rfl⟩ : gk = gk' ∧ ok = ok' := by injection e with e; injection e with e1 e2; exact ⟨e1, e2⟩
          have kk : wo.cell? ⟨gk, ok + t, none⟩ = some (.int .u32 (M (kF t))) := hcell t hlt
          have rp := hI.rp
          have hsg : IntKind.u32.signed = false := rfl
          clear hI hcell e
          go_wp2_with fail
          refine wp_region_quiet_lit (by kernel_rfl) (by kernel_rfl) ?_
          iterate 4 (go_big_quiet_step (exact Calls.quiet_of (rt6 _ _)))
          iterate 2 (go_big_quiet_step (exact Calls.quiet_of (rt11 _ _)))
          iterate 3 (go_big_quiet_step (exact Calls.quiet_of (rt25 _ _)))
          repeat (go_big_quiet_step (fail))
          refine wpQuiet_nil ?_
          rintro _ ⟨nq, rfl⟩
          try rw [M_add4]
          have hI3 := HI.out.drewN nq
          clear k0 k1 k2 k3 k4 k5 k6 k7 kw kk rp
          obtain ⟨w3, hw3⟩ : ∃ w3, w3 = wo.drewN nq := ⟨_, rfl⟩
          rw [← hw3] at hI3 ⊢
          clear hw3
          have k0 := hI3.at_ 0 (by omega)
          have k1 := hI3.at_ 1 (by omega)
          have k2 := hI3.at_ 2 (by omega)
          have k3 := hI3.at_ 3 (by omega)
          have k4 := hI3.at_ 4 (by omega)
          have k5 := hI3.at_ 5 (by omega)
          have k6 := hI3.at_ 6 (by omega)
          have rp := hI3.rp
          have HI3 := Lib.hid hI3
          clear hI3
          go_wp2_with fail
          refine wp_region_quiet_lit (by kernel_rfl) (by kernel_rfl) ?_
          iterate 2 (go_big_quiet_step (exact Calls.quiet_of (rt2 _ _)))
          iterate 2 (go_big_quiet_step (exact Calls.quiet_of (rt13 _ _)))
          iterate 3 (go_big_quiet_step (exact Calls.quiet_of (rt22 _ _)))
          repeat (go_big_quiet_step (fail))
          refine wpQuiet_nil ?_
          rintro _ ⟨nq2, rfl⟩
          go_wp2_with fail
          have HV := Lib.hid (show wa 8 (oct8 (t1F (kF t) (sch m 64 t) S + t2F S) (S 0) (S 1) (S 2) (S 3 + t1F (kF t) (sch m 64 t) S) (S 4) (S 5) (S 6)) = wa 8 (rnd (kF t) (sch m 64 t) S) from wa_ext fun i hi => oct8_eq _ _ _ _ _ _ _ _ i hi)
          go_roundw
          case rel =>
            refine ⟨t + 1, rnd (kF t) (sch m 64 t) S, by omega, by rw [HSS.out]; rfl, by go_num, ?_⟩
            have hf := (HI3.out.drewN nq2).put (rnd (kF t) (sch m 64 t) S)
            rw [← HV.out] at hf
            exact hf
          case measure => simp [intOf]; omega
        · obtain rfl : t = 64 := by omega
          clear hI
          have HA := Lib.hid (show PtInv w h (sch m 64) p (uptoA 0 (fun k => S k + h k) S) wo by rw [uptoA_zero]; exact HI.out)
          clear HI
          go_wp2_with fail
          go_loopw [17] (fun iv wr => ∃ i : Nat, i ≤ 8 ∧ iv = .int .i64 i ∧ PtInv w h (sch m 64) p (uptoA i (fun k => S k + h k) S) wr) (fun iv _ => 8 - (intOf iv).toNat)
          case atStart => exact ⟨0, by omega, rfl, HA.out⟩
          case round =>
            clear HA
            obtain ⟨i, hi, rfl, hI⟩ := hrel
            obtain ⟨wo, rfl⟩ : ∃ wo : World, wo = wr := ⟨_, rfl⟩
            have HI := Lib.hid hI
            by_cases hli : i < 8
            · have hdi : decide ((i : Int) < 8) = true := by simp; omega
              have kp := hI.at_ i hli
              rw [uptoA_at] at kp
              have kh : wo.cell? ⟨w.heap.size, i, none⟩ = some (.int .u32 (M (h i))) := by rw [cell_row hI.ps.2.1, wa_get _ _ _ hli]
              have hfz := froz_row hI.rp i
              have HN := Lib.hid (uptoA_step i (fun k => S k + h k) S)
              clear hI
              go_wp2_with fail
              refine quiet_tail 9 (by kernel_rfl) (by kernel_rfl) (fun _ _ _ _ _ h => h) ?_
              simp only [List.take_succ_cons, List.take_zero, List.drop_succ_cons, List.drop_zero]
              repeat (go_big_quiet_step (fail))
              refine wpQuiet_nil ?_
              rintro _ ⟨nq, rfl⟩
              go_wp2_with fail
              go_roundw
              case rel => exact ⟨i + 1, by omega, by go_num, by rw [← HN.out]; exact (HI.out.set i _).drewN nq⟩
              case measure => simp [intOf]; omega
            · obtain rfl : i = 8 := by omega
              have HV := Lib.hid (show wa 8 (uptoA 8 (fun k => S k + h k) S) = wa 8 (prF kF h m) from wa_ext fun k hk => by
                unfold uptoA
                rw [if_pos hk, HSS.out]
                rfl)
              have rp := hI.rp
              have r1 := hI.ps.2.2.1
              rw [HV.out] at rp
              clear hI
              go_wp2_with fail
              refine bodyPost_ret (v := .agg (wa 8 (prF kF h m))) (res_row rfl _ _ (w.heap.size + 1) _ _ _ rfl (row_setRow r1 _) s8_u (by rw [wa_size]; exact s8_i)) rfl ⟨rfl, ?_⟩
              exact below_setRow HI.out.ps.1 (by omega) _
end Go.Proofs.YtjebkokkgkkogaaDoor.Oct
