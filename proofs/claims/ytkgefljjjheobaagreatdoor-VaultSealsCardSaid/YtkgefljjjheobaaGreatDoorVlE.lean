/- Contract of the reference's Key. -/
import Derived.Test.YtkgefljjjheobaaGreatDoorVlC
import Derived.Test.YtkgefljjjheobaaGreatDoorMacAll
import Derived.Test.YtkgefljjjheobaaGreatDoorVlM
namespace Go.Proofs.YtkgefljjjheobaaGreatDoor.Oct
open Go.ChangeShapes Go.WideShapes Go.ChangeAt Go.RowKit
set_option linter.unusedVariables false

theorem bs_lab (w : World) : (Instr.buildSlice 26 11 #[(0, .int .u8 115), (1, .int .u8 116), (2, .int .u8 114), (3, .int .u8 111), (4, .int .u8 110), (5, .int .u8 103), (6, .int .u8 114), (7, .int .u8 111), (8, .int .u8 111), (9, .int .u8 109), (10, .int .u8 32)]).run Tryz.prog w = .ok (.slice (some ⟨w.heap.size, 0, none⟩) 11 11) (w.alloc (.cells (ba 11 labF) 5)) := by
  rw [← lab_lit]; kernel_rfl
theorem ex_lab (ρ : Operand → Value) {o : Oper} (ho : o.op = .buildSlice 26 11 #[(0, .const (.int .u8 115)), (1, .const (.int .u8 116)), (2, .const (.int .u8 114)), (3, .const (.int .u8 111)), (4, .const (.int .u8 110)), (5, .const (.int .u8 103)), (6, .const (.int .u8 114)), (7, .const (.int .u8 111)), (8, .const (.int .u8 111)), (9, .const (.int .u8 109)), (10, .const (.int .u8 32))]) (hr : ∀ v, ρ (.const v) = v) (w : World) : (execOp ρ o).run Tryz.prog w = .ok (.value (.slice (some ⟨w.heap.size, 0, none⟩) 11 11)) (w.alloc (.cells (ba 11 labF) 5)) := by
  unfold execOp
  simp only [ho, Sem.run_bind, List.map_toArray, List.map_cons, List.map_nil, hr]
  rw [bs_lab]
  rfl

set_option maxRecDepth 20000 in
set_option maxHeartbeats 2000000 in
theorem rkey_any (m : Bf) (d : Int) (w : World) :
    Calls Tryz.prog 14 #[.agg (ba 32 m), .int .i64 d] w fun e w' => e = .returned (.tuple #[.agg (ba 32 (vkU m d)), .int .i64 (errD d)]) ∧ Below w.heap.size w w' := by
  have hfin : ∀ (tm : Array Value) (f : Bf) (e : Int), tm.getD 4 undef = .pointer (some ⟨w.heap.size + 1, 0, none⟩) → tm.getD 5 undef = .int .i64 e → ∀ w2 : World, Below w.heap.size w w2 → row w2 (w.heap.size + 1) = some (ba 32 f) →
      bodyPost Tryz.prog Tryz.f14 (fun e' w' => e' = .returned (.tuple #[.agg (ba 32 f), .int .i64 e]) ∧ Below w.heap.size w w') .ret { tmps := tm, defers := [] } w2 := by
    intro tm f e e6 e7 w2 b2 q2
    refine bodyPost_ret (v := .tuple #[.agg (ba 32 f), .int .i64 e]) ?_ rfl ⟨rfl, b2⟩
    rw [← e7]
    exact res_ctV (p := 4) (u := 5) rfl _ _ (w.heap.size + 1) (ba 32 f) _ e6 q2 key_u rfl (by rw [ba_size]; exact key_i)
  have HFIN := Lib.hid hfin
  obtain ⟨w0, hw0⟩ : ∃ w0, w0 = ((w.alloc (.cells (ba 32 m) 23)).alloc (.cells (ba 32 fun _ => 0#8) 23)).alloc (.cells (ba 32 fun _ => 0#8) 23) := ⟨_, rfl⟩
  have HB0 := Lib.hid (show Below w.heap.size w w0 by rw [hw0]; exact (((Below.refl w.heap.size w).alloc (by simp) _).alloc (by simp) _).alloc (by simp; omega) _)
  have q0 : row w0 w.heap.size = some (ba 32 m) := by rw [hw0]; simp [go_sem]
  have q1 : row w0 (w.heap.size + 1) = some (ba 32 fun _ => 0#8) := by rw [hw0]; simp [go_sem]
  have q2 : row w0 (w.heap.size + 1 + 1) = some (ba 32 fun _ => 0#8) := by rw [hw0]; simp [go_sem]
  have hz0 : w0.heap.size = w.heap.size + 3 := by rw [hw0]; simp
  have HZ0 := Lib.hid hz0
  clear hfin hz0
  have hmay : mayB d 0 0 = mayD d := by unfold mayB mayD; simp
  cases hok : mayD d
  · rw [vkU_no hok, errD_no hok]
    go_enter Tryz.func14, Tryz.ntmps14
    go_wp2_with fail
    rw [← hw0]
    clear hw0
    refine (rmay_any d 0 0 _).mono ?_
    rintro e w1 ⟨rfl, rfl⟩
    rw [hmay, hok]
    go_wp2_with fail
    exact HFIN.out _ _ _ rfl rfl _ (below_setRow HB0.out (by omega) _) (row_setRow q1 _)
  · obtain ⟨a1, a2⟩ := mayD_iff.1 hok
    obtain ⟨dn, rfl⟩ : ∃ n : Nat, d = n := ⟨d.toNat, by omega⟩
    rw [vkU_ok hok, errD_ok hok]
    have hby : (dn : Int) % 256 = I (BitVec.ofNat 8 dn) := by rw [← I_of8]
    have HOK := Lib.hid (hmay.trans hok)
    clear hok a1 a2 hmay
    go_enter Tryz.func14, Tryz.ntmps14
    go_wp2_with fail
    rw [← hw0]
    clear hw0
    refine (rmay_any dn 0 0 _).mono ?_
    rintro e w1 ⟨rfl, rfl⟩
    rw [HOK.out]
    have HBY := Lib.hid hby
    clear hby
    go_wp2_with fail
    refine flow_many [.inl [0, 3, 4], pS 1, pS 5, pU 1, pE 2, pU 5, pE 6, pE 7, .inl [8, 9, 10, 11, 12]] (fun _ => True) [] (by kernel_rfl) (by kernel_rfl) (fun _ _ _ _ _ h => h) (fun _ _ _ _ _ h => h) (fun _ _ _ => trivial) trivial (fun k hk => by cases hk) ?_
    have bw := below_drewN (Below.refl w0.heap.size w0) 1
    have hz1 : (w0.drewN 1).heap.size = w0.heap.size := rfl
    obtain ⟨W1, hW1⟩ : ∃ W1, W1 = w0.drewN 1 := ⟨_, rfl⟩
    rw [← hW1] at bw hz1 ⊢
    clear hW1
    have BW := Lib.hid bw
    clear bw
    have hne : Nonempty (In (fun _ => True)) := ⟨⟨W1, trivial⟩⟩
    refine wpM_q ?_
    simp only [pk, List.getElem?_cons_zero, List.getElem?_cons_succ]
    repeat (go_big_quiet_step (fail))
    refine wpQuiet_nil ?_
    clear hne
    refine wpM_s (fun p => .slice (some ⟨p, 0, none⟩) 11 11) (.cells (ba 11 labF) 5) _ rfl rfl (fun w => ex_lab _ rfl (fun _ => rfl) w) ?_
    refine wpM_s (fun p => .slice (some ⟨p, 0, none⟩) 1 1) (.cells #[.int .u8 ((dn : Int) % 256)] 5) _ rfl rfl (fun w => ex_bs1 _ (.tmp 20) rfl _ rfl w) ?_
    -- the label, marked
    refine wpM_u _ _ _ 17 (.tail _ (.head _)) rfl rfl (fun x0 hx0 p hp1 hp2 hp3 hp4 => ?_)
    refine wpM_e _ rfl (fun x hx => ?_)
    have hs0 := x0.below.size
    have hsx := x.below.size
    have B1 := Lib.hid (onto (onto BW.out (by omega) x0.below) (by omega) x.below)
    have hh : x.val.heap[p]? = some (.cells (ba 11 labF) 5) := by rw [x.below.block p hp2]; exact hp4
    have hp5 : p < x.val.heap.size := by omega
    clear hx0 hx hp3 hp4 BW
    obtain ⟨X1, hX1⟩ : ∃ X1, X1 = x.val := ⟨_, rfl⟩
    rw [← hX1] at hsx B1 hh hp5 ⊢
    clear hX1
    have hcv := conv_at X1 (ba 11 labF) 11 11 p _ hh
    rw [ba_size] at hcv
    obtain ⟨m', hh2⟩ := frz_at hh 11
    have B2 := Lib.hid (frz_below B1.out p 11 (by omega))
    have FR := Lib.hid (Frm.frz X1 p 11 (hot := [p]) (by simp))
    have HH := Lib.hid hh2
    have hz2 := frz_size X1 p 11
    clear hh hh2
    go_wp2_with fail
    obtain ⟨X2, hX2⟩ : ∃ X2, X2 = X1.freeze ⟨p, 11, none⟩ 1 := ⟨_, rfl⟩
    rw [← hX2] at B2 FR HH hz2 ⊢
    clear hX2 hcv
    refine same_class (C := fun _ => True) [p] FR.out (fun k hk => ⟨.inl hk, by simp at hk; omega⟩) trivial (fun _ _ _ => trivial) ?_
    clear FR B1
    -- the domain's byte
    refine wpM_u _ _ _ 21 (.head _) rfl rfl (fun x3 hx3 g hg1 hg2 hg3 hg4 => ?_)
    refine wpM_e _ rfl (fun x hx => ?_)
    have hs3 := x3.below.size
    have hsx3 := x.below.size
    have B4 := Lib.hid (onto (onto B2.out (by omega) x3.below) (by omega) x.below)
    have L4 := Lib.hid (show Sl x.val x.val.heap.size (some ⟨p, 0, none⟩) 11 11 labF from sl_at (u := 5) (m := m') (by rw [x.below.block p (by omega), x3.below.block p (by omega)]; exact HH.out) _ (by omega))
    have N4 := Lib.hid (sl_new (x := x.val) (p := g) (u := 5) (v := BitVec.ofNat 8 dn) (by rw [x.below.block g hg2, hg4, HBY.out]))
    clear hx3 hx hg3 hg4 B2 HH
    obtain ⟨X4, hX4⟩ : ∃ X4, X4 = x.val := ⟨_, rfl⟩
    rw [← hX4] at hsx3 B4 L4 N4 ⊢
    clear hX4
    go_wp2_with (at_builtin; refine wpl_appF rfl (.tmp 18) (.tmp 21) rfl sli_u u8_info L4.out (by unfold maxLen; omega) (Nat.le_refl _) (by simp) N4.out (by omega) rfl rfl ?_; intro A2 c2 w5 h5 hc5 hg5)
    have b5 := Below.of_grown hg5
    have B5 := Lib.hid (onto B4.out (by omega) b5)
    have hs5 := b5.size
    have h5' : Sl w5 w5.heap.size A2 12 c2 (catF 11 labF fun _ => BitVec.ofNat 8 dn) := h5
    have L5 := Lib.hid h5'
    refine same_class (C := fun _ => True) [] (Frm.of b5) hot_none trivial (fun _ _ _ => trivial) ?_
    clear h5 h5' hc5 hg5 b5 L4 N4 B4
    -- the expansion
    refine wpM_e _ rfl (fun x hx => ?_)
    have hsx5 := x.below.size
    have B6 := Lib.hid (onto B5.out (by omega) x.below)
    have L6 := Lib.hid ((L5.out.below x.below).more hsx5)
    clear hx L5 B5
    obtain ⟨X6, hX6⟩ : ∃ X6, X6 = x.val := ⟨_, rfl⟩
    rw [← hX6] at hsx5 B6 L6 ⊢
    clear hX6
    have K6 := Lib.hid (Sl.of_row (carry B6.out q0) X6.heap.size (row_lt (carry B6.out q0)))
    go_wp2_with fail
    refine (rexp_new m (catF 11 labF fun _ => BitVec.ofNat 8 dn) 32 12 32 c2 (some ⟨w.heap.size, 0, none⟩) A2 32 X6 K6.out L6.out (by omega) (by omega) (by omega)).mono ?_
    rintro e w8 ⟨A9, c9, rfl, hs9, hc9, hb8, ha9⟩
    have B8 := Lib.hid (onto B6.out (by omega) hb8)
    have F8 := Lib.hid (Frm.of (hot := []) hb8)
    have L8 := Lib.hid (show Sl w8 w8.heap.size A9 32 c9 (vkF m dn) from hs9.congr fun i _ => by unfold vkF; rfl)
    have HA := Lib.hid ha9
    have hs8 := hb8.size
    clear hs9 hc9 hb8 ha9 L6 K6 B6
    go_wp2_with fail
    refine same_class (C := fun _ => True) [] F8.out hot_none trivial (fun _ _ _ => trivial) ?_
    have hne : Nonempty (In (fun _ => True)) := ⟨⟨w8, trivial⟩⟩
    refine wpM_q ?_
    simp only [pk, List.getElem?_cons_zero, List.getElem?_cons_succ]
    repeat (go_big_quiet_step (fail))
    refine wpQuiet_nil ?_
    clear hne F8
    refine wpM_nil (fun x => ?_)
    have hs9 := x.below.size
    have r1 := carry (onto B8.out (by omega) x.below) q1
    have r2 := carry (onto B8.out (by omega) x.below) q2
    have HB9 := Lib.hid (onto HB0.out HB0.out.size (onto B8.out (by omega) x.below))
    have L9 := Lib.hid ((L8.out.below x.below).more hs9)
    have hoff : ∀ a, A9 = some a → w.heap.size + 1 + 1 < a.block := fun a ha => by have := HA.out a ha; have := HZ0.out; omega
    have HOF := Lib.hid hoff
    clear B8 L8 HA q0 q1 q2 HB0 hoff
    generalize x.val = w9 at r1 r2 HB9 L9 hs9 ⊢
    clear x
    have P0 := Lib.hid (show Put (w.heap.size + 1 + 1) (ba 32 (upto 0 (vkF m dn) fun _ => 0#8)) w9 w9 by rw [upto_zero]; exact Put.nil r2)
    go_wp2_with fail
    go_loopw [9] (fun v wr => ∃ k : Nat, k ≤ 32 ∧ v = .int .i64 k ∧ Put (w.heap.size + 1 + 1) (ba 32 (upto k (vkF m dn) fun _ => 0#8)) w9 wr) (fun v _ => 32 - (intOf v).toNat)
    case atStart => exact ⟨0, by omega, rfl, P0.out⟩
    case round =>
      clear P0
      obtain ⟨k, hk, rfl, hp⟩ := hrel
      by_cases hlt : k < 32
      · have R := hp.row r2
        have LX := hp.sl L9.out (Nat.le_refl _) (fun _ a ha e => by have := HOF.out a ha; omega)
        obtain ⟨g', o', hA', hg', hcell'⟩ := LX.at_ (by omega)
        have hld := hcell' k hlt
        have hle := LX.le
        have hcs : wr.cell? ⟨w.heap.size + 1 + 1, k, none⟩ = some (.int .u8 (I (upto k (vkF m dn) (fun _ => 0#8) k))) := by rw [cell_row R, ba_get 32 _ k hlt]
        have hfr := froz_row R k
        have hset : wr.setCell ⟨w.heap.size + 1 + 1, k, none⟩ (.int .u8 (I (vkF m dn k))) = wr.setRow (w.heap.size + 1 + 1) (ba 32 (upto (k + 1) (vkF m dn) fun _ => 0#8)) := by
          rw [setCell_row R, ba_set, upto_step]
        have HP := Lib.hid (hp.then r2 (Put.of (Below.refl _ _) (row_lt R) (ba 32 (upto (k + 1) (vkF m dn) fun _ => 0#8))))
        subst hA'
        clear hp LX hcell' R
        go_wp2
        go_roundw
        case rel => exact ⟨k + 1, by omega, by go_num, HP.out⟩
        case measure => simp [intOf]; omega
      · obtain rfl : k = 32 := by omega
        have R := hp.row r2
        rw [show ba 32 (upto 32 (vkF m dn) fun _ => 0#8) = ba 32 (vkF m dn) from ba_ext fun i hi => by unfold upto; rw [if_pos hi]] at R
        have R1 := hp.other (by omega) r1
        have HBX := Lib.hid (HB9.out.trans (hp.low (D := w.heap.size) (by omega) HB9.out.size))
        go_wp2
        exact HFIN.out _ _ _ rfl rfl _ (below_setRow HBX.out (by omega) _) (row_setRow R1 _)
end Go.Proofs.YtkgefljjjheobaaGreatDoor.Oct
