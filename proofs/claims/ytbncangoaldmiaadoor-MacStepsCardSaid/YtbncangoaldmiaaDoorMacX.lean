/- Contracts of the reference's Sum, Expands and Expand. -/
import Derived.Test.YtbncangoaldmiaaDoorMacR
import Derived.Test.YtbncangoaldmiaaDoorMacE
namespace Go.Proofs.YtbncangoaldmiaaDoor.Oct
open Go.ChangeShapes Go.WideShapes Go.ChangeAt Go.RowKit
set_option linter.unusedVariables false

theorem bs0 (w : World) : (Instr.buildSlice 22 0 #[]).run Tryd.prog w = .ok (.slice (some ⟨w.heap.size, 0, none⟩) 0 0) (w.alloc (.cells #[] 5)) := by kernel_rfl
theorem bs1 (x : Int) (w : World) : (Instr.buildSlice 22 1 #[(0, .int .u8 x)]).run Tryd.prog w = .ok (.slice (some ⟨w.heap.size, 0, none⟩) 1 1) (w.alloc (.cells #[.int .u8 x] 5)) := by kernel_rfl
theorem ex_bs0 (ρ : Operand → Value) {o : Oper} (ho : o.op = .buildSlice 22 0 #[]) (w : World) : (execOp ρ o).run Tryd.prog w = .ok (.value (.slice (some ⟨w.heap.size, 0, none⟩) 0 0)) (w.alloc (.cells #[] 5)) := by
  unfold execOp
  simp only [ho, Sem.run_bind, List.map_toArray, List.map_nil]
  rw [bs0]
  rfl
theorem ex_bs1 (ρ : Operand → Value) {o : Oper} (t : Operand) (ho : o.op = .buildSlice 22 1 #[(0, t)]) (x : Int) (hx : ρ t = .int .u8 x) (w : World) : (execOp ρ o).run Tryd.prog w = .ok (.value (.slice (some ⟨w.heap.size, 0, none⟩) 1 1)) (w.alloc (.cells #[.int .u8 x] 5)) := by
  unfold execOp
  simp only [ho, Sem.run_bind, List.map_toArray, List.map_cons, List.map_nil, hx]
  rw [bs1]
  rfl

set_option maxRecDepth 20000 in
set_option maxHeartbeats 2000000 in
theorem rsum6_any (k b : Bf) (n m c c' : Nat) (A A' : Option Addr) (w : World) (hs : Sl w w.heap.size A n c k) (hs' : Sl w w.heap.size A' m c' b) (hn : n ≤ 80000) (hm : m ≤ 80000) :
    Calls Tryd.prog 12 #[.slice A n c, .slice A' m c'] w fun e w' => e = .returned (.agg (ba 32 (macF k n b m))) ∧ Below w.heap.size w w' := by
  have B0 := Lib.hid ((Below.refl w.heap.size w).alloc (by simp) (.cells (ba 32 fun _ => 0#8) 26))
  have q0 : row (w.alloc (.cells (ba 32 fun _ => 0#8) 26)) w.heap.size = some (ba 32 fun _ => 0#8) := row_alloc_at _ _ _ _ rfl
  have HS := Lib.hid hs
  have HS' := Lib.hid hs'
  have hz : (w.alloc (.cells (ba 32 fun _ => 0#8) 26)).heap.size = w.heap.size + 1 := by simp
  clear hs hs'
  go_enter Tryd.func12, Tryd.ntmps12
  go_wp2_with fail
  refine (make_any _).mono ?_
  rintro e w1 ⟨AK, cK, rfl, hsl, hb1⟩
  have r1 := Lib.hid (carry hb1 q0)
  have B1 := Lib.hid (onto B0.out (by simp) hb1)
  have HSL := Lib.hid hsl
  have s1 : w.heap.size + 1 ≤ w1.heap.size := by have := hb1.size; omega
  have H1 := Lib.hid ((HS.out.below B1.out).more (by omega : w.heap.size ≤ w1.heap.size))
  have H1' := Lib.hid ((HS'.out.below B1.out).more (by omega : w.heap.size ≤ w1.heap.size))
  clear hsl hb1 q0 hz
  go_wp2_with fail
  refine (rsums_any k b n m c c' cK A A' AK w1 H1.out H1'.out hn hm HSL.out).mono ?_
  rintro e w2 ⟨rfl, hb2⟩
  have r2 := carry hb2 r1.out
  have B2 := Lib.hid (onto B1.out (by omega) hb2)
  clear hb2
  go_wp2_with fail
  refine bodyPost_ret (v := .agg (ba 32 (macF k n b m))) (res_row rfl _ _ w.heap.size _ _ _ rfl (row_setRow r2 _) sum_u (by rw [ba_size]; exact sum_i)) rfl ⟨rfl, ?_⟩
  exact below_setRow B2.out (by omega) _

theorem rexps_bad (v : Value) (A A' : Option Addr) (n m c c' cK : Nat) (AK : Option Addr) (x : Int) (w : World) (hx : x < 0 ∨ 8160 < x) :
    Calls Tryd.prog 28 #[.agg (tbA (.slice AK 64 cK) iF), .slice A n c, .slice A' m c', .int .i64 x] w fun e w' => e = .returned (.tuple #[.slice none 0 0, .int .i64 1]) ∧ Below w.heap.size w w' := by
  have B0 := Lib.hid ((Below.refl w.heap.size w).alloc (by simp) (.cells (tbA (.slice AK 64 cK) iF) 44))
  by_cases h0 : x < 0
  · have hd : decide (x < 0) = true := by simp; omega
    go_enter Tryd.func28, Tryd.ntmps28
    go_wp2_with fail
    exact bodyPost_ret (v := .tuple #[.slice none 0 0, .int .i64 1]) (by simp [results, Tryd.results28, go_sem]) rfl ⟨rfl, B0.out⟩
  · have hd : decide (x < 0) = false := by simp; omega
    have hd2 : decide (8160 < x) = true := by simp; omega
    go_enter Tryd.func28, Tryd.ntmps28
    go_wp2_with fail
    exact bodyPost_ret (v := .tuple #[.slice none 0 0, .int .i64 1]) (by simp [results, Tryd.results28, go_sem]) rfl ⟨rfl, B0.out⟩

/-- what is known on the way through Expands -/
structure RxInv (w : World) (tb : Array Value) (wr : World) : Prop where
  b : Below w.heap.size w wr
  r : row wr w.heap.size = some tb
set_option maxRecDepth 20000 in
set_option maxHeartbeats 4000000 in
theorem rexps_any (k b : Bf) (n m c c' cK : Nat) (A A' AK : Option Addr) (L : Nat) (w : World) (hs : Sl w w.heap.size A n c k) (hs' : Sl w w.heap.size A' m c' b) (hn : n ≤ 70000) (hm : m ≤ 70000) (hL : L ≤ 8160) (hK : SlG w w.heap.size AK 64 cK kV) :
    Calls Tryd.prog 28 #[.agg (tbA (.slice AK 64 cK) iF), .slice A n c, .slice A' m c', .int .i64 L] w fun e w' => ∃ A9 c9, e = .returned (.tuple #[.slice A9 L c9, .int .i64 0]) ∧ Sl w' w'.heap.size A9 L c9 (expF k n b m) ∧ c9 ≤ maxLen ∧ Below w.heap.size w w' := by
  have hd0 : decide ((L : Int) < 0) = false := by simp
  have hd1 : decide ((8160 : Int) < (L : Int)) = false := by simp; omega
  have HS := Lib.hid hs
  have HS' := Lib.hid hs'
  have HK := Lib.hid hK
  clear hs hs' hK
  go_enter Tryd.func28, Tryd.ntmps28
  go_wp2_with fail
  obtain ⟨w1, hw1⟩ : ∃ w1, w1 = ((w.alloc (.cells (tbA (.slice AK 64 cK) iF) 44)).alloc (.cells #[] 5)).alloc (.cells #[] 5) := ⟨_, rfl⟩
  have J0 := Lib.hid (show RxInv w (tbA (.slice AK 64 cK) iF) w1 from by
    rw [hw1]
    exact ⟨(((Below.refl w.heap.size w).alloc (by simp) _).alloc (by simp) _).alloc (by simp; omega) _, row_alloc (row_alloc (row_alloc_at _ _ _ _ rfl) _) _⟩)
  have HO0 := Lib.hid (show Own w1 (w.heap.size + 1) 5 (.slice (some ⟨w.heap.size + 1, 0, none⟩) 0 0) (32 * 0) (expF k n b m) from by
    have h := (Own.empty (w.alloc (.cells (tbA (.slice AK 64 cK) iF) 44)) (w.heap.size + 1) 5 (expF k n b m) (by simp)).alloc (.cells #[] 5)
    rw [hw1]
    simpa using h)
  rw [← hw1]
  clear hw1 hd0 hd1
  go_loopw [10, 11, 12] (fun ov lv iv wr => ∃ j : Nat, 32 * j < L + 32 ∧ iv = .int .i64 ((j + 1 : Nat) : Int) ∧ Own wr (w.heap.size + 1) 5 ov (32 * j) (expF k n b m) ∧ (∃ Al cl, lv = .slice Al (lstL j) cl ∧ Sl wr wr.heap.size Al (lstL j) cl (expT k n b m j)) ∧ RxInv w (tbA (.slice AK 64 cK) iF) wr) (fun ov _ _ _ => L + 32 - slN ov)
  case atStart => exact ⟨0, by omega, rfl, HO0.out, ⟨_, _, rfl, Sl.nothing _ _ _ _ _⟩, J0.out⟩
  case round =>
    clear J0 HO0
    obtain ⟨j, hj, rfl, ho, ⟨Al, cl, rfl, hl⟩, hJ⟩ := hrel
    obtain ⟨wo, rfl⟩ : ∃ wo : World, wo = wr := ⟨_, rfl⟩
    obtain ⟨Ao, co, hvo, hslo, hco, -⟩ := ho.sl
    subst hvo
    have HO := Lib.hid ho
    have HSO := Lib.hid hslo
    have HL := Lib.hid hl
    have HJ := Lib.hid hJ
    have hlen : lstL j ≤ 32 := by unfold lstL; split <;> omega
    have hsz : w.heap.size < wo.heap.size := row_lt hJ.r
    have hjj : j ≤ 255 := by omega
    have hoc := hslo.le
    unfold maxLen at hco
    clear ho hslo hl hJ
    obtain ⟨F, hF⟩ : ∃ F, F = 32 * j := ⟨_, rfl⟩
    rw [← hF] at HO HSO hoc ⊢
    have HF := Lib.hid hF
    by_cases hlt : F < L
    · have hd : decide ((F : Int) < (L : Int)) = true := by simp; omega
      have hFl : F ≤ 8160 := by omega
      clear hF
      obtain ⟨J, hJ1⟩ : ∃ J, J = j + 1 := ⟨_, rfl⟩
      rw [← hJ1]
      have HJ1 := Lib.hid hJ1
      have hcv : ((J : Int) % 256) = I (BitVec.ofNat 8 J) := I_ofN J
      have HCV := Lib.hid hcv
      have hJb : J ≤ 256 := by omega
      clear hcv
      clear hJ1
      go_wp2_with fail
      refine flow_many [.inl [0, 1, 3, 5, 7, 8], pS 2, pS 9, pS 12, pU 2, pE 4, pE 6, pU 9, pE 10, pE 11, pU 12, pE 13] (fun y => row y w.heap.size = some (tbA (.slice AK 64 cK) iF)) [] (by kernel_rfl) (by kernel_rfl) (fun _ _ _ _ _ h => h) (fun _ _ _ _ _ h => h) (fun y z h => row_alloc h z) (by rw [row_drewN]; exact HJ.out.r) (fun k hk => by cases hk) ?_
      have bw := below_drewN (Below.refl wo.heap.size wo) 1
      have hz1 : (wo.drewN 1).heap.size = wo.heap.size := rfl
      obtain ⟨W1, hW1⟩ : ∃ W1, W1 = wo.drewN 1 := ⟨_, rfl⟩
      rw [← hW1] at bw hz1 ⊢
      clear hW1
      have BW := Lib.hid bw
      clear bw
      have hq : ∀ x : In (fun y => row y w.heap.size = some (tbA (.slice AK 64 cK) iF)), row x.val w.heap.size = some (tbA (.slice AK 64 cK) iF) := fun x => x.ok
      have hne : Nonempty (In (fun y => row y w.heap.size = some (tbA (.slice AK 64 cK) iF))) := ⟨⟨wo, HJ.out.r⟩⟩
      refine wpM_q ?_
      simp only [pk, List.getElem?_cons_zero, List.getElem?_cons_succ]
      repeat (go_big_quiet_step (fail))
      refine wpQuiet_nil ?_
      clear hq hne
      refine wpM_s (fun p => .slice (some ⟨p, 0, none⟩) 0 0) (.cells #[] 5) _ rfl rfl (fun w => ex_bs0 _ rfl w) ?_
      refine wpM_s (fun p => .slice (some ⟨p, 0, none⟩) 1 1) (.cells #[.int .u8 ((J : Int) % 256)] 5) _ rfl rfl (fun w => ex_bs1 _ (.tmp 36) rfl _ rfl w) ?_
      refine wpM_s (fun p => .pointer (some ⟨p, 0, none⟩)) (.cells (ba 32 fun _ => 0#8) 26) _ rfl rfl (fun w => by simp only [execOp, go_sem, Sem.run_bind, Result.andThen]; rfl) ?_
      -- the empty row, the last sum
      refine wpM_u _ _ _ 30 (.tail _ (.tail _ (.head _))) rfl rfl (fun x0 hx0 p hp1 hp2 hp3 hp4 => ?_)
      refine wpM_e _ rfl (fun x hx => ?_)
      have hs0 := x0.below.size
      have hsx := x.below.size
      have B1 := Lib.hid (onto (onto BW.out (by omega) x0.below) (by omega) x.below)
      have O1 := Lib.hid (show Own x.val wo.heap.size 5 (.slice (some ⟨p, 0, none⟩) 0 0) 0 nF from own_new (by rw [x.below.block p hp2]; exact hp4) hp1)
      have L1 := Lib.hid ((HL.out.below B1.out))
      clear hx0 hx hp3 hp4 BW
      obtain ⟨X1, hX1⟩ : ∃ X1, X1 = x.val := ⟨_, rfl⟩
      rw [← hX1] at hsx B1 O1 L1 ⊢
      clear hX1
      go_wp2_with (at_builtin; refine wpl_appB rfl (.tmp 30) (.tmp 31) rfl sli_u u8_info O1.out L1.out (by omega) (by omega) rfl rfl ?_; intro v2 w2 ho2 hg2 ht2)
      rw [catF_zero, Nat.zero_add] at ho2
      have hs2 := hg2.size
      have B2 := Lib.hid (O1.out.after hg2 B1.out (by omega) (Nat.le_refl _))
      have O2 := Lib.hid ho2
      refine same_class (C := fun y => row y w.heap.size = some (tbA (.slice AK 64 cK) iF)) v2.ownBlock.toList ((Frm.app hg2).more (fun k hk => by simpa [Value.ownBlock, eq_comm] using hk)) (hot_app ho2 ht2 (fun k hk => by simpa [Value.ownBlock, eq_comm] using hk)) (carry B2.out HJ.out.r) (fun y z h => row_alloc h z) ?_
      clear ho2 hg2 ht2 O1 L1 B1
      -- the info
      refine wpM_e _ rfl (fun x hx => ?_)
      have hsx2 := x.below.size
      have B3 := Lib.hid (onto B2.out (by omega) x.below)
      have O3 := Lib.hid (O2.out.below x.below (Nat.le_refl _))
      have I3 := Lib.hid ((HS'.out.below (onto HJ.out.b (by omega) B3.out)))
      clear hx B2 O2
      obtain ⟨X3, hX3⟩ : ∃ X3, X3 = x.val := ⟨_, rfl⟩
      rw [← hX3] at hsx2 B3 O3 I3 ⊢
      clear hX3
      go_wp2_with (at_builtin; refine wpl_appB rfl (.tmp 32) (.tmp 33) rfl sli_u u8_info O3.out I3.out (by omega) (by omega) rfl rfl ?_; intro v4 w4 ho4 hg4 ht4)
      have hs4 := hg4.size
      have B4 := Lib.hid (O3.out.after hg4 B3.out (by omega) (Nat.le_refl _))
      have O4 := Lib.hid ho4
      refine same_class (C := fun y => row y w.heap.size = some (tbA (.slice AK 64 cK) iF)) v4.ownBlock.toList (Frm.app hg4) (hot_app ho4 ht4 (fun k hk => by simpa using hk)) (carry B4.out HJ.out.r) (fun y z h => row_alloc h z) ?_
      clear ho4 hg4 ht4 O3 I3 B3
      -- the number
      refine wpM_u _ _ _ 37 (.tail _ (.head _)) rfl rfl (fun x0 hx0 p hp1 hp2 hp3 hp4 => ?_)
      refine wpM_e _ rfl (fun x hx => ?_)
      have hs0 := x0.below.size
      have hsx := x.below.size
      have B5 := Lib.hid (onto (onto B4.out (by omega) x0.below) (by omega) x.below)
      have O5 := Lib.hid (O4.out.below (onto x0.below x0.below.size x.below) (Nat.le_refl _))
      have N5 := Lib.hid (sl_new (x := x.val) (p := p) (u := 5) (v := BitVec.ofNat 8 J) (by rw [x.below.block p hp2, hp4, HCV.out]))
      have P3 := Lib.hid hp3
      clear hx0 hx hp4 B4 O4 hp3
      obtain ⟨X5, hX5⟩ : ∃ X5, X5 = x.val := ⟨_, rfl⟩
      rw [← hX5] at hsx B5 O5 N5 ⊢
      clear hX5
      go_wp2_with (at_builtin; refine wpl_appB rfl (.tmp 34) (.tmp 37) rfl sli_u u8_info O5.out N5.out (by omega) (by omega) rfl rfl ?_; intro v6 w6 ho6 hg6 ht6)
      have hs6 := hg6.size
      have B6 := Lib.hid (O5.out.after hg6 B5.out (by omega) (Nat.le_refl _))
      have O6 := Lib.hid ho6
      refine same_class (C := fun y => row y w.heap.size = some (tbA (.slice AK 64 cK) iF)) v6.ownBlock.toList ((Frm.app hg6).more (fun k hk => .tail _ hk)) (hot_app ho6 ht6 (fun k hk => .tail _ (show k ∈ v4.ownBlock.toList by simpa using hk))) (carry B6.out HJ.out.r) (fun y z h => row_alloc h z) ?_
      clear ho6 hg6 ht6 O5 N5 B5
      -- the sum
      refine wpM_e _ rfl (fun x hx => ?_)
      have hsx7 := x.below.size
      have B7 := Lib.hid (onto B6.out (by omega) x.below)
      have O7 := Lib.hid (O6.out.below x.below (Nat.le_refl _))
      have W7 := Lib.hid (onto HJ.out.b (by omega) B7.out)
      have hsw7 := W7.out.size
      have K7 := Lib.hid ((HK.out.below W7.out).more hsw7)
      have S7 := Lib.hid ((HS.out.below W7.out).more hsw7)
      have H7 := Lib.hid (hot_own O7.out)
      clear hx B6 O6
      obtain ⟨X7, hX7⟩ : ∃ X7, X7 = x.val := ⟨_, rfl⟩
      rw [← hX7] at hsx7 B7 O7 W7 hsw7 K7 S7 H7 ⊢
      clear hX7
      obtain ⟨A8, c8, hv8, hsl8, -, -⟩ := O7.out.sl
      obtain ⟨H8, hH8⟩ : ∃ H8, H8 = v6.ownBlock.toList := ⟨_, rfl⟩
      rw [← hH8] at H7 ⊢
      rw [hv8]
      have L8 := Lib.hid hsl8
      clear hsl8 O7 hv8 hH8
      go_wp2_with fail
      refine (rsums_any k _ n _ c c8 cK A A8 AK X7 S7.out L8.out (by omega) (by omega) K7.out).mono ?_
      rintro e w8 ⟨rfl, hb8⟩
      obtain ⟨S, hS⟩ : ∃ S, S = expT k n b m (j + 1) := ⟨_, rfl⟩
      rw [show macF k n (catF (lstL j + m) (catF (lstL j) (expT k n b m j) b) fun _ => BitVec.ofNat 8 J) (lstL j + m + 1) = S by rw [hS, HJ1.out]; rfl]
      have HSS := Lib.hid hS
      have hs8 := hb8.size
      have B8 := Lib.hid (onto B7.out (by omega) hb8)
      have FR8 := Lib.hid (Frm.of (hot := H8) hb8)
      have HH8 := Lib.hid (hot_same H7.out hb8.size)
      clear hb8 hS B7 W7 K7 S7 H7 L8
      go_wp2_with fail
      refine same_class (C := fun y => row y w.heap.size = some (tbA (.slice AK 64 cK) iF)) H8 FR8.out HH8.out (carry B8.out HJ.out.r) (fun y z h => row_alloc h z) ?_
      clear FR8 HH8
      refine wpM_u _ _ _ 13 (.head _) rfl rfl (fun x0 hx0 p hp1 hp2 hp3 hp4 => ?_)
      refine wpM_e _ rfl (fun x hx => ?_)
      have rp := carry x.below (row_of hp4)
      have hs9 := x.below.size
      have hs9' := x0.below.size
      have B9 := Lib.hid (onto (onto B8.out (by omega) x0.below) (by omega) x.below)
      have P1 := Lib.hid hp1
      clear hx0 hx hp3 hp4 B8 hp1
      obtain ⟨X9, hX9⟩ : ∃ X9, X9 = x.val := ⟨_, rfl⟩
      rw [← hX9] at rp hs9 B9 ⊢
      clear hX9
      have hpx : p < X9.heap.size := row_lt rp
      go_wp2_with fail
      have B10 := Lib.hid (below_setRow B9.out P1.out (ba 32 S))
      have rp10 := Lib.hid (row_setRow rp (ba 32 S))
      refine same_class (C := fun y => row y w.heap.size = some (tbA (.slice AK 64 cK) iF)) [] (Frm.row X9 _ (by simp)) hot_none (carry B10.out HJ.out.r) (fun y z h => row_alloc h z) ?_
      clear rp B9
      refine wpM_nil (fun x => ?_)
      have hs11 := x.below.size
      have B11 := Lib.hid (onto B10.out (by simp; omega) x.below)
      have rp11 := Lib.hid (carry x.below rp10.out)
      have hp11 := row_lt rp11.out
      have a1 := sum_sl_all p
      clear B10 rp10
      obtain ⟨Y, hY⟩ : ∃ Y, Y = x.val := ⟨_, rfl⟩
      rw [← hY] at hs11 B11 rp11 hp11 ⊢
      clear hY
      have OO := Lib.hid (HO.out.below B11.out (Nat.le_refl _))
      have SS := Lib.hid (Sl.of_row rp11.out Y.heap.size hp11)
      have hyw : w.heap.size + 1 ≤ Y.heap.size := by have := B11.out.size; omega
      go_wp2_with (at_builtin; refine wpl_appB rfl (.tmp 41) (.tmp 42) rfl sli_u u8_info OO.out SS.out (by omega) hyw rfl rfl ?_; intro v12 w12 ho12 hg12 ht12)
      have hs12 := hg12.size
      have J12 := Lib.hid (show RxInv w (tbA (.slice AK 64 cK) iF) w12 from ⟨OO.out.after hg12 (onto HJ.out.b (by omega) B11.out) (by omega) (by omega), grown_row hg12 (carry B11.out HJ.out.r) (fun e => by have := (OO.out.lt e).1; omega)⟩)
      have rp12 := grown_row hg12 rp11.out (fun e => by have := (HO.out.lt e).2; have := P1.out; omega)
      have L12 := Lib.hid (Sl.of_row rp12 w12.heap.size (row_lt rp12))
      have O12 := Lib.hid (show Own w12 (w.heap.size + 1) 5 v12 (32 * (j + 1)) (expF k n b m) by
        rw [show 32 * (j + 1) = F + 32 by have := HF.out; omega]
        refine ho12.congr fun i hi => ?_
        have hFe := HF.out
        unfold catF
        by_cases h : i < F
        · rw [if_pos h]
        · rw [if_neg h, HSS.out]
          unfold expF
          rw [show i / 32 = j by omega, show i % 32 = i - F by omega])
      obtain ⟨A13, c13, hv13, -, -, -⟩ := O12.out.sl
      have HV13 := Lib.hid hv13
      clear ho12 hg12 ht12 rp12 rp11 OO SS hv13
      go_roundw
      case rel => exact ⟨j + 1, by have := HF.out; omega, by rw [HJ1.out]; rfl, O12.out, ⟨_, _, rfl, by rw [← HSS.out]; exact L12.out⟩, J12.out⟩
      case measure =>
        rw [HV13.out]
        have := HF.out
        simp only [slN]
        omega
    · have hd : decide ((F : Int) < (L : Int)) = false := by simp; omega
      have hup := run_upto sli_u u8_i Ao F co L (by omega)
      clear hF
      go_wp2_with fail
      refine bodyPost_ret (v := .tuple #[.slice Ao L co, .int .i64 0]) (by simp [results, Tryd.results28, go_sem]) rfl ⟨Ao, co, rfl, HSO.out.upto L (by omega), by unfold maxLen; omega, HJ.out.b⟩

set_option maxHeartbeats 1000000 in
theorem rexp_any (k b : Bf) (n m c c' : Nat) (A A' : Option Addr) (L : Nat) (w : World) (hs : Sl w w.heap.size A n c k) (hs' : Sl w w.heap.size A' m c' b) (hn : n ≤ 70000) (hm : m ≤ 70000) (hL : L ≤ 8160) :
    Calls Tryd.prog 16 #[.slice A n c, .slice A' m c', .int .i64 L] w fun e w' => ∃ A9 c9, e = .returned (.tuple #[.slice A9 L c9, .int .i64 0]) ∧ Sl w' w'.heap.size A9 L c9 (expF k n b m) ∧ c9 ≤ maxLen ∧ Below w.heap.size w w' := by
  have HS := Lib.hid hs
  have HS' := Lib.hid hs'
  clear hs hs'
  go_enter Tryd.func16, Tryd.ntmps16
  go_wp2_with fail
  refine (make_any _).mono ?_
  rintro e w1 ⟨AK, cK, rfl, hsl, hb1⟩
  have B1 := Lib.hid hb1
  have HSL := Lib.hid hsl
  have s1 := hb1.size
  have H1 := Lib.hid ((HS.out.below B1.out).more s1)
  have H1' := Lib.hid ((HS'.out.below B1.out).more s1)
  clear hsl hb1
  go_wp2_with fail
  refine (rexps_any k b n m c c' cK A A' AK L w1 H1.out H1'.out hn hm hL HSL.out).mono ?_
  rintro e w2 ⟨A9, c9, rfl, hs2, hc2, hb2⟩
  have B2 := Lib.hid (onto B1.out (by omega) hb2)
  have HS2 := Lib.hid hs2
  have HC2 := Lib.hid hc2
  clear hb2 hs2 hc2
  go_wp2_with fail
  exact bodyPost_ret (v := .tuple #[.slice A9 L c9, .int .i64 0]) (by simp [results, Tryd.results16, go_sem]) rfl ⟨A9, c9, rfl, HS2.out, HC2.out, B2.out⟩
end Go.Proofs.YtbncangoaldmiaaDoor.Oct
