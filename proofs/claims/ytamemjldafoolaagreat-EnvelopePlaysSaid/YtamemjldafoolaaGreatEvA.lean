/- Contracts of envelope's bigEndian and nonceOf. -/
import Derived.Test.YtamemjldafoolaaGreatEvTy
import Derived.Test.YtamemjldafoolaaGreatKrAll
namespace Go.Proofs.YtamemjldafoolaaGreat.Oct
open Go.ChangeShapes Go.WideShapes Go.ChangeAt Go.RowKit
set_option linter.unusedVariables false

set_option maxHeartbeats 1000000 in
theorem pbe_any (x : Nat) (hx : x < 18446744073709551616) (w : World) :
    Calls Tryz.prog 46 #[.int .u64 x] w fun e w' => e = .returned (.agg (ba 8 (beN 8 x))) ∧ Below w.heap.size w w' := by
  obtain ⟨w2, hw2⟩ : ∃ w2, w2 = (w.alloc (.cells (ba 8 fun _ => 0#8) 92)).alloc (.cells (ba 8 fun _ => 0#8) 92) := ⟨_, rfl⟩
  have q0 : row w2 w.heap.size = some (ba 8 fun _ => 0#8) := by rw [hw2]; simp [go_sem]
  have q1 : row w2 (w.heap.size + 1) = some (ba 8 fun _ => 0#8) := by rw [hw2]; simp [go_sem]
  have B0 := Lib.hid (show Below w.heap.size w w2 by rw [hw2]; exact ((Below.refl w.heap.size w).alloc (by simp) _).alloc (by simp) _)
  have HW2 := Lib.hid hw2
  obtain ⟨D, hD⟩ : ∃ D, D = w.heap.size + 1 := ⟨_, rfl⟩
  rw [← hD] at q1
  have HD := Lib.hid hD
  have HQ0 := Lib.hid q0
  have HQ1 := Lib.hid q1
  clear hw2 hD q0 q1
  go_enter Tryz.func46, Tryz.ntmps46
  go_wp2
  rw [← HW2.out, ← HD.out]
  go_loopw [5] (fun iv wr => ∃ j : Nat, j ≤ 8 ∧ iv = .int .i64 j ∧ wr = w2.setRow D (ba 8 (wrF (fun _ => 0#8) 0 8 x j))) (fun iv _ => 8 - (intOf iv).toNat)
  case atStart => exact ⟨0, by omega, rfl, by rw [wrF_zero, setRow_self HQ1.out]⟩
  case round =>
    obtain ⟨j, hj, rfl, rfl⟩ := hrel
    have hrow := row_setRow HQ1.out (ba 8 (wrF (fun _ => 0#8) 0 8 x j))
    by_cases hlt : j < 8
    · have hd : decide ((j : Int) < 8) = true := by simp; omega
      have hix : (7 : Int) - (j : Int) = ((7 - j : Nat) : Int) := by omega
      have hsh := sh_byte x j
      have HST := Lib.hid (wrF_step (fun _ => 0#8) 0 8 x j hlt)
      have hi8 : 7 - j < 8 := by omega
      have hcl : (w2.setRow D (ba 8 (wrF (fun _ => 0#8) 0 8 x j))).cell? ⟨D, 7 - j, none⟩ = some (.int .u8 (I (wrF (fun _ => 0#8) 0 8 x j (7 - j)))) := by rw [cell_row hrow, ba_get _ _ _ (by omega)]
      have hfz : (w2.setRow D (ba 8 (wrF (fun _ => 0#8) 0 8 x j))).frozen? ⟨D, 7 - j, none⟩ = false := froz_row hrow _
      have HW := Lib.hid (show ((w2.setRow D (ba 8 (wrF (fun _ => 0#8) 0 8 x j))).setCell ⟨D, 7 - j, none⟩ (.int .u8 (I (BitVec.ofNat 8 (x / 256 ^ j))))) = w2.setRow D (ba 8 (wrF (fun _ => 0#8) 0 8 x (j + 1))) by
        rw [setCell_row hrow, ba_set, setRow_setRow, ← wrF_step (fun _ => 0#8) 0 8 x j hlt, Nat.zero_add, show 8 - (j + 1) = 7 - j by omega])
      generalize w2.setRow D (ba 8 (wrF (fun _ => 0#8) 0 8 x j)) = wr at hcl hfz HW ⊢
      clear hrow HST
      go_wp2
      rw [HW.out]
      go_roundw
      case rel => exact ⟨j + 1, by omega, rfl, rfl⟩
      case measure => simp [intOf]; omega
    · obtain rfl : j = 8 := by omega
      have hd : decide (((8 : Nat) : Int) < 8) = false := by decide
      rw [wrF_all, show ba 8 (putF (fun _ => 0#8) 0 8 (beN 8 x)) = ba 8 (beN 8 x) from ba_ext fun i hi => by unfold putF; rw [if_pos (by omega), Nat.sub_zero]]
      have r1 := row_setRow HQ1.out (ba 8 (beN 8 x))
      have r0 : row (w2.setRow D (ba 8 (beN 8 x))) w.heap.size = some (ba 8 fun _ => 0#8) := by rw [row_setRow_other _ _ _ _ (by have := HD.out; omega)]; exact HQ0.out
      have B1 := Lib.hid (below_setRow B0.out (by have := HD.out; omega : w.heap.size ≤ D) (ba 8 (beN 8 x)))
      clear hrow
      generalize w2.setRow D (ba 8 (beN 8 x)) = w3 at r0 r1 B1 ⊢
      go_wp2
      exact bodyPost_ret (v := .agg (ba 8 (beN 8 x))) (res_row rfl _ _ w.heap.size _ _ _ rfl (row_setRow r0 _) e8_u (by rw [ba_size]; exact e8_i)) rfl ⟨rfl, below_setRow B1.out (Nat.le_refl _) _⟩

theorem non_len : Tryz.prog.arrayLen 78 = 12 := by kernel_rfl
theorem non_elem : Tryz.prog.elem 78 = 5 := by kernel_rfl
theorem non_sl_4 (B : Nat) (w : World) : (Instr.sliceAt 78 (.pointer (some ⟨B, 0, none⟩)) (some (.int .i64 4)) none none).run Tryz.prog w = .ok (.slice (some ⟨B, 4, none⟩) 8 8) w := by
  rw [run_sliceAt_array_l w 78 ⟨B, 0, none⟩ (by kernel_rfl) .i64 _ (by omega) (by rw [non_len]; omega), non_elem, u8_size, non_len, Result.andThen_ok]
  rfl
theorem non_sl_a (B : Nat) (w : World) : (Instr.sliceAt 78 (.pointer (some ⟨B, 0, none⟩)) none none none).run Tryz.prog w = .ok (.slice (some ⟨B, 0, none⟩) 12 12) w := by
  rw [run_sliceAt_array_all w 78 ⟨B, 0, none⟩ (by kernel_rfl), non_elem, u8_size, non_len, Result.andThen_ok]
  rfl
theorem e8_len : Tryz.prog.arrayLen 92 = 8 := by kernel_rfl
theorem e8_elem : Tryz.prog.elem 92 = 5 := by kernel_rfl
theorem e8_sl_a (B : Nat) (w : World) : (Instr.sliceAt 92 (.pointer (some ⟨B, 0, none⟩)) none none none).run Tryz.prog w = .ok (.slice (some ⟨B, 0, none⟩) 8 8) w := by
  rw [run_sliceAt_array_all w 92 ⟨B, 0, none⟩ (by kernel_rfl), e8_elem, u8_size, e8_len, Result.andThen_ok]
  rfl

set_option maxHeartbeats 1000000 in
theorem pnc_any (x : Nat) (hx : x < 9223372036854775808) (w : World) :
    Calls Tryz.prog 32 #[.int .i64 x] w fun e w' => e = .returned (.agg (ba 12 (nonC x))) ∧ Below w.heap.size w w' := by
  obtain ⟨w2, hw2⟩ : ∃ w2, w2 = (w.alloc (.cells (ba 12 fun _ => 0#8) 78)).alloc (.cells (ba 12 fun _ => 0#8) 78) := ⟨_, rfl⟩
  have q0 : row w2 w.heap.size = some (ba 12 fun _ => 0#8) := by rw [hw2]; simp [go_sem]
  have q1 : row w2 (w.heap.size + 1) = some (ba 12 fun _ => 0#8) := by rw [hw2]; simp [go_sem]
  have B0 := Lib.hid (show Below w.heap.size w w2 by rw [hw2]; exact ((Below.refl w.heap.size w).alloc (by simp) _).alloc (by simp) _)
  have HW2 := Lib.hid hw2
  obtain ⟨D, hD⟩ : ∃ D, D = w.heap.size + 1 := ⟨_, rfl⟩
  rw [← hD] at q1
  have HD := Lib.hid hD
  have HQ0 := Lib.hid q0
  have HQ1 := Lib.hid q1
  have hcv : IntKind.u64.wrap (x : Int) = x := by rw [IntKind.wrap_u64]; omega
  clear hw2 hD q0 q1
  go_enter Tryz.func32, Tryz.ntmps32
  go_wp2_with fail
  rw [← HW2.out, ← HD.out]
  clear HW2
  refine (pbe_any x (by omega) w2).mono ?_
  rintro e w3 ⟨rfl, hb3⟩
  obtain ⟨F, hF⟩ : ∃ F, F = beN 8 x := ⟨_, rfl⟩
  rw [← hF]
  have HF := Lib.hid hF
  have b4 := hb3.alloc hb3.size (.cells (ba 8 F) 92)
  have r0 := carry b4 HQ0.out
  have r1 := carry b4 HQ1.out
  have r2 : row (w3.alloc (.cells (ba 8 F) 92)) w3.heap.size = some (ba 8 F) := row_alloc_at _ _ _ _ rfl
  have B4 := Lib.hid (onto B0.out B0.out.size b4)
  have hz : D ≠ w3.heap.size := by have := hb3.size; have := row_lt HQ1.out; omega
  obtain ⟨G, hG⟩ : ∃ G, G = w3.heap.size := ⟨_, rfl⟩
  rw [← hG] at r2 hz
  have HG := Lib.hid hG
  have HZ := Lib.hid hz
  clear hb3 b4 hF hG hz HQ0 HQ1 B0
  go_wp2_with fail
  rw [← HG.out]
  clear HG
  generalize w3.alloc (.cells (ba 8 F) 92) = w4 at r0 r1 r2 B4 ⊢
  have sA := non_sl_4 D
  have sB := e8_sl_a G
  refine flow_seen [([0, 1], 2, true)] [] (by kernel_rfl) (by kernel_rfl) (fun _ _ _ _ _ h => h) fun X => ?_
  have B5 := Lib.hid (onto B4.out B4.out.size X.below)
  have t0 := After.row r0 X
  have t1 := After.row r1 X
  have t2 := After.row r2 X
  clear r0 r1 r2 B4
  generalize X.val = w5 at B5 t0 t1 t2 ⊢
  clear X
  simp only [wpFs, pk, List.getElem?_cons_zero, List.getElem?_cons_succ]
  repeat (go_big_quiet_step (fail))
  refine wpQuiet_nil ?_
  clear sA sB
  have HS := Sl.of_row t2 w5.heap.size (row_lt t2)
  go_wp2_with (refine wpl_copyAt rfl (.tmp 8) (.tmp 9) 33 33 5 rfl sli_u u8_i t1 (show 4 + 8 ≤ 12 by omega) HS (show 8 = min 8 8 by rfl) rfl rfl ?_)
  rw [show ba 12 (putF (fun _ => 0#8) 4 8 F) = ba 12 (nonC x) from ba_ext fun i hi => by
    rw [HF.out]; unfold putF nonC catF
    by_cases h : i < 4
    · rw [if_neg (by omega), if_pos h]
    · rw [if_pos (by omega), if_neg h]]
  have r1 := row_setRow t1 (ba 12 (nonC x))
  have r0 : row (w5.setRow D (ba 12 (nonC x))) w.heap.size = some (ba 12 fun _ => 0#8) := by rw [row_setRow_other _ _ _ _ (by have := HD.out; omega)]; exact t0
  have B6 := Lib.hid (below_setRow B5.out (by have := HD.out; omega : w.heap.size ≤ D) (ba 12 (nonC x)))
  clear HS t0 t1 t2 B5
  generalize w5.setRow D (ba 12 (nonC x)) = w6 at r0 r1 B6 ⊢
  show wpQuiet _ _ _ _ _ _
  refine wpQuiet_nil ?_
  go_wp2
  exact bodyPost_ret (v := .agg (ba 12 (nonC x))) (res_row rfl _ _ w.heap.size _ _ _ rfl (row_setRow r0 _) non_u (by rw [ba_size]; exact non_i)) rfl ⟨rfl, below_setRow B6.out (Nat.le_refl _) _⟩
end Go.Proofs.YtamemjldafoolaaGreat.Oct
