/- Contract: the reference's one. -/
import Derived.Test.YtdfcldomjjcidaaGreatDoorJsD
namespace Go.Proofs.YtdfcldomjjcidaaGreatDoor.Oct
open Go.ChangeShapes Go.WideShapes Go.ChangeAt Go.RowKit
set_option linter.unusedVariables false

set_option maxRecDepth 20000 in
set_option maxHeartbeats 4000000 in
theorem one_any (n c : Nat) (A : Option Addr) (f : Bf) (w : World) (hs : Sl w w.heap.size A n c f) (hn : n ≤ 140737488355328) :
    Calls Tryz.prog 59 #[.slice A n c] w (onP n f w) := by
  obtain ⟨w1, hw1⟩ : ∃ w1, w1 = w.alloc (.cells #[.int .i64 0, .int .i64 0, .int .i64 0, .int .i64 0, .int .i64 0, .int .i64 0, .int .i64 0, .int .i64 0, .slice none 0 0, .slice none 0 0] 29) := ⟨_, rfl⟩
  have b1 : Below w.heap.size w w1 := by rw [hw1]; exact (Below.refl _ _).alloc (Nat.le_refl _) _
  have R1 := Lib.hid (show row w1 w.heap.size = some (rcC .zero nilS nilS) by rw [hw1, ← rc_lit0]; exact row_alloc_at _ _ _ _ rfl)
  obtain ⟨k, m1, g1, E0, hk9, hm1, hnx1, hu1⟩ := taP_uni n f
  have H1 := Lib.hid (rtake_num n c A f w1 ((hs.below b1).more b1.size) hn)
  have HU1 := Lib.hid hu1
  have HN1 := Lib.hid hnx1
  have B1 := Lib.hid b1
  clear b1 hs hu1 hnx1
  go_enter Tryz.func59, Tryz.ntmps59
  go_upto_region 1 with fail
  simp only [← hw1]
  clear hw1
  go_wp2_with fail
  refine H1.out.mono ?_
  intro e w2 h2
  obtain ⟨A2, c2, rfl, hs2, -, hb2⟩ := HU1.out _ _ _ h2
  have S2 := Lib.hid hs2
  have R2 := Lib.hid (carry hb2 R1.out)
  have B2 := Lib.hid (onto B1.out B1.out.size hb2)
  clear h2 hs2 hb2 H1 HU1 R1 B1
  go_upto_region 3 with fail
  obtain ⟨w3, hw3⟩ : ∃ w3, w3 = w2.alloc (.cells (rcC (rc1 (k : Int)) (.slice none 0 0) (.slice none 0 0)) 29) := ⟨_, rfl⟩
  have b3 : Below w2.heap.size w2 w3 := by rw [hw3]; exact (Below.refl _ _).alloc (Nat.le_refl _) _
  have R3 := Lib.hid (carry b3 R2.out)
  have X3 := Lib.hid (show row w3 w2.heap.size = some (rcC (rc1 (k : Int)) nilS nilS) by rw [hw3]; exact row_alloc_at _ _ _ _ rfl)
  have B3 := Lib.hid (onto B2.out B2.out.size b3)
  obtain ⟨X, hX⟩ : ∃ X, X = w2.heap.size := ⟨_, rfl⟩
  have hXw : w.heap.size < X := by rw [hX]; exact row_lt R2.out
  have hX3 : X < w3.heap.size := by rw [hX]; exact row_lt X3.out
  obtain ⟨x, m2, g2, E1, hx9, hm2, hnx2, hu2⟩ := taP_uni m1 g1
  have H3 := Lib.hid (rtake_num m1 c2 A2 g1 w3 ((S2.out.below b3).more b3.size) (by omega))
  have HU2 := Lib.hid hu2
  have HN2 := Lib.hid hnx2
  rw [← hX] at X3 ⊢
  clear hX b3 hu2 hnx2 S2 R2 B2
  simp only [← hw3]
  clear hw3
  go_wp2_with fail
  refine H3.out.mono ?_
  intro e w4 h4
  obtain ⟨A4, c4, rfl, hs4, hn4, hb4⟩ := HU2.out _ _ _ h4
  have N4 := Lib.hid (hn4 X hX3)
  have S4 := Lib.hid hs4
  have R4 := Lib.hid (carry hb4 R3.out)
  have X4 := Lib.hid (carry hb4 X3.out)
  have B4 := Lib.hid (onto B3.out B3.out.size hb4)
  have hX4 : X < w4.heap.size := Nat.lt_of_lt_of_le hX3 hb4.size
  clear h4 hs4 hn4 hb4 H3 HU2 R3 X3 B3 hX3
  by_cases k1 : k = 1
  · have p1 : ((k : Int) == 1) = true := beq_iff_eq.2 (by omega)
    have p1' : (k == 1) = true := beq_iff_eq.2 k1
    obtain ⟨y, m3, g3, E2, hy9, hm3, hnx3, hu3⟩ := taP_uni m2 g2
    have H5 := Lib.hid (rtake_num m2 c4 A4 g2 w4 S4.out (by omega))
    have HU3 := Lib.hid hu3
    have HN3 := Lib.hid hnx3
    have K1 := Lib.hid k1
    clear hu3 hnx3 k1
    go_wp2_with fail
    refine H5.out.mono ?_
    intro e w5 h5
    obtain ⟨A5, c5, rfl, hs5, -, hb5⟩ := HU3.out _ _ _ h5
    have R5 := Lib.hid (carry hb5 R4.out)
    have X5 := Lib.hid (carry hb5 X4.out)
    have B5 := Lib.hid (onto B4.out B4.out.size hb5)
    have z4 := froz_row X5.out 4
    have z5 := froz_row X5.out 5
    obtain ⟨-, -, -, -, c4', c5', -, -, -, -⟩ := rc_cells X5.out
    clear h5 hs5 hb5 H5 HU3 R4 X4 B4
    go_upto_region 18 with fail
    have hw : (w5.setCell ⟨X, 4, none⟩ (.int .i64 (x : Int))).setCell ⟨X, 5, none⟩ (.int .i64 (y : Int)) = w5.setRow X (rcC { Rc.zero with k := 1, a := (x : Nat), b := (y : Nat) } nilS nilS) := by
      rw [setCell_row X5.out, setCell_row (row_setRow X5.out _), setRow_setRow, K1.out]
      unfold rcC; rfl
    rw [hw]
    obtain ⟨w6, hw6⟩ : ∃ w6, w6 = w5.setRow X (rcC { Rc.zero with k := 1, a := (x : Nat), b := (y : Nat) } nilS nilS) := ⟨_, rfl⟩
    have q6 : row w6 X = some (rcC { Rc.zero with k := 1, a := (x : Nat), b := (y : Nat) } nilS nilS) := by rw [hw6]; exact row_setRow X5.out _
    have r6 : row w6 w.heap.size = some (rcC .zero nilS nilS) := by rw [hw6, row_setRow_other _ _ _ _ (by omega)]; exact R5.out
    have B6 := Lib.hid (show Below w.heap.size w w6 by rw [hw6]; exact below_setRow B5.out (by omega) _)
    rw [← hw6]
    have R6 := Lib.hid r6
    have HON := Lib.hid (show dcK n f → _ from on_1 (by rw [← K1.out]; exact HN1.out) HN2.out HN3.out)
    clear hw hw6 z4 z5 c4' c5'
    go_wp2_with fail
    exact bodyPost_ret (v := .agg (rcC { Rc.zero with k := 1, a := (x : Nat), b := (y : Nat) } nilS nilS)) (res_c Tryz.results59 _ _ w.heap.size _ _ rfl (row_setRow R6.out _) Tryz.underlying29 rfl (by rw [rc_i, rc_size])) rfl
      ⟨below_setRow B6.out (Nat.le_refl _) _, _, _, rfl, rcN_bare rfl rfl, fun h => absurd h (by show ¬ (1 : Int) = 2; omega), HON.out⟩
  have p1 : ((k : Int) == 1) = false := beq_eq_false_iff_ne.2 (by omega)
  have p1' : (k == 1) = false := beq_eq_false_iff_ne.2 k1
  by_cases k2 : k = 2
  · have p2 : ((k : Int) == 2) = true := beq_iff_eq.2 (by omega)
    have p2' : (k == 2) = true := beq_iff_eq.2 k2
    obtain ⟨T, gt_, E2, hT, hnx3, -, hu3⟩ := ttP_uni m2 4096 g2
    obtain ⟨en, hen, hnx4, hu4⟩ := teR_uni T gt_
    have HU3 := Lib.hid hu3
    have HN3 := Lib.hid hnx3
    have HU4 := Lib.hid hu4
    have HN4 := Lib.hid hnx4
    have HEN := Lib.hid hen
    have K2 := Lib.hid k2
    have z1 := froz_row X4.out 1
    obtain ⟨-, c1', -, -, -, -, -, -, -, -⟩ := rc_cells X4.out
    clear hu3 hnx3 hu4 hnx4 hen k1 k2
    go_upto_region 10 with fail
    have hw : w4.setCell ⟨X, 1, none⟩ (.int .i64 (x : Int)) = w4.setRow X (rcC { Rc.zero with k := 2, i := (x : Nat) } nilS nilS) := by
      rw [setCell_row X4.out, K2.out]
      unfold rcC; rfl
    rw [hw]
    obtain ⟨w5, hw5⟩ : ∃ w5, w5 = w4.setRow X (rcC { Rc.zero with k := 2, i := (x : Nat) } nilS nilS) := ⟨_, rfl⟩
    have X5 := Lib.hid (show row w5 X = some (rcC { Rc.zero with k := 2, i := (x : Nat) } nilS nilS) by rw [hw5]; exact row_setRow X4.out _)
    have R5 := Lib.hid (show row w5 w.heap.size = some (rcC .zero nilS nilS) by rw [hw5, row_setRow_other _ _ _ _ (by omega)]; exact R4.out)
    have B5 := Lib.hid (show Below w.heap.size w w5 by rw [hw5]; exact below_setRow B4.out (by omega) _)
    have hp5 : Put X (rcC { Rc.zero with k := 2, i := (x : Nat) } nilS nilS) w4 w5 := by rw [hw5]; exact Put.of (Below.refl _ _) (row_lt X4.out) _
    have S5 := Lib.hid ((hp5.sl S4.out (Nat.le_refl _) N4.out).more hp5.size)
    have hX5 : X < w5.heap.size := Nat.lt_of_lt_of_le hX4 hp5.size
    have H5 := Lib.hid (rtaket_any m2 c4 4096 A4 g2 w5 S5.out (by omega))
    rw [← hw5]
    clear hw hw5 hp5 z1 c1' R4 X4 B4 S4
    go_wp2_with fail
    refine H5.out.mono ?_
    intro e w6 h6
    obtain ⟨A6, c6, v6, rfl, hs6, hb6⟩ := HU3.out _ _ _ h6
    have X6 := Lib.hid (carry hb6 X5.out)
    have R6 := Lib.hid (carry hb6 R5.out)
    have B6 := Lib.hid (onto B5.out B5.out.size hb6)
    have hX6 : X < w6.heap.size := Nat.lt_of_lt_of_le hX5 hb6.size
    have H6 := Lib.hid (rtakeent_new T c6 A6 gt_ w6 hs6 (by omega))
    clear h6 hs6 hb6 H5 HU3 X5 R5 B5 S5
    go_wp2_with fail
    refine H6.out.mono ?_
    intro e w7 h7
    obtain ⟨A7, c7, A7', c7', E7, rfl, he7, hn7, hn7', hb7⟩ := HU4.out _ _ _ h7
    have X7 := Lib.hid (carry hb7 X6.out)
    have R7 := Lib.hid (carry hb7 R6.out)
    have B7 := Lib.hid (onto B6.out B6.out.size hb7)
    have hX7 : X < w7.heap.size := Nat.lt_of_lt_of_le hX6 hb7.size
    have hsz : w.heap.size < w6.heap.size := by omega
    have hXlt : X < w6.heap.size := hX6
    have G7 := Lib.hid (show RcN w6.heap.size w7 { Rc.zero with k := 2, i := (x : Nat), e := en } (.agg (rcC { Rc.zero with k := 2, i := (x : Nat), e := en } (.slice A7 en.T c7) (.slice A7' en.n c7'))) from ⟨A7, c7, A7', c7', rfl, he7, hn7, hn7'⟩)
    obtain ⟨-, -, -, -, -, -, q6, q7, q8, q9⟩ := rc_cells X7.out
    have z6 := froz_row X7.out 6
    have z7 := froz_row X7.out 7
    have z8 := froz_row X7.out 8
    have z9 := froz_row X7.out 9
    clear h7 he7 hn7 hn7' hb7 H6 HU4 X6 R6 B6 hX6
    go_upto_region 18 with fail
    rw [rc_setE X7.out en]
    obtain ⟨w8, hw8⟩ : ∃ w8, w8 = w7.setRow X (rcC { Rc.zero with k := 2, i := (x : Nat), e := en } (.slice A7 en.T c7) (.slice A7' en.n c7')) := ⟨_, rfl⟩
    have q8' : row w8 X = some (rcC { Rc.zero with k := 2, i := (x : Nat), e := en } (.slice A7 en.T c7) (.slice A7' en.n c7')) := by rw [hw8]; exact row_setRow X7.out _
    have r8 : row w8 w.heap.size = some (rcC .zero nilS nilS) := by rw [hw8, row_setRow_other _ _ _ _ (by omega)]; exact R7.out
    have B8 := Lib.hid (show Below w.heap.size w w8 by rw [hw8]; exact below_setRow B7.out (by omega) _)
    have G8 := Lib.hid (show RcN w6.heap.size w8 { Rc.zero with k := 2, i := (x : Nat), e := en } (.agg (rcC { Rc.zero with k := 2, i := (x : Nat), e := en } (.slice A7 en.T c7) (.slice A7' en.n c7'))) by rw [hw8]; exact G7.out.setRow hXlt X7.out _)
    rw [← hw8]
    have R8 := Lib.hid r8
    have HON := Lib.hid (show dcK n f → _ from on_2 (by rw [← K2.out]; exact HN1.out) HN2.out HN3.out HN4.out)
    clear hw8 z6 z7 z8 z9 q6 q7 q8 q9
    go_wp2_with fail
    exact bodyPost_ret (v := .agg (rcC { Rc.zero with k := 2, i := (x : Nat), e := en } (.slice A7 en.T c7) (.slice A7' en.n c7'))) (res_c Tryz.results59 _ _ w.heap.size _ _ rfl (row_setRow R8.out _) Tryz.underlying29 rfl (by rw [rc_i, rc_size])) rfl
      ⟨below_setRow B8.out (Nat.le_refl _) _, _, _, rfl, (G8.out.setRow hsz R8.out _).low (by omega), fun _ => HEN.out, HON.out⟩
  have p2 : ((k : Int) == 2) = false := beq_eq_false_iff_ne.2 (by omega)
  have p2' : (k == 2) = false := beq_eq_false_iff_ne.2 k2
  by_cases k3 : k = 3
  · have p3 : ((k : Int) == 3) = true := beq_iff_eq.2 (by omega)
    have p3' : (k == 3) = true := beq_iff_eq.2 k3
    obtain ⟨y, m3, g3, E2, hy9, hm3, hnx3, hu3⟩ := taP_uni m2 g2
    obtain ⟨z, m4, g4, E3, hz9, hm4, hnx4, hu4⟩ := taP_uni m3 g3
    have H5 := Lib.hid (rtake_num m2 c4 A4 g2 w4 S4.out (by omega))
    have HU3 := Lib.hid hu3
    have HN3 := Lib.hid hnx3
    have HU4 := Lib.hid hu4
    have HN4 := Lib.hid hnx4
    have K3 := Lib.hid k3
    clear hu3 hnx3 hu4 hnx4 k1 k2 k3
    go_wp2_with fail
    refine H5.out.mono ?_
    intro e w5 h5
    obtain ⟨A5, c5, rfl, hs5, -, hb5⟩ := HU3.out _ _ _ h5
    have R5 := Lib.hid (carry hb5 R4.out)
    have X5 := Lib.hid (carry hb5 X4.out)
    have B5 := Lib.hid (onto B4.out B4.out.size hb5)
    have H6 := Lib.hid (rtake_num m3 c5 A5 g3 w5 hs5 (by omega))
    clear h5 hs5 hb5 H5 HU3 R4 X4 B4
    go_wp2_with fail
    refine H6.out.mono ?_
    intro e w6 h6
    obtain ⟨A6, c6, rfl, hs6, -, hb6⟩ := HU4.out _ _ _ h6
    have R6 := Lib.hid (carry hb6 R5.out)
    have X6 := Lib.hid (carry hb6 X5.out)
    have B6 := Lib.hid (onto B5.out B5.out.size hb6)
    have z1 := froz_row X6.out 1
    have z2 := froz_row X6.out 2
    have z3 := froz_row X6.out 3
    obtain ⟨-, q1, q2, q3, -, -, -, -, -, -⟩ := rc_cells X6.out
    clear h6 hs6 hb6 H6 HU4 R5 X5 B5
    go_upto_region 18 with fail
    have hw : ((w6.setCell ⟨X, 1, none⟩ (.int .i64 (x : Int))).setCell ⟨X, 2, none⟩ (.int .i64 (y : Int))).setCell ⟨X, 3, none⟩ (.int .i64 (z : Int)) = w6.setRow X (rcC { Rc.zero with k := 3, i := (x : Nat), t := (y : Nat), n := (z : Nat) } nilS nilS) := by
      rw [setCell_row X6.out, setCell_row (row_setRow X6.out _), setRow_setRow, setCell_row (row_setRow X6.out _), setRow_setRow, K3.out]
      unfold rcC; rfl
    rw [hw]
    obtain ⟨w7, hw7⟩ : ∃ w7, w7 = w6.setRow X (rcC { Rc.zero with k := 3, i := (x : Nat), t := (y : Nat), n := (z : Nat) } nilS nilS) := ⟨_, rfl⟩
    have q7 : row w7 X = some (rcC { Rc.zero with k := 3, i := (x : Nat), t := (y : Nat), n := (z : Nat) } nilS nilS) := by rw [hw7]; exact row_setRow X6.out _
    have r7 : row w7 w.heap.size = some (rcC .zero nilS nilS) := by rw [hw7, row_setRow_other _ _ _ _ (by omega)]; exact R6.out
    have B7 := Lib.hid (show Below w.heap.size w w7 by rw [hw7]; exact below_setRow B6.out (by omega) _)
    rw [← hw7]
    have R7 := Lib.hid r7
    have HON := Lib.hid (show dcK n f → _ from on_3 (by rw [← K3.out]; exact HN1.out) HN2.out HN3.out HN4.out)
    clear hw hw7 z1 z2 z3 q1 q2 q3
    go_wp2_with fail
    exact bodyPost_ret (v := .agg (rcC { Rc.zero with k := 3, i := (x : Nat), t := (y : Nat), n := (z : Nat) } nilS nilS)) (res_c Tryz.results59 _ _ w.heap.size _ _ rfl (row_setRow R7.out _) Tryz.underlying29 rfl (by rw [rc_i, rc_size])) rfl
      ⟨below_setRow B7.out (Nat.le_refl _) _, _, _, rfl, rcN_bare rfl rfl, fun h => absurd h (by show ¬ (3 : Int) = 2; omega), HON.out⟩
  have p3 : ((k : Int) == 3) = false := beq_eq_false_iff_ne.2 (by omega)
  have p3' : (k == 3) = false := beq_eq_false_iff_ne.2 k3
  have HON := Lib.hid (fun h : dcK n f => on_0 HN1.out k1 k2 k3 h)
  have K2 := Lib.hid (show ¬ ((k : Nat) : Int) = 2 by omega)
  have x4 := X4.out
  have r4 := R4.out
  clear k1 k2 k3
  go_wp2_with fail
  exact bodyPost_ret (v := .agg (rcC (rc1 (k : Int)) nilS nilS)) (res_c Tryz.results59 _ _ w.heap.size _ _ rfl (row_setRow R4.out _) Tryz.underlying29 rfl (by rw [rc_i, rc_size])) rfl
    ⟨below_setRow B4.out (Nat.le_refl _) _, rc1 (k : Int), _, rfl, rcN_bare rfl rfl, fun h => absurd h K2.out, fun h => (HON.out h).elim⟩
end Go.Proofs.YtdfcldomjjcidaaGreatDoor.Oct
