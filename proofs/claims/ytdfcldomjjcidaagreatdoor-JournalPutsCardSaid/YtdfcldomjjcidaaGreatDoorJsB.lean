/- Contract: the reference's Puts. -/
import Derived.Test.YtdfcldomjjcidaaGreatDoorJsA
import Derived.Deep.CutBlock
namespace Go.Proofs.YtdfcldomjjcidaaGreatDoor.Oct
open Go.ChangeShapes Go.WideShapes Go.ChangeAt Go.RowKit
set_option linter.unusedVariables false

/-- what the reference asks of a record -/
def okB (r : Rc) : Bool :=
  if r.k = 1 then decide (nIn r.a) && (decide (nIn r.b) && ((r.i == 0) && ((r.t == 0) && ((r.n == 0) && bareB r.e))))
  else if r.k = 2 then decide (nIn r.i) && ((r.t == 0) && ((r.n == 0) && ((r.a == 0) && (r.b == 0))))
  else if r.k = 3 then decide (nIn r.i) && (decide (nIn r.t) && (decide (nIn r.n) && (bareB r.e && ((r.a == 0) && (r.b == 0)))))
  else false
theorem okB_iff (r : Rc) : okB r = true ↔ rcOk r := by
  obtain ⟨k, i, t, n, a, b, ⟨et, ek, eT, ef, en, ex⟩⟩ := r
  unfold okB rcOk kd
  simp only
  by_cases h1 : k = 1
  · subst h1
    have hj : (∀ j, j < nCn 1 → nIn (nVl ⟨1, i, t, n, a, b, ⟨et, ek, eT, ef, en, ex⟩⟩ j)) ↔ nIn a ∧ nIn b := by
      constructor
      · intro h; exact ⟨h 0 (by decide), h 1 (by decide)⟩
      · rintro ⟨x, y⟩ j hj
        have : j = 0 ∨ j = 1 := by have : j < 2 := hj; omega
        rcases this with rfl | rfl
        · exact x
        · exact y
    rw [hj]
    simp [fdB, zrE, zr, nCn, bareB, and_assoc]
  by_cases h2 : k = 2
  · subst h2
    have hj : (∀ j, j < nCn 2 → nIn (nVl ⟨2, i, t, n, a, b, ⟨et, ek, eT, ef, en, ex⟩⟩ j)) ↔ nIn i := by
      constructor
      · intro h; exact h 0 (by decide)
      · intro x j hj
        obtain rfl : j = 0 := by have : j < 1 := hj; omega
        exact x
    rw [hj]
    simp [fdB, zrE, zr, nCn, En.zero]
  by_cases h3 : k = 3
  · subst h3
    have hj : (∀ j, j < nCn 3 → nIn (nVl ⟨3, i, t, n, a, b, ⟨et, ek, eT, ef, en, ex⟩⟩ j)) ↔ nIn i ∧ nIn t ∧ nIn n := by
      constructor
      · intro h; exact ⟨h 0 (by decide), h 1 (by decide), h 2 (by decide)⟩
      · rintro ⟨x, y, z⟩ j hj
        have : j = 0 ∨ j = 1 ∨ j = 2 := by have : j < 3 := hj; omega
        rcases this with rfl | rfl | rfl
        · exact x
        · exact y
        · exact z
    rw [hj]
    simp [fdB, zrE, zr, nCn, bareB, and_assoc]
    intro _ _ _
    constructor
    · rintro ⟨p4, p5, p6, p7, p8, p9⟩; exact ⟨p8, p9, p4, p5, p6, p7⟩
    · rintro ⟨p8, p9, p4, p5, p6, p7⟩; exact ⟨p4, p5, p6, p7, p8, p9⟩
  simp [h1, h2, h3]
set_option maxRecDepth 20000 in
set_option maxHeartbeats 4000000 in
theorem rputs_any (r : Rc) (A A' AK : Option Addr) (c c' cK : Nat) (w : World) (hK : SlG w w.heap.size AK 64 cK kV) (hr : EnR w r.e A c A' c') (hb : r.k = 2 → EnB r.e) :
    Calls Tryz.prog 27 #[.agg (tbA (.slice AK 64 cK) iF), .agg (rcC r (.slice A r.e.T c) (.slice A' r.e.n c'))] w (cmP (pcE r) (pcL r) (pcF r) w) := by
  obtain ⟨w1, hw1⟩ : ∃ w1, w1 = (w.alloc (.cells (tbA (.slice AK 64 cK) iF) 39)).alloc (.cells (rcC r (.slice A r.e.T c) (.slice A' r.e.n c')) 29) := ⟨_, rfl⟩
  obtain ⟨w2, hw2⟩ : ∃ w2, w2 = w1.alloc (.cells #[.int .i64 0, .int .i64 0, nilS, nilS] 27) := ⟨_, rfl⟩
  have hz1 : w1.heap.size = w.heap.size + 2 := by rw [hw1]; simp
  have b1 : Below w.heap.size w w1 := by rw [hw1]; exact ((Below.refl _ _).alloc (Nat.le_refl _) _).alloc (by simp) _
  have b2 : Below w1.heap.size w1 w2 := by rw [hw2]; exact (Below.refl _ _).alloc (Nat.le_refl _) _
  have t1 : row w1 w.heap.size = some (tbA (.slice AK 64 cK) iF) := by rw [hw1]; exact row_alloc (row_alloc_at _ _ _ _ rfl) _
  have r1 : row w1 (w.heap.size + 1) = some (rcC r (.slice A r.e.T c) (.slice A' r.e.n c')) := by rw [hw1]; exact row_alloc_at _ _ _ _ (by simp)
  have T2 := Lib.hid (carry b2 t1)
  have R2 := Lib.hid (carry b2 r1)
  have N2 := Lib.hid (show row w2 w1.heap.size = some #[.int .i64 0, .int .i64 0, nilS, nilS] by rw [hw2]; exact row_alloc_at _ _ _ _ rfl)
  have B2 := Lib.hid (onto b1 b1.size b2)
  have E2 := Lib.hid ((hr.below b1).below b2)
  have K2 := Lib.hid (((hK.below b1).more b1.size).below b2 |>.more b2.size)
  have HB := Lib.hid hb
  have HBA := Lib.hid (rbare_any r.e A A' c c' w2 E2.out)
  obtain ⟨k0, i0, tt0, n0, a0, b0, e0, e1, e2, e3⟩ := rc_cells R2.out
  obtain ⟨z0, z1, z2, z3⟩ := cells4 N2.out
  clear b1 b2 t1 r1 hb hr hK
  go_enter Tryz.func27, Tryz.ntmps27
  go_upto_region 1 with fail
  simp only [← hw1]
  clear hw1
  go_upto_region 2 with fail
  simp only [← hw2]
  clear hw2
  rw [hz1] at z0 z1 z2 z3
  go_wp2_with fail
  refine HBA.out.mono ?_
  rintro e w3 ⟨rfl, hb3⟩
  have R3 := Lib.hid (carry hb3 R2.out)
  have T3 := Lib.hid (carry hb3 T2.out)
  have B3 := Lib.hid (onto B2.out B2.out.size hb3)
  have E3 := Lib.hid (E2.out.below hb3)
  have K3 := Lib.hid ((K2.out.below hb3).more hb3.size)
  clear k0 i0 tt0 n0 a0 b0 e0 e1 e2 e3 z0 z1 z2 z3 hb3 HBA R2 T2 N2 B2 E2 K2 hz1
  obtain ⟨k0, i0, tt0, n0, a0, b0, e0, e1, e2, e3⟩ := rc_cells R3.out
  go_upto_block 0 with fail
  go_cut [7, 8] from 18 to 95 (fun _ v wx => v = .bool (okB r) ∧ wx = w3)
  case first =>
    by_cases h1 : r.k = 1
    · have p1 : (r.k == 1) = true := beq_iff_eq.2 h1
      obtain ⟨y0, hy0⟩ : ∃ y, y = decide (nIn r.a) := ⟨_, rfl⟩
      obtain ⟨y1, hy1⟩ : ∃ y, y = decide (nIn r.b) := ⟨_, rfl⟩
      obtain ⟨y2, hy2⟩ : ∃ y, y = (r.i == 0) := ⟨_, rfl⟩
      obtain ⟨y3, hy3⟩ : ∃ y, y = (r.t == 0) := ⟨_, rfl⟩
      obtain ⟨y4, hy4⟩ : ∃ y, y = (r.n == 0) := ⟨_, rfl⟩
      obtain ⟨y5, hy5⟩ : ∃ y, y = bareB r.e := ⟨_, rfl⟩
      have HO := Lib.hid (show okB r = (y0 && (y1 && (y2 && (y3 && (y4 && y5))))) by unfold okB; rw [if_pos h1, hy0, hy1, hy2, hy3, hy4, hy5])
      have g2 := hy2.symm
      clear hy2
      have g3 := hy3.symm
      clear hy3
      have g4 := hy4.symm
      clear hy4
      rw [← hy5]
      clear hy5
      clear h1
      go_wp2_with fail
      refine (rin_any r.a w3).mono ?_
      rintro e w3' ⟨rfl, rfl⟩
      rw [← hy0]
      clear hy0
      cases y0 with
      | false =>
        have F := Lib.hid (show okB r = false from HO.out)
        go_wp2_with fail
        go_meet
        exact ⟨by rw [F.out], rfl⟩
      | true =>
        go_wp2_with fail
        refine (rin_any r.b w3).mono ?_
        rintro e w3' ⟨rfl, rfl⟩
        rw [← hy1]
        clear hy1
        cases y1 with
        | false =>
          have F := Lib.hid (show okB r = false from HO.out)
          go_wp2_with fail
          go_meet
          exact ⟨by rw [F.out], rfl⟩
        | true =>
          cases y2 with
          | false =>
            have F := Lib.hid (show okB r = false from HO.out)
            go_wp2_with fail
            go_meet
            exact ⟨by rw [F.out], rfl⟩
          | true =>
            cases y3 with
            | false =>
              have F := Lib.hid (show okB r = false from HO.out)
              go_wp2_with fail
              go_meet
              exact ⟨by rw [F.out], rfl⟩
            | true =>
              cases y4 with
              | false =>
                have F := Lib.hid (show okB r = false from HO.out)
                go_wp2_with fail
                go_meet
                exact ⟨by rw [F.out], rfl⟩
              | true =>
                cases y5 with
                | false =>
                  have F := Lib.hid (show okB r = false from HO.out)
                  go_wp2_with fail
                  go_meet
                  exact ⟨by rw [F.out], rfl⟩
                | true =>
                  have F := Lib.hid (show okB r = true from HO.out)
                  go_wp2_with fail
                  go_meet
                  exact ⟨by rw [F.out], rfl⟩
    have p1 : (r.k == 1) = false := beq_eq_false_iff_ne.2 h1
    by_cases h2 : r.k = 2
    · have p2 : (r.k == 2) = true := beq_iff_eq.2 h2
      obtain ⟨y0, hy0⟩ : ∃ y, y = decide (nIn r.i) := ⟨_, rfl⟩
      obtain ⟨y1, hy1⟩ : ∃ y, y = (r.t == 0) := ⟨_, rfl⟩
      obtain ⟨y2, hy2⟩ : ∃ y, y = (r.n == 0) := ⟨_, rfl⟩
      obtain ⟨y3, hy3⟩ : ∃ y, y = (r.a == 0) := ⟨_, rfl⟩
      obtain ⟨y4, hy4⟩ : ∃ y, y = (r.b == 0) := ⟨_, rfl⟩
      have HO := Lib.hid (show okB r = (y0 && (y1 && (y2 && (y3 && y4)))) by unfold okB; rw [if_neg h1, if_pos h2, hy0, hy1, hy2, hy3, hy4])
      have g1 := hy1.symm
      clear hy1
      have g2 := hy2.symm
      clear hy2
      have g3 := hy3.symm
      clear hy3
      have g4 := hy4.symm
      clear hy4
      clear h2
      go_wp2_with fail
      refine (rin_any r.i w3).mono ?_
      rintro e w3' ⟨rfl, rfl⟩
      rw [← hy0]
      clear hy0
      cases y0 with
      | false =>
        have F := Lib.hid (show okB r = false from HO.out)
        go_wp2_with fail
        go_meet
        exact ⟨by rw [F.out], rfl⟩
      | true =>
        cases y1 with
        | false =>
          have F := Lib.hid (show okB r = false from HO.out)
          go_wp2_with fail
          go_meet
          exact ⟨by rw [F.out], rfl⟩
        | true =>
          cases y2 with
          | false =>
            have F := Lib.hid (show okB r = false from HO.out)
            go_wp2_with fail
            go_meet
            exact ⟨by rw [F.out], rfl⟩
          | true =>
            cases y3 with
            | false =>
              have q3 : ¬ r.a = 0 := beq_eq_false_iff_ne.1 g3
              have F := Lib.hid (show okB r = false from HO.out)
              go_wp2_with fail
              go_meet
              exact ⟨by rw [F.out], rfl⟩
            | true =>
              have q3 : r.a = 0 := beq_iff_eq.1 g3
              cases y4 with
              | false =>
                have q4 : ¬ r.b = 0 := beq_eq_false_iff_ne.1 g4
                have F := Lib.hid (show okB r = false from HO.out)
                go_wp2_with fail
                go_meet
                exact ⟨by rw [F.out], rfl⟩
              | true =>
                have q4 : r.b = 0 := beq_iff_eq.1 g4
                have F := Lib.hid (show okB r = true from HO.out)
                go_wp2_with fail
                go_meet
                exact ⟨by rw [F.out], rfl⟩
    have p2 : (r.k == 2) = false := beq_eq_false_iff_ne.2 h2
    by_cases h3 : r.k = 3
    · have p3 : (r.k == 3) = true := beq_iff_eq.2 h3
      obtain ⟨y0, hy0⟩ : ∃ y, y = decide (nIn r.i) := ⟨_, rfl⟩
      obtain ⟨y1, hy1⟩ : ∃ y, y = decide (nIn r.t) := ⟨_, rfl⟩
      obtain ⟨y2, hy2⟩ : ∃ y, y = decide (nIn r.n) := ⟨_, rfl⟩
      obtain ⟨y3, hy3⟩ : ∃ y, y = bareB r.e := ⟨_, rfl⟩
      obtain ⟨y4, hy4⟩ : ∃ y, y = (r.a == 0) := ⟨_, rfl⟩
      obtain ⟨y5, hy5⟩ : ∃ y, y = (r.b == 0) := ⟨_, rfl⟩
      have HO := Lib.hid (show okB r = (y0 && (y1 && (y2 && (y3 && (y4 && y5))))) by unfold okB; rw [if_neg h1, if_neg h2, if_pos h3, hy0, hy1, hy2, hy3, hy4, hy5])
      rw [← hy3]
      clear hy3
      have g4 := hy4.symm
      clear hy4
      have g5 := hy5.symm
      clear hy5
      clear h3
      go_wp2_with fail
      refine (rin_any r.i w3).mono ?_
      rintro e w3' ⟨rfl, rfl⟩
      rw [← hy0]
      clear hy0
      cases y0 with
      | false =>
        have F := Lib.hid (show okB r = false from HO.out)
        go_wp2_with fail
        go_meet
        exact ⟨by rw [F.out], rfl⟩
      | true =>
        go_wp2_with fail
        refine (rin_any r.t w3).mono ?_
        rintro e w3' ⟨rfl, rfl⟩
        rw [← hy1]
        clear hy1
        cases y1 with
        | false =>
          have F := Lib.hid (show okB r = false from HO.out)
          go_wp2_with fail
          go_meet
          exact ⟨by rw [F.out], rfl⟩
        | true =>
          go_wp2_with fail
          refine (rin_any r.n w3).mono ?_
          rintro e w3' ⟨rfl, rfl⟩
          rw [← hy2]
          clear hy2
          cases y2 with
          | false =>
            have F := Lib.hid (show okB r = false from HO.out)
            go_wp2_with fail
            go_meet
            exact ⟨by rw [F.out], rfl⟩
          | true =>
            cases y3 with
            | false =>
              have F := Lib.hid (show okB r = false from HO.out)
              go_wp2_with fail
              go_meet
              exact ⟨by rw [F.out], rfl⟩
            | true =>
              cases y4 with
              | false =>
                have q4 : ¬ r.a = 0 := beq_eq_false_iff_ne.1 g4
                have F := Lib.hid (show okB r = false from HO.out)
                go_wp2_with fail
                go_meet
                exact ⟨by rw [F.out], rfl⟩
              | true =>
                have q4 : r.a = 0 := beq_iff_eq.1 g4
                cases y5 with
                | false =>
                  have q5 : ¬ r.b = 0 := beq_eq_false_iff_ne.1 g5
                  have F := Lib.hid (show okB r = false from HO.out)
                  go_wp2_with fail
                  go_meet
                  exact ⟨by rw [F.out], rfl⟩
                | true =>
                  have q5 : r.b = 0 := beq_iff_eq.1 g5
                  have F := Lib.hid (show okB r = true from HO.out)
                  go_wp2_with fail
                  go_meet
                  exact ⟨by rw [F.out], rfl⟩
    have p3 : (r.k == 3) = false := beq_eq_false_iff_ne.2 h3
    have F := Lib.hid (show okB r = false by unfold okB; rw [if_neg h1, if_neg h2, if_neg h3])
    clear h1 h2 h3
    go_wp2_with fail
    go_meet
    exact ⟨by rw [F.out], rfl⟩
  case rest =>
  obtain ⟨rfl, hwc⟩ := hcut
  rw [hwc]
  clear hwc wc
  by_cases hok : rcOk r
  rotate_left
  · have hb : okB r = false := by
      cases h : okB r with
      | false => rfl
      | true => exact absurd ((okB_iff r).1 h) hok
    have HE := Lib.hid (show pcE r = 1 by unfold pcE; rw [if_pos hok])
    rw [hb]
    clear hb hok
    go_wp2_with fail
    exact bodyPost_ret (v := .tuple #[.slice none 0 0, .int .i64 1]) (by simp [results, Tryz.results27, go_sem]) rfl (.inl ⟨by rw [HE.out]; omega, by rw [HE.out]; rfl, B3.out⟩)
  have hb : okB r = true := (okB_iff r).2 hok
  have HOK := Lib.hid hok
  rw [hb]
  clear hb hok
  obtain ⟨w4, hw4⟩ : ∃ w4, w4 = w3.alloc (.cells #[.int .i64 r.k, .int .i64 r.a, .int .i64 r.b] 3) := ⟨_, rfl⟩
  have b4 : Below w3.heap.size w3 w4 := by rw [hw4]; exact (Below.refl _ _).alloc (Nat.le_refl _) _
  have L4 := Lib.hid (show row w4 w3.heap.size = some #[.int .i64 r.k, .int .i64 r.a, .int .i64 r.b] by rw [hw4]; exact row_alloc_at _ _ _ _ rfl)
  have BB4 := Lib.hid b4
  obtain ⟨k0', i0', tt0', n0', a0', b0', -, -, -, -⟩ := rc_cells (carry b4 R3.out)
  obtain ⟨M, hM⟩ : ∃ M, M = nCn r.k + 1 := ⟨_, rfl⟩
  have HM := Lib.hid hM
  clear hM b4
  go_upto_region 14 with fail
  simp only [← hw4]
  clear hw4 k0 i0 tt0 n0 a0 b0 e0 e1 e2 e3
  go_upto_if 109 with fail
  go_cut [9] (fun v wx => Below w3.heap.size w3 wx ∧ ((r.k = 2 ∧ ∃ Lb, v = .slice (some ⟨Lb, 0, none⟩) 2 2 ∧ row wx Lb = some #[.int .i64 r.k, .int .i64 r.i]) ∨ (r.k ≠ 2 ∧ v = .slice (some ⟨w3.heap.size, 0, none⟩) 3 3 ∧ wx = w4)))
  case first =>
    by_cases h2 : r.k = 2
    · have p2 : (r.k == 2) = true := beq_iff_eq.2 h2
      have H2 := Lib.hid h2
      clear h2
      go_wp2_with fail
      go_meet
      exact ⟨BB4.out.alloc BB4.out.size _, .inl ⟨H2.out, _, rfl, row_alloc_at _ _ _ _ rfl⟩⟩
    · have p2 : (r.k == 2) = false := beq_eq_false_iff_ne.2 h2
      have H2 := Lib.hid h2
      clear h2
      go_wp2_with fail
      go_meet
      exact ⟨BB4.out, .inr ⟨H2.out, rfl, rfl⟩⟩
  case rest =>
  obtain ⟨hbc, hcc⟩ := hcut
  have HCC := Lib.hid hcc
  have BC := Lib.hid hbc
  have RC := Lib.hid (carry hbc R3.out)
  clear hcc k0' i0' tt0' n0' a0' b0' BB4 hbc
  obtain ⟨k0, i0, tt0, n0, a0, b0, -, -, -, -⟩ := rc_cells RC.out
  go_upto_if 117 with fail
  go_cut [9] (fun v wx => Below w3.heap.size w3 wx ∧ ∃ Lb, v = .slice (some ⟨Lb, 0, none⟩) M M ∧ (∀ j, j < M → wx.cell? ⟨Lb, j, none⟩ = some (.int .i64 (rcX r j))) ∧ Lb < wx.heap.size)
  case first =>
    rcases HCC.out with ⟨h2, Lb, rfl, hrow⟩ | ⟨h2, rfl, hwc⟩
    · have p3 : (r.k == 3) = false := beq_eq_false_iff_ne.2 (by omega)
      have H2 := Lib.hid h2
      have HR := Lib.hid hrow
      clear h2 hrow
      go_wp2_with fail
      go_meet
      have hM2 : M = 2 := by rw [HM.out, H2.out]; rfl
      subst hM2
      refine ⟨BC.out, Lb, rfl, fun j hj => ?_, row_lt HR.out⟩
      rw [cell_row HR.out]
      have : j = 0 ∨ j = 1 := by omega
      rcases this with rfl | rfl
      · rfl
      · unfold rcX nVl; simp [H2.out]
    · have HR := Lib.hid (show row wc w3.heap.size = some #[.int .i64 r.k, .int .i64 r.a, .int .i64 r.b] by rw [hwc]; exact L4.out)
      clear hwc
      by_cases h3 : r.k = 3
      · have p3 : (r.k == 3) = true := beq_iff_eq.2 h3
        have H3 := Lib.hid h3
        clear h3 h2
        go_wp2_with fail
        go_meet
        have hM2 : M = 4 := by rw [HM.out, H3.out]; rfl
        subst hM2
        refine ⟨BC.out.alloc BC.out.size _, _, rfl, fun j hj => ?_, by simp⟩
        rw [cell_row (row_alloc_at _ _ _ _ rfl)]
        have : j = 0 ∨ j = 1 ∨ j = 2 ∨ j = 3 := by omega
        rcases this with rfl | rfl | rfl | rfl
        · rfl
        all_goals (unfold rcX nVl; simp [H3.out])
      · have p3 : (r.k == 3) = false := beq_eq_false_iff_ne.2 h3
        have H1 := Lib.hid (show r.k = 1 by have := HOK.out.1; unfold kd at this; omega)
        clear h3 h2
        go_wp2_with fail
        go_meet
        have hM2 : M = 3 := by rw [HM.out, H1.out]; rfl
        subst hM2
        refine ⟨BC.out, _, rfl, fun j hj => ?_, row_lt HR.out⟩
        rw [cell_row HR.out]
        have : j = 0 ∨ j = 1 ∨ j = 2 := by omega
        rcases this with rfl | rfl | rfl
        · rfl
        all_goals (unfold rcX nVl; simp [H1.out])
  case rest =>
  obtain ⟨hb5, Lb, rfl, hl, hLb⟩ := hcut
  obtain ⟨w5, hw5⟩ : ∃ w5, w5 = wc := ⟨_, rfl⟩
  rw [← hw5] at hb5 hl hLb ⊢
  clear hw5 HCC BC RC k0 i0 tt0 n0 a0 b0 L4
  have L5 := Lib.hid hl
  have B5 := Lib.hid (onto B3.out B3.out.size hb5)
  obtain ⟨w6, hw6⟩ : ∃ w6, w6 = w5.alloc (.cells #[] 5) := ⟨_, rfl⟩
  have b6 : Below w5.heap.size w5 w6 := by rw [hw6]; exact (Below.refl _ _).alloc (Nat.le_refl _) _
  have O6 := Lib.hid (show Own w6 w.heap.size 5 (.slice (some ⟨w5.heap.size, 0, none⟩) 0 0) 0 nF by rw [hw6]; exact Own.empty _ _ _ _ B5.out.size)
  have B6 := Lib.hid (onto B5.out B5.out.size b6)
  have bx := onto hb5 hb5.size b6
  have R6 := Lib.hid (carry bx R3.out)
  have T6 := Lib.hid (carry bx T3.out)
  have E6 := Lib.hid (E3.out.below bx)
  have K6 := Lib.hid ((K3.out.below bx).more bx.size)
  have L6 := Lib.hid (show ∀ j, j < M → w6.cell? ⟨Lb, j, none⟩ = some (.int .i64 (rcX r j)) from fun j hj => by rw [b6.cell (p := ⟨Lb, j, none⟩) hLb]; exact hl j hj)
  have hLb6 : Lb < w6.heap.size := Nat.lt_of_lt_of_le hLb b6.size
  have HX := Lib.hid (show ∀ j, j < M → 0 ≤ rcX r j ∧ rcX r j < 9223372036854775808 from fun j hj => by
    have h1 := HOK.out
    unfold rcX
    by_cases e : j = 0
    · rw [if_pos e]; have := h1.1; unfold kd at this; omega
    · rw [if_neg e]; have := h1.2.1 (j - 1) (by have := HM.out; omega); unfold nIn at this; omega)
  have hM4 : M ≤ 4 := by have := HM.out; have := nCn_le r.k; omega
  clear hl hLb hb5 b6 bx L5 B5 B3 R3 T3 E3 K3
  go_upto_region 19 with fail
  simp only [← hw6]
  clear hw6
  go_wp2_with fail
  go_loopw [11, 10] (fun iv bv wr => ∃ j : Nat, j ≤ M ∧ iv = .int .i64 (j : Int) ∧ Own wr w.heap.size 5 bv (nuL (rcX r) j) (nuF (rcX r) j) ∧ Below w6.heap.size w6 wr) (fun iv _ _ => M - (intOf iv).toNat)
  case atStart => exact ⟨0, by omega, rfl, O6.out, Below.refl _ _⟩
  case round =>
    obtain ⟨j, hj, rfl, ho, hb⟩ := hrel
    obtain ⟨wo, rfl⟩ : ∃ wo : World, wo = wr := ⟨_, rfl⟩
    obtain ⟨Ab, cb, hv, hsl, -, -⟩ := ho.sl
    subst hv
    have HS := Lib.hid hsl
    have HO := Lib.hid ho
    have HW := Lib.hid hb
    have hbB := Lib.hid (onto B6.out B6.out.size hb)
    have RO := Lib.hid (carry hb R6.out)
    have TO := Lib.hid (carry hb T6.out)
    have EO := Lib.hid (E6.out.below hb)
    have KO := Lib.hid ((K6.out.below hb).more hb.size)
    have h9 := nuL_le (rcX r) j
    clear ho hb hsl
    by_cases hlt : j < M
    · have hd : decide ((j : Int) < (M : Int)) = true := decide_eq_true (by omega)
      have hd2 : decide (j < M) = true := decide_eq_true hlt
      have hd' : 0 ≤ (j : Int) ∧ (j : Int) < (M : Int) := by omega
      have d4 : IntKind.i64.wrap ((j : Int) + 1) = (j : Int) + 1 := by rw [IntKind.wrap_i64]; omega
      obtain ⟨x, hx⟩ : ∃ x : Nat, rcX r j = (x : Int) := ⟨(rcX r j).toNat, by have := (HX.out j hlt).1; omega⟩
      have hx9 : x < 9223372036854775808 := by have := (HX.out j hlt).2; omega
      have q1 : wo.cell? ⟨Lb, j, none⟩ = some (.int .i64 (x : Int)) := by rw [HW.out.cell (p := ⟨Lb, j, none⟩) hLb6, L6.out j hlt, hx]
      have H4 := Lib.hid (rput_any x _ cb Ab _ wo HS.out (by omega) hx9)
      have HXX := Lib.hid hx
      clear hx h9
      go_wp2_with fail
      refine H4.out.mono ?_
      rintro e w7 ⟨v7, rfl, ho7, hb7⟩
      have O7 := Lib.hid (show Own w7 w.heap.size 5 v7 (nuL (rcX r) (j + 1)) (nuF (rcX r) (j + 1)) by
        have h := (ho7.base (b' := w.heap.size) hbB.out.size)
        have e1 : encL x = encL (rcX r j).toNat := by rw [HXX.out, Int.toNat_natCast]
        have e2 : encF x = encF (rcX r j).toNat := by rw [HXX.out, Int.toNat_natCast]
        rw [e1, e2] at h
        exact h)
      have B7 := Lib.hid (onto HW.out HW.out.size hb7)
      clear ho7 hb7 H4 q1 HS HO
      go_wp2_with fail
      exact ⟨⟨j + 1, by omega, rfl, O7.out, B7.out⟩, by simp [intOf]; omega⟩
    · have hd : decide ((j : Int) < (M : Int)) = false := decide_eq_false (by omega)
      have hd2 : decide (j < M) = false := decide_eq_false hlt
      obtain rfl : j = M := by omega
      obtain ⟨c0, -, -, -, -, -, c6, c7, c8, c9⟩ := rc_cells RO.out
      obtain ⟨N, hN⟩ : ∃ N, N = nuL (rcX r) j := ⟨_, rfl⟩
      have hN9 : N ≤ 100 := by rw [hN]; omega
      rw [← hN] at HS HO ⊢
      have HN := Lib.hid hN
      clear hj hlt h9 hN
      by_cases h2 : r.k = 2
      · have p2 : (r.k == 2) = true := beq_iff_eq.2 h2
        have H2 := Lib.hid h2
        have HEB := HB.out h2
        have hbt : ∀ j, -9223372036854775808 ≤ th2 r.e.t r.e.k j ∧ th2 r.e.t r.e.k j < 9223372036854775808 := fun j => by unfold th2; split; exact HEB.t; exact HEB.k
        have H5 := Lib.hid (rentry_any r.e.t r.e.k r.e.x r.e.T r.e.n c c' A A' r.e.f wo EO.out.d EO.out.m hbt HEB.x HEB.n)
        clear h2 HEB hbt
        go_wp2_with fail
        refine H5.out.mono ?_
        rintro e w8 (⟨hz, rfl, hb8⟩ | ⟨hz, v8, rfl, ho8, hb8⟩)
        · have hE : pcE r = enE r.e.t r.e.k r.e.x r.e.T r.e.n := by
            have h1 : rcE r = enE r.e.t r.e.k r.e.x r.e.T r.e.n := by unfold rcE eneE; rw [if_pos H2.out, if_pos hz]
            unfold pcE
            rw [if_neg (fun h => h HOK.out), h1, if_pos hz]
          rw [← hE] at hz ⊢
          have HZ := Lib.hid hz
          have hzi : (((pcE r : Nat) : Int) != 0) = true := by rw [bne_iff_ne]; omega
          have B8 := Lib.hid (onto hbB.out hbB.out.size hb8)
          clear hz hb8 H5 hE
          go_wp2_with fail
          exact bodyPost_ret (v := .tuple #[.slice none 0 0, .int .i64 (pcE r : Nat)]) (by simp [results, Tryz.results27, go_sem]) rfl (.inl ⟨HZ.out, rfl, B8.out⟩)
        · obtain ⟨A8, c8', hv8, hs8, -, -⟩ := ho8.sl
          subst hv8
          have S8 := Lib.hid hs8
          have SB := Lib.hid ((HS.out.below hb8).more hb8.size)
          have B8 := Lib.hid (onto hbB.out hbB.out.size hb8)
          have T8 := Lib.hid (carry hb8 TO.out)
          have K8 := Lib.hid ((KO.out.below hb8).more hb8.size)
          have HZ := Lib.hid hz
          obtain ⟨EL, hEL⟩ : ∃ EL, EL = entL r.e.t r.e.k r.e.x r.e.T r.e.n := ⟨_, rfl⟩
          rw [← hEL] at S8 ⊢
          have HEL := Lib.hid hEL
          clear hz hb8 hs8 ho8 H5 hEL c0 c6 c7 c8 c9
          by_cases h4 : 4096 < EL
          · have hE : pcE r = 2 := by
              have h1 : rcE r = 2 := by unfold rcE eneE enL; rw [if_pos H2.out, if_neg (by rw [HZ.out]; exact fun h => h rfl), if_pos (by rw [← HEL.out]; exact h4)]
              unfold pcE
              rw [if_neg (fun h => h HOK.out), h1]; rfl
            have HE := Lib.hid hE
            have H6 := Lib.hid (rputt_long N cb EL c8' Ab A8 w8 h4)
            clear hE h4
            go_wp2_with fail
            refine H6.out.mono ?_
            rintro e w9 ⟨rfl, rfl⟩
            go_wp2_with fail
            exact bodyPost_ret (v := .tuple #[.slice none 0 0, .int .i64 2]) (by simp [results, Tryz.results27, go_sem]) rfl (.inl ⟨by rw [HE.out]; omega, by rw [HE.out]; rfl, B8.out⟩)
          · have hE : pcE r = frE (rcL r) := by
              have h1 : rcE r = 0 := by unfold rcE eneE enL; rw [if_pos H2.out, if_neg (by rw [HZ.out]; exact fun h => h rfl), if_neg (by rw [← HEL.out]; exact h4)]
              unfold pcE
              rw [if_neg (fun h => h HOK.out), if_neg (fun h => h h1)]
            have HE := Lib.hid hE
            have H6 := Lib.hid (rputt_any N cb EL c8' Ab A8 _ _ w8 SB.out S8.out (by omega) (by omega))
            clear hE h4
            go_wp2_with fail
            refine H6.out.mono ?_
            rintro e w9 ⟨v9, rfl, ho9, hb9⟩
            have hL : N + txL EL = rcL r := by unfold rcL; rw [if_pos H2.out, HN.out, HEL.out, HM.out]; rfl
            have hF : catF N (nuF (rcX r) j) (txF EL (entF r.e.t r.e.k r.e.x r.e.T r.e.n r.e.f)) = rcF r := by unfold rcF; rw [if_pos H2.out, HN.out, HEL.out, HM.out]; rfl
            rw [hL, hF] at ho9
            obtain ⟨A9, c9, hv9, hs9, -, -⟩ := ho9.sl
            subst hv9
            have B9 := Lib.hid (onto B8.out B8.out.size hb9)
            have t9 := carry hb9 T8.out
            have H7 := Lib.hid (rframes_any (rcL r) c9 cK A9 AK (rcF r) w9 hs9 ((K8.out.below hb9).more hb9.size))
            rw [← HE.out] at H7
            clear ho9 hb9 H6 hs9 hL hF
            go_wp2_with fail
            refine H7.out.mono ?_
            rintro e w10 (⟨hz, rfl, hb10⟩ | ⟨hz, v10, rfl, ho10, hb10⟩)
            · have B10 := Lib.hid (onto B9.out B9.out.size hb10)
              have HZ := Lib.hid hz
              clear hz hb10 H7 t9
              go_wp2_with fail
              exact bodyPost_ret (v := .tuple #[.slice none 0 0, .int .i64 (pcE r : Nat)]) (by simp [results, Tryz.results27, go_sem]) rfl (.inl ⟨HZ.out, rfl, B10.out⟩)
            · have B10 := Lib.hid (onto B9.out B9.out.size hb10)
              have HZ := Lib.hid hz
              have O10 := Lib.hid (ho10.base B9.out.size)
              clear hz hb10 H7 ho10 t9
              go_wp2_with fail
              exact bodyPost_ret (v := .tuple #[v10, .int .i64 0]) (by simp [results, Tryz.results27, go_sem]) rfl (.inr ⟨HZ.out, v10, rfl, O10.out, B10.out⟩)
      · have p2 : (r.k == 2) = false := beq_eq_false_iff_ne.2 h2
        have hE : pcE r = frE (rcL r) := by
          have h1 : rcE r = 0 := by unfold rcE; rw [if_neg h2]
          unfold pcE
          rw [if_neg (fun h => h HOK.out), if_neg (fun h => h h1)]
        have hL : N = rcL r := by unfold rcL; rw [if_neg h2, HN.out, HM.out]
        have hF : nuF (rcX r) j = rcF r := by unfold rcF; rw [if_neg h2, HM.out]
        have t9 := TO.out
        have hs9 := HS.out
        rw [hL, hF] at hs9
        rw [hL]
        have H7 := Lib.hid (rframes_any (rcL r) cb cK Ab AK (rcF r) wo hs9 KO.out)
        rw [← hE] at H7
        clear hs9 hL hF hE h2 c6 c7 c8 c9
        go_wp2_with fail
        refine H7.out.mono ?_
        rintro e w10 (⟨hz, rfl, hb10⟩ | ⟨hz, v10, rfl, ho10, hb10⟩)
        · have B10 := Lib.hid (onto hbB.out hbB.out.size hb10)
          have HZ := Lib.hid hz
          clear hz hb10 H7 t9
          go_wp2_with fail
          exact bodyPost_ret (v := .tuple #[.slice none 0 0, .int .i64 (pcE r : Nat)]) (by simp [results, Tryz.results27, go_sem]) rfl (.inl ⟨HZ.out, rfl, B10.out⟩)
        · have B10 := Lib.hid (onto hbB.out hbB.out.size hb10)
          have HZ := Lib.hid hz
          have O10 := Lib.hid (ho10.base hbB.out.size)
          clear hz hb10 H7 ho10 t9
          go_wp2_with fail
          exact bodyPost_ret (v := .tuple #[v10, .int .i64 0]) (by simp [results, Tryz.results27, go_sem]) rfl (.inr ⟨HZ.out, v10, rfl, O10.out, B10.out⟩)
end Go.Proofs.YtdfcldomjjcidaaGreatDoor.Oct
