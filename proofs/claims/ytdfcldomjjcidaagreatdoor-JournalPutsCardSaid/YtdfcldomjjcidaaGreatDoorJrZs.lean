/- Contracts: the reference's SameEntry, SameRecord, SameEntries; law 11's same: of rows that are the same. -/
import Derived.Test.YtdfcldomjjcidaaGreatDoorJrT
namespace Go.Proofs.YtdfcldomjjcidaaGreatDoor.Oct
open Go.ChangeShapes Go.WideShapes Go.ChangeAt Go.RowKit
set_option linter.unusedVariables false

set_option maxRecDepth 20000 in
set_option maxHeartbeats 8000000 in
/-- two entries that are the same -/
theorem sameentJ_any (t k : Int) (T n c1 c2 c3 c4 : Nat) (A1 A2 A3 A4 : Option Addr) (d d' : Bf) (x x' : Nat → Int) (w : World) (hd : Sl w w.heap.size A1 T c1 d) (hl : SlG w w.heap.size A2 n c2 (iV x)) (hd' : Sl w w.heap.size A3 T c3 d') (hl' : SlG w w.heap.size A4 n c4 (iV x'))
    (he : ∀ i, i < T → d i = d' i) (hx : ∀ i, i < n → x i = x' i) (hn : n ≤ 140737488355328) :
    Calls Tryz.prog 50 #[entV t k (.slice A1 T c1) (.slice A2 n c2), entV t k (.slice A3 T c3) (.slice A4 n c4)] w fun e w' => e = .returned (.bool true) ∧ Below w.heap.size w w' := by
  obtain ⟨w1, hw1⟩ : ∃ w1, w1 = (w.alloc (.cells #[.int .i64 t, .int .i64 k, .slice A1 T c1, .slice A2 n c2] 27)).alloc (.cells #[.int .i64 t, .int .i64 k, .slice A3 T c3, .slice A4 n c4] 27) := ⟨_, rfl⟩
  have bw : Below w.heap.size w w1 := by rw [hw1]; exact ((Below.refl _ _).alloc (by simp) _).alloc (by simp) _
  have B1 := Lib.hid bw
  have R1 := Lib.hid (show row w1 w.heap.size = some #[.int .i64 t, .int .i64 k, .slice A1 T c1, .slice A2 n c2] by rw [hw1]; exact row_alloc (row_alloc_at _ _ _ _ rfl) _)
  have R2 := Lib.hid (show row w1 (w.heap.size + 1) = some #[.int .i64 t, .int .i64 k, .slice A3 T c3, .slice A4 n c4] by rw [hw1]; exact row_alloc_at _ _ _ _ (by simp))
  have cv1 := conv_sl (hd.below bw)
  have cv3 := conv_sl (hd'.below bw)
  obtain ⟨S1, hS1⟩ : ∃ x, x = strOf T d := ⟨_, rfl⟩
  rw [show strOf T d' = strOf T d from str_congr fun i hi => (he i hi).symm, ← hS1] at cv3
  rw [← hS1] at cv1
  have H1 := Lib.hid (hl.below bw)
  have H2 := Lib.hid (show SlG w1 w.heap.size A4 n c4 (iV x) from (hl'.below bw).congr fun i hi => by unfold iV; rw [hx i hi])
  clear hS1 bw hd hd' hl hl' he hx
  go_enter Tryz.func50, Tryz.ntmps50
  go_upto_region 1 with fail
  rw [← hw1]
  clear hw1
  obtain ⟨a0, a1, a2, a3⟩ := cells4 R1.out
  obtain ⟨b0, b1, b2, b3⟩ := cells4 R2.out
  have hnn : (n != n) = false := by simp
  go_wp2_with fail
  clear a0 a1 a2 a3 b0 b1 b2 b3 cv1 cv3 hnn
  have hB1 := B1.out.size
  go_loopw [5] (fun iv wr => ∃ j : Nat, j ≤ n ∧ iv = .int .i64 (j : Int) ∧ Below w1.heap.size w1 wr) (fun iv _ => n - (intOf iv).toNat)
  case atStart => exact ⟨0, by omega, rfl, Below.refl _ _⟩
  case round =>
    obtain ⟨j, hj, rfl, hb⟩ := hrel
    obtain ⟨wo, rfl⟩ : ∃ wo : World, wo = wr := ⟨_, rfl⟩
    have HB := Lib.hid hb
    have S1' := Lib.hid (carry hb R1.out)
    have S2' := Lib.hid (carry hb R2.out)
    clear hb
    obtain ⟨a0, a1, a2, a3⟩ := cells4 S1'.out
    by_cases hlt : j < n
    · have hd : decide ((j : Int) < (n : Int)) = true := by simp; omega
      obtain ⟨g1, o1, hA1, hg1, hc1⟩ := (H1.out.below (HB.out.mono hB1)).at_ (by omega)
      obtain ⟨g2, o2, hA2, hg2, hc2⟩ := (H2.out.below (HB.out.mono hB1)).at_ (by omega)
      have q1 := hc1 j hlt
      have q2 := hc2 j hlt
      unfold iV at q1 q2
      subst hA1
      subst hA2
      obtain ⟨y, hy⟩ : ∃ y, y = x j := ⟨_, rfl⟩
      rw [← hy] at q1 q2
      clear hc1 hc2 hy
      have hz := HB.out.size
      have l1 := World.block_lt_of_cell? wo _ q1
      have l2 := World.block_lt_of_cell? wo _ q2
      go_wp2_with fail
      refine flow_seen [] [0, 1, 2, 3, 4, 5, 6, 7, 8, 9, 10] (by kernel_rfl) (by kernel_rfl) (fun _ _ _ _ _ h => h) fun X => ?_
      have B3 := Lib.hid (onto HB.out hz X.below)
      have p1 : X.val.cell? ⟨g1, o1 + j, none⟩ = some (.int .i64 y) := by rw [X.below.cell (p := ⟨g1, o1 + j, none⟩) l1]; exact q1
      have p2 : X.val.cell? ⟨g2, o2 + j, none⟩ = some (.int .i64 y) := by rw [X.below.cell (p := ⟨g2, o2 + j, none⟩) l2]; exact q2
      have t1 := carry X.below S1'.out
      have t2 := carry X.below S2'.out
      obtain ⟨w3, hw3⟩ : ∃ w3, w3 = X.val := ⟨_, rfl⟩
      rw [← hw3] at B3 p1 p2 t1 t2 ⊢
      clear hw3 X q1 q2 HB a0 a1 a2 a3
      have m1 := World.block_lt_of_cell? w3 _ p1
      have m2 := World.block_lt_of_cell? w3 _ p2
      have r1 : ∀ x' : After w3, x'.val.cell? ⟨g1, o1 + j, none⟩ = some (.int .i64 y) := fun x' => by rw [x'.below.cell (p := ⟨g1, o1 + j, none⟩) m1]; exact p1
      have r2 : ∀ x' : After w3, x'.val.cell? ⟨g2, o2 + j, none⟩ = some (.int .i64 y) := fun x' => by rw [x'.below.cell (p := ⟨g2, o2 + j, none⟩) m2]; exact p2
      have r3 : ∀ x' : After w3, x'.val.cell? ⟨w.heap.size, 3, none⟩ = some (.slice (some ⟨g1, o1, none⟩) n c2) := fun x' => (cells4 (After.row t1 x')).2.2.2
      have r4 : ∀ x' : After w3, x'.val.cell? ⟨w.heap.size + 1, 3, none⟩ = some (.slice (some ⟨g2, o2, none⟩) n c4) := fun x' => (cells4 (After.row t2 x')).2.2.2
      have hyy : (y != y) = false := by simp
      simp only [wpFs, pk, List.getElem?_cons_zero, List.getElem?_cons_succ]
      repeat (go_big_quiet_step (fail))
      refine wpQuiet_nil ?_
      go_wp2_with fail
      go_roundw
      case rel => exact ⟨j + 1, by omega, rfl, B3.out⟩
      case measure => simp [intOf]; omega
    · have hd : decide ((j : Int) < (n : Int)) = false := by simp; omega
      go_wp2_with fail
      go_ret
      exact ⟨rfl, onto B1.out hB1 HB.out⟩
theorem sameE_any (e e' : En) (A A' D D' : Option Addr) (c c' d d' : Nat) (w : World) (h : EnR w e A c A' c') (h' : EnR w e' D d D' d') (hq : enEq e e') (hn : e.n ≤ 140737488355328) :
    Calls Tryz.prog 50 #[entV e.t e.k (.slice A e.T c) (.slice A' e.n c'), entV e'.t e'.k (.slice D e'.T d) (.slice D' e'.n d')] w fun e w' => e = .returned (.bool true) ∧ Below w.heap.size w w' := by
  have h1 := h'.d
  have h2 := h'.m
  rw [← hq.T] at h1 ⊢
  rw [← hq.n] at h2 ⊢
  rw [← hq.t, ← hq.k]
  exact sameentJ_any e.t e.k e.T e.n c c' d d' A A' D D' e.f e'.f e.x e'.x w h.d h.m h1 h2 hq.f hq.x hn
set_option maxRecDepth 20000 in
set_option maxHeartbeats 4000000 in
theorem sameR_any (r r' : Rc) (A A' D D' : Option Addr) (c c' d d' : Nat) (w : World) (h : EnR w r.e A c A' c') (h' : EnR w r'.e D d D' d') (hq : rcEq r r') (hn : r.e.n ≤ 140737488355328) :
    Calls Tryz.prog 30 #[.agg (rcC r (.slice A r.e.T c) (.slice A' r.e.n c')), .agg (rcC r' (.slice D r'.e.T d) (.slice D' r'.e.n d'))] w fun e w' => e = .returned (.bool true) ∧ Below w.heap.size w w' := by
  obtain ⟨w1, hw1⟩ : ∃ w1, w1 = (w.alloc (.cells (rcC r (.slice A r.e.T c) (.slice A' r.e.n c')) 29)).alloc (.cells (rcC r' (.slice D r'.e.T d) (.slice D' r'.e.n d')) 29) := ⟨_, rfl⟩
  have bw : Below w.heap.size w w1 := by rw [hw1]; exact ((Below.refl _ _).alloc (Nat.le_refl _) _).alloc (by simp) _
  have r0 : row w1 w.heap.size = some (rcC r (.slice A r.e.T c) (.slice A' r.e.n c')) := by rw [hw1]; exact row_alloc (row_alloc_at _ _ _ _ rfl) _
  have r1 : row w1 (w.heap.size + 1) = some (rcC r' (.slice D r'.e.T d) (.slice D' r'.e.n d')) := by rw [hw1]; exact row_alloc_at _ _ _ _ (by simp)
  have HC := Lib.hid (sameE_any r.e r'.e A A' D D' c c' d d' w1 (h.below bw) (h'.below bw) hq.e hn)
  have B1 := Lib.hid bw
  obtain ⟨a0, a1, a2, a3, a4, a5, a6, a7, a8, a9⟩ := rc_cells r0
  obtain ⟨b0, b1, b2, b3, b4, b5, b6, b7, b8, b9⟩ := rc_cells r1
  rw [← hq.k] at b0
  rw [← hq.i] at b1
  rw [← hq.t] at b2
  rw [← hq.n] at b3
  rw [← hq.a] at b4
  rw [← hq.b] at b5
  clear bw r0 r1 h h' hq
  go_enter Tryz.func30, Tryz.ntmps30
  go_upto_region 1 with fail
  simp only [← hw1]
  clear hw1
  go_wp2_with fail
  refine HC.out.mono ?_
  rintro e w2 ⟨rfl, hb⟩
  have B2 := Lib.hid (onto B1.out B1.out.size hb)
  clear HC hb
  go_wp2_with fail
  exact bodyPost_ret (v := .bool true) (by simp [results, Tryz.results30, go_sem]) rfl ⟨rfl, B2.out⟩
set_option maxRecDepth 20000 in
set_option maxHeartbeats 4000000 in
theorem same11_any (n c c' : Nat) (A A' : Option Addr) (R R' : Nat → Rc) (w : World) (h : RcS w A n c R) (h' : RcS w A' n c' R') (hq : ∀ i, i < n → rcEq (R i) (R' i)) (hn : ∀ i, i < n → (R i).e.n ≤ 140737488355328) (hN : n ≤ 1000000000) :
    Calls Tryz.prog 13 #[.slice A n c, .slice A' n c'] w fun e w' => e = .returned (.bool true) ∧ Below w.heap.size w w' := by
  have H := Lib.hid h
  have H' := Lib.hid h'
  have HQ := Lib.hid hq
  have HN := Lib.hid hn
  clear h h' hq hn
  have hnn : (n != n) = false := by simp
  go_enter Tryz.func13, Tryz.ntmps13
  go_wp2_with fail
  go_loopw [5] (fun iv wr => ∃ j : Nat, j ≤ n ∧ iv = .int .i64 (j : Int) ∧ Below w.heap.size w wr) (fun iv _ => n - (intOf iv).toNat)
  case atStart => exact ⟨0, by omega, rfl, Below.refl _ _⟩
  case round =>
    obtain ⟨j, hj, rfl, hb⟩ := hrel
    obtain ⟨wo, rfl⟩ : ∃ wo : World, wo = wr := ⟨_, rfl⟩
    have HB := Lib.hid hb
    clear hb
    by_cases hlt : j < n
    · have d1 : decide ((j : Int) < (n : Int)) = true := decide_eq_true (by omega)
      have d2 : decide (j < n) = true := decide_eq_true hlt
      have d3 : 0 ≤ (j : Int) ∧ (j : Int) < (n : Int) := by omega
      have d4 : IntKind.i64.wrap ((j : Int) + 1) = (j : Int) + 1 := by rw [IntKind.wrap_i64]; omega
      obtain ⟨g, o, D, k, D', k', hA, hg, hc, he⟩ := (H.out.below HB.out).at_ j hlt
      obtain ⟨g2, o2, E, m, E', m', hA2, hg2, hc2, he2⟩ := (H'.out.below HB.out).at_ j hlt
      subst hA
      subst hA2
      go_wp2_with fail
      refine flow_seen [([0, 1, 2, 3, 4, 5, 6, 7], 8, true)] [9] (by kernel_rfl) (by kernel_rfl) (fun _ _ _ _ _ h => h) fun X => ?_
      have q1 : ∀ x : After X.val, ldR Tryz.prog 29 10 x.val g (o + j * 10) (row x.val g) = .ok (.agg (rcC (R j) (.slice D (R j).e.T k) (.slice D' (R j).e.n k'))) x.val := fun x => rc_lw fun z hz => by
        rw [(onto X.below X.below.size x.below).cell (p := ⟨g, o + j * 10 + z, none⟩) hg]; exact hc z hz
      have q2 : ∀ x : After X.val, ldR Tryz.prog 29 10 x.val g2 (o2 + j * 10) (row x.val g2) = .ok (.agg (rcC (R' j) (.slice E (R' j).e.T m) (.slice E' (R' j).e.n m'))) x.val := fun x => rc_lw fun z hz => by
        rw [(onto X.below X.below.size x.below).cell (p := ⟨g2, o2 + j * 10 + z, none⟩) hg2]; exact hc2 z hz
      have HC := Lib.hid (sameR_any (R j) (R' j) D D' E E' k k' m m' X.val (he.below X.below) (he2.below X.below) (HQ.out j hlt) (HN.out j hlt))
      have BX := Lib.hid (onto HB.out HB.out.size X.below)
      simp only [wpFs, pk, List.getElem?_cons_zero, List.getElem?_cons_succ]
      repeat (go_big_quiet_step (fail))
      refine wpQuiet_nil ?_
      clear q1 q2 hc hc2 he he2
      go_wp2_with fail
      refine HC.out.mono ?_
      rintro e w3 ⟨rfl, hb3⟩
      have B3 := Lib.hid (onto BX.out BX.out.size hb3)
      clear HC BX hb3 HB
      go_wp2_with fail
      first | refine ⟨.inl trivial, ?_⟩ | skip
      show wpQuiet _ _ _ _ _ _
      repeat (go_big_quiet_step (fail))
      refine wpQuiet_nil ?_
      go_wp2_with fail
      exact ⟨⟨j + 1, by omega, rfl, B3.out⟩, by simp [intOf]; omega⟩
    · obtain rfl : j = n := by omega
      go_wp2_with fail
      exact bodyPost_ret (v := .bool true) (by simp [results, Tryz.results13, go_sem]) rfl ⟨rfl, HB.out⟩
end Go.Proofs.YtdfcldomjjcidaaGreatDoor.Oct
