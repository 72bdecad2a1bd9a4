/- Contracts: SameCommand, SameReply, SameEntry. -/
import Derived.Test.YtfpkfbojckgcdaaWia
namespace Go.Proofs.Ytfpkfbojckgcdaa.Oct
open Go.ChangeShapes Go.WideShapes Go.ChangeAt Go.RowKit
set_option linter.unusedVariables false

/-- two texts are the same, as strings -/
def teqB (T T' : Nat) (d d' : Bf) : Bool := (strOf T d).toList == (strOf T' d').toList
theorem teq_iff {T T' : Nat} {d d' : Bf} : teqB T T' d d' = true ↔ T = T' ∧ ∀ i, i < T → d i = d' i := by
  by_cases h : T = T'
  · subst h
    unfold teqB
    rw [beq_iff_eq]
    constructor
    · intro e
      rw [ByteArray.toList_eq, ByteArray.toList_eq] at e
      refine ⟨rfl, str_inj ?_⟩
      generalize strOf T d = x at e ⊢
      generalize strOf T d' = y at e ⊢
      cases x; cases y
      simp_all
    · intro e
      rw [str_congr e.2]
  · constructor
    · intro e
      unfold teqB at e
      rw [str_nelN h] at e
      cases e
    · intro e
      exact absurd e.1 h
def comS (k s q i n k' s' q' i' n' : Int) (T U T' U' : Nat) (d b d' b' : Bf) : Bool := (k == k') && ((s == s') && ((q == q') && ((i == i') && ((n == n') && (teqB T T' d d' && teqB U U' b b')))))
set_option maxRecDepth 20000 in
set_option maxHeartbeats 8000000 in
theorem samecom_any (k s q i n k' s' q' i' n' : Int) (T U T' U' c1 c2 c3 c4 : Nat) (A1 A2 A3 A4 : Option Addr) (d b d' b' : Bf) (w : World) (hd : Sl w w.heap.size A1 T c1 d) (hb : Sl w w.heap.size A2 U c2 b) (hd' : Sl w w.heap.size A3 T' c3 d') (hb' : Sl w w.heap.size A4 U' c4 b') :
    Calls Try.prog 15 #[comV k s q i n (.slice A1 T c1) (.slice A2 U c2), comV k' s' q' i' n' (.slice A3 T' c3) (.slice A4 U' c4)] w fun e w' => e = .returned (.bool (comS k s q i n k' s' q' i' n' T U T' U' d b d' b')) ∧ Below w.heap.size w w' := by
  obtain ⟨w1, hw1⟩ : ∃ w1, w1 = (w.alloc (.cells #[.int .i64 k, .int .i64 s, .int .i64 q, .int .i64 i, .int .i64 n, .slice A1 T c1, .slice A2 U c2] 24)).alloc (.cells #[.int .i64 k', .int .i64 s', .int .i64 q', .int .i64 i', .int .i64 n', .slice A3 T' c3, .slice A4 U' c4] 24) := ⟨_, rfl⟩
  have bw : Below w.heap.size w w1 := by rw [hw1]; exact ((Below.refl _ _).alloc (by simp) _).alloc (by simp) _
  have B1 := Lib.hid bw
  have R1 := Lib.hid (show row w1 w.heap.size = some #[.int .i64 k, .int .i64 s, .int .i64 q, .int .i64 i, .int .i64 n, .slice A1 T c1, .slice A2 U c2] by rw [hw1]; exact row_alloc (row_alloc_at _ _ _ _ rfl) _)
  have R2 := Lib.hid (show row w1 (w.heap.size + 1) = some #[.int .i64 k', .int .i64 s', .int .i64 q', .int .i64 i', .int .i64 n', .slice A3 T' c3, .slice A4 U' c4] by rw [hw1]; exact row_alloc_at _ _ _ _ (by simp))
  have cv1 := conv_sl (hd.below bw)
  have cv2 := conv_sl (hb.below bw)
  have cv3 := conv_sl (hd'.below bw)
  have cv4 := conv_sl (hb'.below bw)
  obtain ⟨E, hE⟩ : ∃ E, E = comS k s q i n k' s' q' i' n' T U T' U' d b d' b' := ⟨_, rfl⟩
  rw [← hE]
  unfold comS at hE
  obtain ⟨e0, he0⟩ : ∃ x, x = (k == k') := ⟨_, rfl⟩
  obtain ⟨e1, he1⟩ : ∃ x, x = (s == s') := ⟨_, rfl⟩
  obtain ⟨e2, he2⟩ : ∃ x, x = (q == q') := ⟨_, rfl⟩
  obtain ⟨e3, he3⟩ : ∃ x, x = (i == i') := ⟨_, rfl⟩
  obtain ⟨e4, he4⟩ : ∃ x, x = (n == n') := ⟨_, rfl⟩
  obtain ⟨e5, he5⟩ : ∃ x, x = teqB T T' d d' := ⟨_, rfl⟩
  obtain ⟨e6, he6⟩ : ∃ x, x = teqB U U' b b' := ⟨_, rfl⟩
  rw [← he0, ← he1, ← he2, ← he3, ← he4, ← he5, ← he6] at hE
  have HE := Lib.hid hE
  unfold teqB at he5 he6
  obtain ⟨S1, hS1⟩ : ∃ x, x = strOf T d := ⟨_, rfl⟩
  obtain ⟨S2, hS2⟩ : ∃ x, x = strOf U b := ⟨_, rfl⟩
  obtain ⟨S3, hS3⟩ : ∃ x, x = strOf T' d' := ⟨_, rfl⟩
  obtain ⟨S4, hS4⟩ : ∃ x, x = strOf U' b' := ⟨_, rfl⟩
  rw [← hS1] at cv1 he5
  rw [← hS2] at cv2 he6
  rw [← hS3] at cv3 he5
  rw [← hS4] at cv4 he6
  have g0 := he0.symm
  have g1 := he1.symm
  have g2 := he2.symm
  have g3 := he3.symm
  have g4 := he4.symm
  have g5 := he5.symm
  have g6 := he6.symm
  clear hE he0 he1 he2 he3 he4 he5 he6 hS1 hS2 hS3 hS4 bw hd hb hd' hb'
  go_enter Try.func15, Try.ntmps15
  go_upto_region 1 with fail
  rw [← hw1]
  clear hw1
  obtain ⟨a0, a1, a2, a3, a4, a5, a6⟩ := cells7 R1.out
  obtain ⟨b0, b1, b2, b3, b4, b5, b6⟩ := cells7 R2.out
  cases e0 with
  | false =>
    have F := Lib.hid (show E = false from HE.out)
    go_wp2_with fail
    go_ret
    exact ⟨by rw [F.out]; rfl, B1.out⟩
  | true =>
    cases e1 with
    | false =>
      have F := Lib.hid (show E = false from HE.out)
      go_wp2_with fail
      go_ret
      exact ⟨by rw [F.out]; rfl, B1.out⟩
    | true =>
      cases e2 with
      | false =>
        have F := Lib.hid (show E = false from HE.out)
        go_wp2_with fail
        go_ret
        exact ⟨by rw [F.out]; rfl, B1.out⟩
      | true =>
        cases e3 with
        | false =>
          have F := Lib.hid (show E = false from HE.out)
          go_wp2_with fail
          go_ret
          exact ⟨by rw [F.out]; rfl, B1.out⟩
        | true =>
          cases e4 with
          | false =>
            have F := Lib.hid (show E = false from HE.out)
            go_wp2_with fail
            go_ret
            exact ⟨by rw [F.out]; rfl, B1.out⟩
          | true =>
            cases e5 with
            | false =>
              have F := Lib.hid (show E = false from HE.out)
              go_wp2_with fail
              go_ret
              exact ⟨by rw [F.out]; rfl, B1.out⟩
            | true =>
              have F := Lib.hid (show E = e6 from HE.out)
              go_wp2_with fail
              go_ret
              exact ⟨by rw [F.out]; rfl, B1.out⟩
def repS (x n m x' n' m' : Int) (T T' : Nat) (d d' : Bf) : Bool := (x == x') && ((n == n') && ((m == m') && teqB T T' d d'))
set_option maxRecDepth 20000 in
set_option maxHeartbeats 8000000 in
theorem samerep_any (x n m x' n' m' : Int) (T T' c1 c3 : Nat) (A1 A3 : Option Addr) (d d' : Bf) (w : World) (hd : Sl w w.heap.size A1 T c1 d) (hd' : Sl w w.heap.size A3 T' c3 d') :
    Calls Try.prog 22 #[repV x n m (.slice A1 T c1), repV x' n' m' (.slice A3 T' c3)] w fun e w' => e = .returned (.bool (repS x n m x' n' m' T T' d d')) ∧ Below w.heap.size w w' := by
  obtain ⟨w1, hw1⟩ : ∃ w1, w1 = (w.alloc (.cells #[.int .i64 x, .int .i64 n, .int .i64 m, .slice A1 T c1] 35)).alloc (.cells #[.int .i64 x', .int .i64 n', .int .i64 m', .slice A3 T' c3] 35) := ⟨_, rfl⟩
  have bw : Below w.heap.size w w1 := by rw [hw1]; exact ((Below.refl _ _).alloc (by simp) _).alloc (by simp) _
  have B1 := Lib.hid bw
  have R1 := Lib.hid (show row w1 w.heap.size = some #[.int .i64 x, .int .i64 n, .int .i64 m, .slice A1 T c1] by rw [hw1]; exact row_alloc (row_alloc_at _ _ _ _ rfl) _)
  have R2 := Lib.hid (show row w1 (w.heap.size + 1) = some #[.int .i64 x', .int .i64 n', .int .i64 m', .slice A3 T' c3] by rw [hw1]; exact row_alloc_at _ _ _ _ (by simp))
  have cv1 := conv_sl (hd.below bw)
  have cv3 := conv_sl (hd'.below bw)
  obtain ⟨E, hE⟩ : ∃ E, E = repS x n m x' n' m' T T' d d' := ⟨_, rfl⟩
  rw [← hE]
  unfold repS at hE
  obtain ⟨e0, he0⟩ : ∃ y, y = (x == x') := ⟨_, rfl⟩
  obtain ⟨e1, he1⟩ : ∃ x, x = (n == n') := ⟨_, rfl⟩
  obtain ⟨e2, he2⟩ : ∃ x, x = (m == m') := ⟨_, rfl⟩
  obtain ⟨e3, he3⟩ : ∃ x, x = teqB T T' d d' := ⟨_, rfl⟩
  rw [← he0, ← he1, ← he2, ← he3] at hE
  have HE := Lib.hid hE
  unfold teqB at he3
  obtain ⟨S1, hS1⟩ : ∃ x, x = strOf T d := ⟨_, rfl⟩
  obtain ⟨S3, hS3⟩ : ∃ x, x = strOf T' d' := ⟨_, rfl⟩
  rw [← hS1] at cv1 he3
  rw [← hS3] at cv3 he3
  have g0 := he0.symm
  have g1 := he1.symm
  have g2 := he2.symm
  have g3 := he3.symm
  clear hE he0 he1 he2 he3 hS1 hS3 bw hd hd'
  go_enter Try.func22, Try.ntmps22
  go_upto_region 1 with fail
  rw [← hw1]
  clear hw1
  obtain ⟨a0, a1, a2, a3⟩ := cells4 R1.out
  obtain ⟨b0, b1, b2, b3⟩ := cells4 R2.out
  cases e0 with
  | false =>
    have F := Lib.hid (show E = false from HE.out)
    go_wp2_with fail
    go_ret
    exact ⟨by rw [F.out]; rfl, B1.out⟩
  | true =>
    cases e1 with
    | false =>
      have F := Lib.hid (show E = false from HE.out)
      go_wp2_with fail
      go_ret
      exact ⟨by rw [F.out]; rfl, B1.out⟩
    | true =>
      cases e2 with
      | false =>
        have F := Lib.hid (show E = false from HE.out)
        go_wp2_with fail
        go_ret
        exact ⟨by rw [F.out]; rfl, B1.out⟩
      | true =>
        have F := Lib.hid (show E = e3 from HE.out)
        go_wp2_with fail
        go_ret
        exact ⟨by rw [F.out]; rfl, B1.out⟩
set_option maxRecDepth 20000 in
set_option maxHeartbeats 8000000 in
/-- two entries that are the same -/
theorem sameent_any (t k : Int) (T n c1 c2 c3 c4 : Nat) (A1 A2 A3 A4 : Option Addr) (d d' : Bf) (x x' : Nat → Int) (w : World) (hd : Sl w w.heap.size A1 T c1 d) (hl : SlG w w.heap.size A2 n c2 (iV x)) (hd' : Sl w w.heap.size A3 T c3 d') (hl' : SlG w w.heap.size A4 n c4 (iV x'))
    (he : ∀ i, i < T → d i = d' i) (hx : ∀ i, i < n → x i = x' i) (hn : n ≤ 100000) :
    Calls Try.prog 27 #[entV t k (.slice A1 T c1) (.slice A2 n c2), entV t k (.slice A3 T c3) (.slice A4 n c4)] w fun e w' => e = .returned (.bool true) ∧ Below w.heap.size w w' := by
  obtain ⟨w1, hw1⟩ : ∃ w1, w1 = (w.alloc (.cells #[.int .i64 t, .int .i64 k, .slice A1 T c1, .slice A2 n c2] 43)).alloc (.cells #[.int .i64 t, .int .i64 k, .slice A3 T c3, .slice A4 n c4] 43) := ⟨_, rfl⟩
  have bw : Below w.heap.size w w1 := by rw [hw1]; exact ((Below.refl _ _).alloc (by simp) _).alloc (by simp) _
  have B1 := Lib.hid bw
  have R1 := Lib.hid (show row w1 w.heap.size = some #[.int .i64 t, .int .i64 k, .slice A1 T c1, .slice A2 n c2] by rw [hw1]; exact row_alloc (row_alloc_at _ _ _ _ rfl) _)
  have R2 := Lib.hid (show row w1 (w.heap.size + 1) = some #[.int .i64 t, .int .i64 k, .slice A3 T c3, .slice A4 n c4] by rw [hw1]; exact row_alloc_at _ _ _ _ (by simp))
  have cv1 := conv_sl (hd.below bw)
  have cv3 := conv_sl (hd'.below bw)
  obtain ⟨S1, hS1⟩ : ∃ x, x = strOf T d := ⟨_, rfl⟩
  rw [show strOf T d' = strOf T d from str_congr fun i hi => (he i hi).symm, ← hS1] at cv3
  rw [← hS1] at cv1
  have H1 := Lib.hid (hl.below bw)
  have H2 := Lib.hid (show SlG w1 w.heap.size A4 n c4 (iV x) from (hl'.below bw).congr fun i hi => by unfold iV; rw [hx i hi])
  clear hS1 bw hd hd' hl hl' he hx
  go_enter Try.func27, Try.ntmps27
  go_upto_region 1 with fail
  rw [← hw1]
  clear hw1
  obtain ⟨a0, a1, a2, a3⟩ := cells4 R1.out
  obtain ⟨b0, b1, b2, b3⟩ := cells4 R2.out
  have hnn : (n != n) = false := by simp
  go_wp2_with fail
  clear a0 a1 a2 a3 b0 b1 b2 b3 cv1 cv3 hnn
  have hB1 := B1.out.size
  go_loopw [5] (fun iv wr => ∃ j : Nat, j ≤ n ∧ iv = .int .i64 (j : Int) ∧ Below w1.heap.size w1 wr) (fun iv _ => n - (intOf iv).toNat)
  case atStart => exact ⟨0, by omega, rfl, Below.refl _ _⟩
  case round =>
    obtain ⟨j, hj, rfl, hb⟩ := hrel
    obtain ⟨wo, rfl⟩ : ∃ wo : World, wo = wr := ⟨_, rfl⟩
    have HB := Lib.hid hb
    have S1' := Lib.hid (carry hb R1.out)
    have S2' := Lib.hid (carry hb R2.out)
    clear hb
    obtain ⟨a0, a1, a2, a3⟩ := cells4 S1'.out
    by_cases hlt : j < n
    · have hd : decide ((j : Int) < (n : Int)) = true := by simp; omega
      obtain ⟨g1, o1, hA1, hg1, hc1⟩ := (H1.out.below (HB.out.mono hB1)).at_ (by omega)
      obtain ⟨g2, o2, hA2, hg2, hc2⟩ := (H2.out.below (HB.out.mono hB1)).at_ (by omega)
      have q1 := hc1 j hlt
      have q2 := hc2 j hlt
      unfold iV at q1 q2
      subst hA1
      subst hA2
      obtain ⟨y, hy⟩ : ∃ y, y = x j := ⟨_, rfl⟩
      rw [← hy] at q1 q2
      clear hc1 hc2 hy
      have hz := HB.out.size
      have l1 := World.block_lt_of_cell? wo _ q1
      have l2 := World.block_lt_of_cell? wo _ q2
      go_wp2_with fail
      refine flow_seen [] [0, 1, 2, 3, 4, 5, 6, 7, 8, 9, 10] (by kernel_rfl) (by kernel_rfl) (fun _ _ _ _ _ h => h) fun X => ?_
      have B3 := Lib.hid (onto HB.out hz X.below)
      have p1 : X.val.cell? ⟨g1, o1 + j, none⟩ = some (.int .i64 y) := by rw [X.below.cell (p := ⟨g1, o1 + j, none⟩) l1]; exact q1
      have p2 : X.val.cell? ⟨g2, o2 + j, none⟩ = some (.int .i64 y) := by rw [X.below.cell (p := ⟨g2, o2 + j, none⟩) l2]; exact q2
      have t1 := carry X.below S1'.out
      have t2 := carry X.below S2'.out
      obtain ⟨w3, hw3⟩ : ∃ w3, w3 = X.val := ⟨_, rfl⟩
      rw [← hw3] at B3 p1 p2 t1 t2 ⊢
      clear hw3 X q1 q2 HB a0 a1 a2 a3
      have m1 := World.block_lt_of_cell? w3 _ p1
      have m2 := World.block_lt_of_cell? w3 _ p2
      have r1 : ∀ x' : After w3, x'.val.cell? ⟨g1, o1 + j, none⟩ = some (.int .i64 y) := fun x' => by rw [x'.below.cell (p := ⟨g1, o1 + j, none⟩) m1]; exact p1
      have r2 : ∀ x' : After w3, x'.val.cell? ⟨g2, o2 + j, none⟩ = some (.int .i64 y) := fun x' => by rw [x'.below.cell (p := ⟨g2, o2 + j, none⟩) m2]; exact p2
      have r3 : ∀ x' : After w3, x'.val.cell? ⟨w.heap.size, 3, none⟩ = some (.slice (some ⟨g1, o1, none⟩) n c2) := fun x' => (cells4 (After.row t1 x')).2.2.2
      have r4 : ∀ x' : After w3, x'.val.cell? ⟨w.heap.size + 1, 3, none⟩ = some (.slice (some ⟨g2, o2, none⟩) n c4) := fun x' => (cells4 (After.row t2 x')).2.2.2
      have hyy : (y != y) = false := by simp
      simp only [wpFs, pk, List.getElem?_cons_zero, List.getElem?_cons_succ]
      repeat (go_big_quiet_step (fail))
      refine wpQuiet_nil ?_
      go_wp2_with fail
      go_roundw
      case rel => exact ⟨j + 1, by omega, rfl, B3.out⟩
      case measure => simp [intOf]; omega
    · have hd : decide ((j : Int) < (n : Int)) = false := by simp; omega
      go_wp2_with fail
      go_ret
      exact ⟨rfl, onto B1.out hB1 HB.out⟩
end Go.Proofs.Ytfpkfbojckgcdaa.Oct
