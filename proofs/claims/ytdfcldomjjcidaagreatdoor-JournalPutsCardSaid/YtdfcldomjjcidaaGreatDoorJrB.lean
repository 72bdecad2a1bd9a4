/- Contracts: journal's numbersOf, fieldsOf, check. -/
import Derived.Test.YtdfcldomjjcidaaGreatDoorJrEq
namespace Go.Proofs.YtdfcldomjjcidaaGreatDoor.Oct
open Go.ChangeShapes Go.WideShapes Go.ChangeAt Go.RowKit
set_option linter.unusedVariables false

/-- a kind that there is; how many numbers it has; where they lie -/
def kd (k : Int) : Prop := k = 1 ∨ k = 2 ∨ k = 3
instance (k : Int) : Decidable (kd k) := by unfold kd; infer_instance
def nCn (k : Int) : Nat := if k = 1 then 2 else if k = 2 then 1 else 3
def nOf (k : Int) (j : Nat) : Nat := if k = 1 then (if j = 0 then 4 else 5) else if k = 2 then 1 else if j = 0 then 1 else if j = 1 then 2 else 3
/-- what numbersOf ends in -/
def noP (B : Nat) (k : Int) (w : World) (e : Ending) (w' : World) : Prop := Below w.heap.size w w' ∧
  ((kd k ∧ ∃ X, e = .returned (.slice (some ⟨X, 0, none⟩) (nCn k) (nCn k)) ∧ w.heap.size ≤ X ∧ X < w'.heap.size ∧ ∀ j, j < nCn k → w'.cell? ⟨X, j, none⟩ = some (.pointer (some ⟨B, nOf k j, none⟩))) ∨
   (¬ kd k ∧ e = .panicked (pnE 1)))
theorem no_of {B : Nat} {k : Int} {w W : World} (c : Array Value) (t : TypeId) (hk : kd k) (hb : Below w.heap.size w W) (hc : ∀ j, j < nCn k → c[j]? = some (.pointer (some ⟨B, nOf k j, none⟩))) :
    noP B k w (.returned (.slice (some ⟨W.heap.size, 0, none⟩) (nCn k) (nCn k))) (W.alloc (.cells c t)) :=
  ⟨hb.alloc hb.size _, .inl ⟨hk, W.heap.size, rfl, hb.size, by simp, fun j hj => by rw [cell_row (row_alloc_at W c t _ rfl)]; exact hc j hj⟩⟩
theorem ahead3 (j : Nat) (h : j < 3) : j = 0 ∨ j = 1 ∨ j = 2 := by omega
set_option maxHeartbeats 2000000 in
theorem nums_of (B : Nat) (k : Int) (c : Array Value) (w : World) (hr : row w B = some c) (hk : c[0]? = some (.int .i64 k)) (hs : c.size = 10) :
    Calls Tryz.prog 45 #[.pointer (some ⟨B, 0, none⟩)] w (noP B k w) := by
  have h0 : w.cell? ⟨B, 0, none⟩ = some (.int .i64 k) := by rw [cell_row hr, hk]
  have hB := row_lt hr
  clear hr hk hs
  by_cases h1 : k = 1
  · subst h1
    go_enter Tryz.func45, Tryz.ntmps45
    go_wp2_with fail
    refine flow_seen [([0, 1, 2, 3, 4, 5, 6, 7], 8, true)] [9] (by kernel_rfl) (by kernel_rfl) (fun _ _ _ _ _ h => h) fun Z => ?_
    simp only [wpFs, pk, List.getElem?_cons_zero, List.getElem?_cons_succ]
    repeat (go_big_quiet_step (fail))
    refine wpQuiet_nil ?_
    go_wp2_with fail
    refine ⟨.inl trivial, ?_⟩
    show wpQuiet _ _ _ _ _ _
    repeat (go_big_quiet_step (fail))
    refine wpQuiet_nil ?_
    go_wp2_with fail
    refine bodyPost_ret (v := .slice (some ⟨Z.val.heap.size, 0, none⟩) 2 2) (by simp [results, Tryz.results45, go_sem]) rfl (no_of (k := 1) _ _ (.inl rfl) Z.below fun j hj => ?_)
    have : j = 0 ∨ j = 1 := by have : j < 2 := hj; omega
    rcases this with rfl | rfl <;> rfl
  by_cases h2 : k = 2
  · subst h2
    clear h1
    go_enter Tryz.func45, Tryz.ntmps45
    go_wp2_with fail
    refine bodyPost_ret (v := .slice (some ⟨w.heap.size, 0, none⟩) 1 1) (by simp [results, Tryz.results45, go_sem]) rfl (no_of (k := 2) _ _ (.inr (.inl rfl)) (Below.refl _ _) fun j hj => ?_)
    obtain rfl : j = 0 := by have : j < 1 := hj; omega
    rfl
  by_cases h3 : k = 3
  · subst h3
    clear h1 h2
    go_enter Tryz.func45, Tryz.ntmps45
    go_wp2_with fail
    refine flow_seen [([0, 1, 2, 3, 4, 5, 6, 7, 8], 9, true)] [10] (by kernel_rfl) (by kernel_rfl) (fun _ _ _ _ _ h => h) fun Z => ?_
    simp only [wpFs, pk, List.getElem?_cons_zero, List.getElem?_cons_succ]
    repeat (go_big_quiet_step (fail))
    refine wpQuiet_nil ?_
    go_wp2_with fail
    refine ⟨.inl trivial, ?_⟩
    show wpQuiet _ _ _ _ _ _
    repeat (go_big_quiet_step (fail))
    refine wpQuiet_nil ?_
    go_wp2_with fail
    refine bodyPost_ret (v := .slice (some ⟨Z.val.heap.size, 0, none⟩) 3 3) (by simp [results, Tryz.results45, go_sem]) rfl (no_of (k := 3) _ _ (.inr (.inr rfl)) Z.below fun j hj => ?_)
    rcases ahead3 j hj with rfl | rfl | rfl <;> rfl
  · have e1 : (k == 1) = false := by simp; omega
    have e2 : (k == 2) = false := by simp; omega
    have e3 : (k == 3) = false := by simp; omega
    have hk : ¬ kd k := by unfold kd; omega
    clear h1 h2 h3
    go_enter Tryz.func45, Tryz.ntmps45
    go_wp2_with fail
    exact ⟨rfl, Below.refl _ _, .inr ⟨hk, rfl⟩⟩
set_option maxRecDepth 20000 in
set_option maxHeartbeats 2000000 in
theorem fields_of (r : Rc) (A A' : Option Addr) (c c' : Nat) (w : World) :
    Calls Tryz.prog 46 #[.agg (rcC r (.slice A r.e.T c) (.slice A' r.e.n c'))] w fun e w' => e = .returned (.agg (fdC r)) ∧ Below w.heap.size w w' := by
  obtain ⟨w1, hw1⟩ : ∃ w1, w1 = (w.alloc (.cells (rcC r (.slice A r.e.T c) (.slice A' r.e.n c')) 29)).alloc (.cells #[.int .i64 0, .int .i64 0, .int .i64 0, .int .i64 0, .int .i64 0, .int .i64 0, .int .i64 0, .int .i64 0, .int .i64 0] 89) := ⟨_, rfl⟩
  have B1 := Lib.hid (show Below w.heap.size w w1 by rw [hw1]; exact ((Below.refl _ _).alloc (Nat.le_refl _) _).alloc (by simp) _)
  have R1 := Lib.hid (show row w1 w.heap.size = some (rcC r (.slice A r.e.T c) (.slice A' r.e.n c')) by rw [hw1]; exact row_alloc (row_alloc_at _ _ _ _ rfl) _)
  have R2 := Lib.hid (show row w1 (w.heap.size + 1) = some (fdC .zero) by rw [hw1, ← fd_lit0]; exact row_alloc_at _ _ _ _ (by simp))
  have hb8 := fd_b8 r
  go_enter Tryz.func46, Tryz.ntmps46
  go_upto_region 1 with fail
  simp only [← hw1]
  clear hw1
  obtain ⟨c0, c1, c2, c3, c4, c5, c6, c7, c8, c9⟩ := rc_cells R1.out
  have r2 := R2.out
  go_wp2_with fail
  exact bodyPost_ret (v := .agg (fdC r)) (res_c Tryz.results46 _ _ (w.heap.size + 1) _ _ rfl (row_setRow R2.out _) Tryz.underlying89 rfl (by rw [fd_i, fd_size])) rfl ⟨rfl, below_setRow B1.out (by omega) _⟩

/-- the j-th number of a record's kind -/
def nVl (r : Rc) (j : Nat) : Int := if r.k = 1 then (if j = 0 then r.a else r.b) else if r.k = 2 then r.i else if j = 0 then r.i else if j = 1 then r.t else r.n
/-- the first j of them are taken out -/
def zr (r : Rc) (j : Nat) : Rc :=
  if r.k = 1 then { r with a := if 0 < j then 0 else r.a, b := if 1 < j then 0 else r.b }
  else if r.k = 2 then { r with i := if 0 < j then 0 else r.i }
  else { r with i := if 0 < j then 0 else r.i, t := if 1 < j then 0 else r.t, n := if 2 < j then 0 else r.n }
theorem zr_k (r : Rc) (j : Nat) : (zr r j).k = r.k := by unfold zr; split <;> (try split) <;> rfl
theorem zr_e (r : Rc) (j : Nat) : (zr r j).e = r.e := by unfold zr; split <;> (try split) <;> rfl
theorem zr_0 (r : Rc) : zr r 0 = r := by simp [zr]
theorem zr_at (r : Rc) (hk : kd r.k) (j : Nat) (hj : j < nCn r.k) (D M : Value) : (rcC (zr r j) D M)[nOf r.k j]? = some (.int .i64 (nVl r j)) := by
  obtain ⟨k, i, t, n, a, b, e⟩ := r
  unfold kd at hk
  simp only at hk hj ⊢
  unfold rcC
  rcases hk with rfl | rfl | rfl
  · have : j = 0 ∨ j = 1 := by have : j < 2 := hj; omega
    rcases this with rfl | rfl <;> rfl
  · obtain rfl : j = 0 := by have : j < 1 := hj; omega
    rfl
  · rcases ahead3 j hj with rfl | rfl | rfl <;> rfl
theorem zr_set (r : Rc) (hk : kd r.k) (j : Nat) (hj : j < nCn r.k) (D M : Value) : (rcC (zr r j) D M).setIfInBounds (nOf r.k j) (.int .i64 0) = rcC (zr r (j + 1)) D M := by
  obtain ⟨k, i, t, n, a, b, e⟩ := r
  unfold kd at hk
  simp only at hk hj ⊢
  unfold rcC
  rcases hk with rfl | rfl | rfl
  · have : j = 0 ∨ j = 1 := by have : j < 2 := hj; omega
    rcases this with rfl | rfl <;> rfl
  · obtain rfl : j = 0 := by have : j < 1 := hj; omega
    rfl
  · rcases ahead3 j hj with rfl | rfl | rfl <;> rfl
/-- a number that may be -/
def nIn (x : Int) : Prop := 0 ≤ x ∧ x ≤ 1099511627776
instance (x : Int) : Decidable (nIn x) := by unfold nIn; infer_instance
/-- what is left when a kind's own is taken out -/
def zrE (r : Rc) : Rc := if r.k = 2 then { zr r (nCn r.k) with e := .zero } else zr r (nCn r.k)
/-- a record may be (but for its entry) -/
def rcOk (r : Rc) : Prop := kd r.k ∧ (∀ j, j < nCn r.k → nIn (nVl r j)) ∧ fdB (zrE r) = true
def ckP (r : Rc) (w : World) (e : Ending) (w' : World) : Prop := Below w.heap.size w w' ∧ ((rcOk r ∧ e = .returned (.tuple #[])) ∨ (¬ rcOk r ∧ e = .panicked (pnE 1)))
set_option maxRecDepth 20000 in
set_option maxHeartbeats 4000000 in
theorem check_rec (r : Rc) (A A' : Option Addr) (c c' : Nat) (w : World) :
    Calls Tryz.prog 24 #[.agg (rcC r (.slice A r.e.T c) (.slice A' r.e.n c'))] w (ckP r w) := by
  obtain ⟨w1, hw1⟩ : ∃ w1, w1 = w.alloc (.cells (rcC r (.slice A r.e.T c) (.slice A' r.e.n c')) 29) := ⟨_, rfl⟩
  have B1 := Lib.hid (show Below w.heap.size w w1 by rw [hw1]; exact (Below.refl _ _).alloc (Nat.le_refl _) _)
  have R1 := Lib.hid (show row w1 w.heap.size = some (rcC r (.slice A r.e.T c) (.slice A' r.e.n c')) by rw [hw1]; exact row_alloc_at _ _ _ _ rfl)
  have HN := Lib.hid (nums_of w.heap.size r.k _ w1 R1.out (by unfold rcC; rfl) (by rw [rc_size]))
  go_enter Tryz.func24, Tryz.ntmps24
  go_upto_region 1 with fail
  simp only [← hw1]
  clear hw1
  go_wp2_with fail
  refine HN.out.mono ?_
  rintro e w2 ⟨hb2, ⟨hk, X, rfl, hX, hX2, hp⟩ | ⟨hk, rfl⟩⟩
  · have HP := Lib.hid hp
    have HK := Lib.hid hk
    have B2 := Lib.hid (onto B1.out B1.out.size hb2)
    have R2 := Lib.hid (carry hb2 R1.out)
    have hX1 : w.heap.size < X := by have := row_lt R1.out; omega
    clear hp hk hb2 HN R1 B1 hX
    obtain ⟨N, hN⟩ : ∃ N, N = nCn r.k := ⟨_, rfl⟩
    have hN3 : N ≤ 3 := by rw [hN]; unfold nCn; split <;> (try split) <;> omega
    rw [← hN] at HP ⊢
    have HN := Lib.hid hN
    clear hN
    go_wp2_with fail
    go_loopw [6] (fun iv wr => ∃ j : Nat, j ≤ N ∧ iv = .int .i64 (j : Int) ∧ (∀ i, i < j → nIn (nVl r i)) ∧ row wr w.heap.size = some (rcC (zr r j) (.slice A r.e.T c) (.slice A' r.e.n c')) ∧ Below w.heap.size w wr ∧ (∀ i, i < N → wr.cell? ⟨X, i, none⟩ = some (.pointer (some ⟨w.heap.size, nOf r.k i, none⟩)))) (fun iv _ => N - (intOf iv).toNat)
    case atStart => exact ⟨0, by omega, rfl, fun i hi => by omega, by rw [zr_0]; exact R2.out, B2.out, HP.out⟩
    case round =>
      obtain ⟨j, hj, rfl, hin, hr, hb, hp⟩ := hrel
      obtain ⟨wo, rfl⟩ : ∃ wo : World, wo = wr := ⟨_, rfl⟩
      have HI := Lib.hid hin
      have HR := Lib.hid hr
      have HB := Lib.hid hb
      have HQ := Lib.hid hp
      clear hin hr hb hp
      by_cases hlt : j < N
      · have hd : decide ((j : Int) < (N : Int)) = true := by simp; omega
        have hd' : 0 ≤ (j : Int) ∧ (j : Int) < (N : Int) := by omega
        have q1 := HQ.out j hlt
        have hjn : j < nCn r.k := by rw [← HN.out]; exact hlt
        have q2 : wo.cell? ⟨w.heap.size, nOf r.k j, none⟩ = some (.int .i64 (nVl r j)) := by rw [cell_row HR.out]; exact zr_at r HK.out j hjn _ _
        have q3 := froz_row HR.out (nOf r.k j)
        obtain ⟨x, hx⟩ : ∃ x, x = nVl r j := ⟨_, rfl⟩
        rw [← hx] at q2
        have HX := Lib.hid hx
        have HJN := Lib.hid hjn
        obtain ⟨o, ho⟩ : ∃ o, o = nOf r.k j := ⟨_, rfl⟩
        rw [← ho] at q1 q2 q3
        have HO := Lib.hid ho
        clear hx hjn ho
        by_cases hx0 : x < 0
        · have hbad : ¬ rcOk r := fun h => by have := (h.2.1 j HJN.out).1; rw [← HX.out] at this; omega
          have HBAD := Lib.hid hbad
          have hx1 : decide (x < 0) = true := by simp; omega
          clear hbad hx0
          go_wp2_with fail
          exact ⟨rfl, HB.out, .inr ⟨HBAD.out, rfl⟩⟩
        · have hx1 : decide (x < 0) = false := by simp; omega
          by_cases hx2 : 1099511627776 < x
          · have hbad : ¬ rcOk r := fun h => by have := (h.2.1 j HJN.out).2; rw [← HX.out] at this; omega
            have HBAD := Lib.hid hbad
            have hx3 : decide (1099511627776 < x) = true := by simp; omega
            clear hbad hx0 hx2
            go_wp2_with fail
            exact ⟨rfl, HB.out, .inr ⟨HBAD.out, rfl⟩⟩
          · have hx3 : decide (1099511627776 < x) = false := by simp; omega
            have HNI := Lib.hid (show nIn (nVl r j) by rw [← HX.out]; exact ⟨by omega, by omega⟩)
            clear hx0 hx2
            go_wp2_with fail
            go_roundw
            case rel =>
              have hr2 := setCell_row HR.out o (.int .i64 0)
              rw [HO.out, zr_set r HK.out j HJN.out] at hr2
              have hb2 : Below w.heap.size w (wo.setCell ⟨w.heap.size, o, none⟩ (.int .i64 0)) := HB.out.setCell (Nat.le_refl _) _
              refine ⟨j + 1, by omega, rfl, fun i hi => ?_, ?_, hb2, fun i hi => ?_⟩
              · by_cases e : i = j
                · rw [e]; exact HNI.out
                · exact HI.out i (by omega)
              · rw [HO.out, hr2]; exact row_setRow HR.out _
              · rw [World.cell?_setCell_other _ _ _ _ (by intro e; injection e with e; omega)]; exact HQ.out i hi
            case measure => simp [intOf]; omega
      · have hd : decide ((j : Int) < (N : Int)) = false := by simp; omega
        obtain rfl : j = N := by omega
        have R3 := HR.out
        obtain ⟨c0, c1, c2, c3, c4, c5, c6, c7, c8, c9⟩ := rc_cells R3
        rw [zr_k] at c0
        have z6 := froz_row R3 6
        have z7 := froz_row R3 7
        have z8 := froz_row R3 8
        have z9 := froz_row R3 9
        have HALL := Lib.hid (show ∀ i, i < nCn r.k → nIn (nVl r i) by rw [← HN.out]; exact HI.out)
        clear R3 HP HQ HI R2 B2
        by_cases h2 : r.k = 2
        · have e2 : (r.k == 2) = true := by simp; omega
          have HE := Lib.hid (show zrE r = { zr r j with e := .zero } by unfold zrE; rw [if_pos h2, HN.out])
          clear h2
          go_upto_region 10 with fail
          obtain ⟨w3, hr3, hb3, hw3⟩ : ∃ w3, row w3 w.heap.size = some (rcC (zrE r) (.slice none (zrE r).e.T 0) (.slice none (zrE r).e.n 0)) ∧ Below w.heap.size w w3 ∧ w3 = ((((wo.setCell ⟨w.heap.size, 6, none⟩ (.int .i64 0)).setCell ⟨w.heap.size, 7, none⟩ (.int .i64 0)).setCell ⟨w.heap.size, 8, none⟩ (.slice none 0 0)).setCell ⟨w.heap.size, 9, none⟩ (.slice none 0 0)) := by
            refine ⟨_, ?_, (((HB.out.setCell (Nat.le_refl _) _).setCell (Nat.le_refl _) _).setCell (Nat.le_refl _) _).setCell (Nat.le_refl _) _, rfl⟩
            rw [setCell_row HR.out, setCell_row (row_setRow HR.out _), setRow_setRow, setCell_row (row_setRow HR.out _), setRow_setRow, setCell_row (row_setRow HR.out _), setRow_setRow, HE.out]
            refine (row_setRow HR.out _).trans ?_
            unfold rcC
            rfl
          rw [← hw3]
          clear hw3 c0 c1 c2 c3 c4 c5 c6 c7 c8 c9 z6 z7 z8 z9
          obtain ⟨A1, k1, A2, k2, r3⟩ : ∃ A1 k1 A2 k2, row w3 w.heap.size = some (rcC (zrE r) (.slice A1 (zrE r).e.T k1) (.slice A2 (zrE r).e.n k2)) := ⟨_, _, _, _, hr3⟩
          have B3 := Lib.hid hb3
          clear hb3 hr3
          go_wp2_with fail
          refine (fields_of (zrE r) A1 A2 k1 k2 _).mono ?_
          rintro e w4 ⟨rfl, hb4⟩
          have B4 := Lib.hid (onto B3.out B3.out.size hb4)
          have hne := ne_fields (zrE r)
          obtain ⟨y, hy⟩ : ∃ y, y = fdB (zrE r) := ⟨_, rfl⟩
          rw [← hy] at hne
          have HY := Lib.hid hy
          clear hb4 hy r3
          cases y with
          | true =>
            go_wp2_with fail
            go_end0
            exact ⟨B4.out, .inl ⟨⟨HK.out, HALL.out, HY.out.symm⟩, rfl⟩⟩
          | false =>
            go_wp2_with fail
            exact ⟨rfl, B4.out, .inr ⟨(fun h => by have := h.2.2; rw [← HY.out] at this; cases this), rfl⟩⟩
        · have e2 : (r.k == 2) = false := by simp; omega
          have HE := Lib.hid (show zrE r = zr r j by unfold zrE; rw [if_neg h2, HN.out])
          clear h2
          go_upto_region 10 with fail
          clear c0 c1 c2 c3 c4 c5 c6 c7 c8 c9 z6 z7 z8 z9
          have B3 := HB
          obtain ⟨A1, k1, A2, k2, r3⟩ : ∃ A1 k1 A2 k2, row wo w.heap.size = some (rcC (zrE r) (.slice A1 (zrE r).e.T k1) (.slice A2 (zrE r).e.n k2)) := ⟨A, c, A', c', by rw [HE.out, zr_e]; exact HR.out⟩
          go_wp2_with fail
          refine (fields_of (zrE r) A1 A2 k1 k2 _).mono ?_
          rintro e w4 ⟨rfl, hb4⟩
          have B4 := Lib.hid (onto B3.out B3.out.size hb4)
          have hne := ne_fields (zrE r)
          obtain ⟨y, hy⟩ : ∃ y, y = fdB (zrE r) := ⟨_, rfl⟩
          rw [← hy] at hne
          have HY := Lib.hid hy
          clear hb4 hy r3
          cases y with
          | true =>
            go_wp2_with fail
            go_end0
            exact ⟨B4.out, .inl ⟨⟨HK.out, HALL.out, HY.out.symm⟩, rfl⟩⟩
          | false =>
            go_wp2_with fail
            exact ⟨rfl, B4.out, .inr ⟨(fun h => by have := h.2.2; rw [← HY.out] at this; cases this), rfl⟩⟩
  · have B2 := Lib.hid (onto B1.out B1.out.size hb2)
    have HK := Lib.hid hk
    clear hk hb2 HN R1 B1
    go_wp2_with fail
    exact ⟨rfl, B2.out, .inr ⟨fun h => HK.out h.1, rfl⟩⟩
end Go.Proofs.YtdfcldomjjcidaaGreatDoor.Oct
