/- Contracts: journal's placeOf, move, follow. -/
import Derived.Test.YtdfcldomjjcidaaGreatDoorJrQ
namespace Go.Proofs.YtdfcldomjjcidaaGreatDoor.Oct
open Go.ChangeShapes Go.WideShapes Go.ChangeAt Go.RowKit
set_option linter.unusedVariables false

theorem plc_i : (Tryz.prog.info? 106).map (·.size) = some 2 := by kernel_rfl
@[go_sem ↓] theorem plc_s (p v : Value) : Instr.storeAt 106 p v = stA 106 p v := rfl
@[go_sem] theorem plc_st (w : World) (b o : Nat) (c : Array Value) : (stA 106 (.pointer (some ⟨b, o, none⟩)) (.agg c)).run Tryz.prog w = stR Tryz.prog 106 2 w b o (.agg c) (row w b) := st_rule _ 2 plc_i w b o c
@[go_sem] theorem plc_stw (P : Program) (t : Nat) (w : World) (b : Nat) (x y : Int) (a c : Value) : stR P t 2 w b 0 (.agg #[.int .i64 x, .int .i64 y]) (some #[a, c]) = .ok () (w.setRow b #[.int .i64 x, .int .i64 y]) :=
  stR_whole P t 2 w b _ _ rfl rfl (by
    unfold Ones
    have h (x : Int) : (Value.int .i64 x).oneCell' = true := rfl
    simp [h])
/-- the term at a number -/
def plT (s : St) (n : Nat) : Int := if n = 0 then s.t else (s.l.getD (n - 1) En.zero).t
set_option maxRecDepth 20000 in
set_option maxHeartbeats 4000000 in
theorem place_any (T : Mk) (B : Nat) (s : St) (n : Nat) (w : World) (hS : StAt T w B s) (hn : n ≤ s.l.length) (hs : -4398046511104 ≤ s.i ∧ s.i ≤ 4398046511104) (hl : s.l.length ≤ 1000000) :
    Calls Tryz.prog 90 #[.pointer (some ⟨B, 0, none⟩), .int .i64 (n : Nat)] w fun e w' => e = .returned (.agg #[.int .i64 (s.i + n), .int .i64 (plT s n)]) ∧ Below w.heap.size w w' := by
  obtain ⟨V, cV, hr, hel⟩ := hS.ex
  obtain ⟨w1, hw1⟩ : ∃ w1, w1 = w.alloc (.cells #[.int .i64 0, .int .i64 0] 106) := ⟨_, rfl⟩
  have bw : Below w.heap.size w w1 := by rw [hw1]; exact (Below.refl _ _).alloc (Nat.le_refl _) _
  have rx : row w1 w.heap.size = some #[.int .i64 0, .int .i64 0] := by rw [hw1]; exact row_alloc_at _ _ _ _ rfl
  have rB := carry bw hr
  have B1 := Lib.hid bw
  have RX := Lib.hid rx
  have RB := Lib.hid rB
  have HEL := Lib.hid (hel.fr enEl_ok (Fr.calm (T := T) (T' := T) (H := fun _ => False) bw fun _ _ => rfl) (fun e => e) (fun e => e))
  have w1' : IntKind.i64.wrap (s.i + (n : Int)) = s.i + n := by rw [IntKind.wrap_i64]; omega
  clear bw rx rB hr hel hS
  go_enter Tryz.func90, Tryz.ntmps90
  go_upto_region 1 with fail
  simp only [← hw1]
  clear hw1
  by_cases h0 : n = 0
  · subst h0
    go_wp2_with fail
    refine flow_seen [([0, 1, 2, 3, 4, 5, 6, 7, 8], 9, true)] [] (by kernel_rfl) (by kernel_rfl) (fun _ _ _ _ _ h => h) fun Z => ?_
    have R2 := carry Z.below RB.out
    have X2 := carry Z.below RX.out
    have B2 := Lib.hid (onto B1.out B1.out.size Z.below)
    obtain ⟨w2, hw2⟩ : ∃ w2, w2 = Z.val := ⟨_, rfl⟩
    rw [← hw2] at R2 X2 B2 ⊢
    clear hw2 Z
    have dd := fun x : After w2 => st_cells (After.row R2 x)
    simp only [wpFs, pk, List.getElem?_cons_zero, List.getElem?_cons_succ]
    repeat (go_big_quiet_step (fail))
    refine wpQuiet_nil ?_
    clear dd
    go_wp2_with fail
    first | refine ⟨.inl trivial, ?_⟩ | skip
    show wpQuiet _ _ _ _ _ _
    refine wpQuiet_nil ?_
    go_wp2_with fail
    exact bodyPost_ret (v := .agg #[.int .i64 s.i, .int .i64 s.t]) (res_c Tryz.results90 _ _ w.heap.size _ _ rfl (row_setRow X2 _) Tryz.underlying106 rfl (by kernel_rfl)) rfl ⟨by rw [show s.i + ((0 : Nat) : Int) = s.i by omega]; rfl, below_setRow B2.out (Nat.le_refl _) _⟩
  · have hne : ((n : Int) == 0) = false := by simp; omega
    obtain ⟨m, hm⟩ : ∃ m, n = m + 1 := ⟨n - 1, by omega⟩
    subst hm
    obtain ⟨g, o, cur, hV, hrg, hsz, hTg, hc⟩ := HEL.out.at_ (by have := HEL.out.le; omega)
    obtain ⟨vs, hvs, hvc⟩ := hc m (by omega)
    obtain ⟨D, kD, M, kM, hve, -, -⟩ := hvs
    have hcell : cur[o + m * 4]? = some (.int .i64 (s.l[m]'(by omega)).t) := by have := hvc 0 (by omega); rw [Nat.add_zero] at this; rw [this, hve]; rfl
    subst hV
    have HG := Lib.hid hrg
    have HC := Lib.hid hcell
    clear hc hvc hve hrg hcell h0 hsz hTg
    go_wp2_with fail
    refine flow_seen [([0, 1, 2, 3, 4, 5, 6, 7, 8, 9, 10, 11, 12, 13, 14, 15], 16, true)] [] (by kernel_rfl) (by kernel_rfl) (fun _ _ _ _ _ h => h) fun Z => ?_
    have R2 := carry Z.below RB.out
    have X2 := carry Z.below RX.out
    have G2 := carry Z.below HG.out
    have B2 := Lib.hid (onto B1.out B1.out.size Z.below)
    obtain ⟨w2, hw2⟩ : ∃ w2, w2 = Z.val := ⟨_, rfl⟩
    rw [← hw2] at R2 X2 B2 G2 ⊢
    clear hw2 Z
    have dd := fun x : After w2 => st_cells (After.row R2 x)
    have gg : ∀ x : After w2, x.val.cell? ⟨g, o + m * 4, none⟩ = some (.int .i64 (s.l[m]'(by omega)).t) := fun x => by rw [cell_row (After.row G2 x)]; exact HC.out
    have hd : 0 ≤ (m : Int) ∧ (m : Int) < (s.l.length : Int) := by omega
    have e1 : IntKind.i64.wrap (((m + 1 : Nat) : Int) - 1) = (m : Int) := by rw [IntKind.wrap_i64]; omega
    have e2 : ((m + 1 : Nat) : Int) - 1 = (m : Int) := by omega
    have e3 : ((m : Int) + 1) - 1 = (m : Int) := by omega
    simp only [wpFs, pk, List.getElem?_cons_zero, List.getElem?_cons_succ]
    repeat (go_big_quiet_step (fail))
    refine wpQuiet_nil ?_
    clear dd gg hd e1 e2 e3
    go_wp2_with fail
    first | refine ⟨.inl trivial, ?_⟩ | skip
    show wpQuiet _ _ _ _ _ _
    refine wpQuiet_nil ?_
    go_wp2_with fail
    exact bodyPost_ret (v := .agg #[.int .i64 (s.i + ((m : Int) + 1)), .int .i64 (s.l[m]'(by omega)).t]) (res_c Tryz.results90 _ _ w.heap.size _ _ rfl (row_setRow X2 _) Tryz.underlying106 rfl (by kernel_rfl)) rfl ⟨by
      have h1 : plT s (m + 1) = (s.l[m]'(by omega)).t := by unfold plT; rw [if_neg (by omega), Nat.add_sub_cancel]; simp [show m < s.l.length by omega]
      rw [h1, show s.i + ((m + 1 : Nat) : Int) = s.i + ((m : Int) + 1) by omega], below_setRow B2.out (Nat.le_refl _) _⟩
/-- what a base makes of a state -/
def mvC (s : St) (pi : Int) : Nat := (pi - s.i).toNat
def mvT (s : St) (pi pt : Int) : Bool := decide (mvC s pi ≤ s.l.length) && (plT s (mvC s pi) == pt)
def mvS (s : St) (pi pt f : Int) : St := if pi < s.i then s else ⟨s.a, s.b, pi, pt, f, if mvT s pi pt then s.l.drop (mvC s pi) else []⟩
set_option maxRecDepth 20000 in
set_option maxHeartbeats 8000000 in
theorem move_any (T : Mk) (B : Nat) (s : St) (pi pt f : Int) (w : World) (hS : StAt T w B s) (hi : -4398046511104 ≤ pi ∧ pi ≤ 4398046511104) (hs : -4398046511104 ≤ s.i ∧ s.i ≤ 4398046511104) (hl : s.l.length ≤ 1000000) :
    Calls Tryz.prog 62 #[.pointer (some ⟨B, 0, none⟩), .agg #[.int .i64 pi, .int .i64 pt], .int .i64 f] w (stP T B (some (mvS s pi pt f)) w) := by
  obtain ⟨V, cV, hr, hel⟩ := hS.ex
  have HTB := Lib.hid hS.tB
  obtain ⟨w1, hw1⟩ : ∃ w1, w1 = w.alloc (.cells #[.int .i64 pi, .int .i64 pt] 106) := ⟨_, rfl⟩
  have bw : Below w.heap.size w w1 := by rw [hw1]; exact (Below.refl _ _).alloc (Nat.le_refl _) _
  have rx : row w1 w.heap.size = some #[.int .i64 pi, .int .i64 pt] := by rw [hw1]; exact row_alloc_at _ _ _ _ rfl
  have rB := carry bw hr
  have hBlt := row_lt hr
  have B1 := Lib.hid bw
  have RX := Lib.hid rx
  have RB := Lib.hid rB
  obtain ⟨T1, hT1⟩ : ∃ T1, T1 = paint T w.heap.size 0 := ⟨_, rfl⟩
  have F1 : Fr T T1 (fun _ => False) w w1 := by rw [hT1]; exact Fr.new bw 0
  have hB1 : T1 B = 2 := by rw [hT1, paint_old hBlt]; exact HTB.out
  have HEL := Lib.hid (hel.fr enEl_ok F1 (fun e => e) (fun e => e))
  have FF1 := Lib.hid F1
  clear bw rx rB hr hel hS hT1 F1
  go_enter Tryz.func62, Tryz.ntmps62
  go_upto_region 1 with fail
  simp only [← hw1]
  clear hw1
  refine flow_seen [] [0, 1, 2, 3, 4, 5, 6] (by kernel_rfl) (by kernel_rfl) (fun _ _ _ _ _ h => h) fun Z => ?_
  have R2 := carry Z.below RB.out
  have X2 := carry Z.below RX.out
  have B2 := Lib.hid (onto B1.out B1.out.size Z.below)
  have F2 : Fr T1 T1 (fun _ => False) w1 Z.val := Fr.calm Z.below fun _ _ => rfl
  have EL2 := Lib.hid (HEL.out.fr enEl_ok F2 (fun e => e) (fun e => e))
  have FF2 := Lib.hid (FF1.out.trans F2)
  obtain ⟨w2, hw2⟩ : ∃ w2, w2 = Z.val := ⟨_, rfl⟩
  rw [← hw2] at R2 X2 B2 EL2 FF2 ⊢
  clear hw2 Z F2 HEL FF1 RX RB B1
  have HR2 := Lib.hid R2
  have HX2 := Lib.hid X2
  have dd := fun x : After w2 => st_cells (After.row R2 x)
  have xx : ∀ x : After w2, x.val.cell? ⟨w.heap.size, 0, none⟩ = some (.int .i64 pi) ∧ x.val.cell? ⟨w.heap.size, 1, none⟩ = some (.int .i64 pt) := fun x => by rw [cell_row (After.row X2 x), cell_row (After.row X2 x)]; exact ⟨rfl, rfl⟩
  simp only [wpFs, pk, List.getElem?_cons_zero, List.getElem?_cons_succ]
  repeat (go_big_quiet_step (fail))
  refine wpQuiet_nil ?_
  clear dd xx R2 X2
  by_cases h1 : pi < s.i
  · have hd : decide (pi < s.i) = true := by simp; omega
    have HM := Lib.hid (show mvS s pi pt f = s by unfold mvS; rw [if_pos h1])
    go_wp2_with fail
    exact bodyPost_ret (v := .tuple #[]) (results_none rfl _ _ _) rfl ⟨T1, FF2.out.mono (fun _ h => h.elim), .inl ⟨_, rfl, rfl, ⟨by rw [HM.out]; exact ⟨V, cV, HR2.out, EL2.out⟩, hB1⟩⟩⟩
  · have hd : decide (pi < s.i) = false := by simp; omega
    obtain ⟨a, ha⟩ : ∃ a : Nat, pi - s.i = (a : Int) := ⟨(pi - s.i).toNat, by omega⟩
    have w1' : IntKind.i64.wrap (pi - s.i) = (a : Int) := by rw [IntKind.wrap_i64]; omega
    have HM := Lib.hid (show mvS s pi pt f = ⟨s.a, s.b, pi, pt, f, if mvT s pi pt then s.l.drop a else []⟩ by unfold mvS mvC; rw [if_neg h1, ha]; rfl)
    have HTT := Lib.hid (show mvT s pi pt = (decide (a ≤ s.l.length) && (plT s a == pt)) by unfold mvT mvC; rw [ha]; rfl)
    go_wp2_with fail
    refine flow_seen [] [0, 1, 2, 3, 4, 5, 6, 7] (by kernel_rfl) (by kernel_rfl) (fun _ _ _ _ _ h => h) fun Z => ?_
    have R3 := carry Z.below HR2.out
    have X3 := carry Z.below HX2.out
    have B3 := Lib.hid (onto B2.out B2.out.size Z.below)
    have F3 : Fr T1 T1 (fun _ => False) w2 Z.val := Fr.calm Z.below fun _ _ => rfl
    have EL3 := Lib.hid (EL2.out.fr enEl_ok F3 (fun e => e) (fun e => e))
    have FF3 := Lib.hid (FF2.out.trans F3)
    obtain ⟨w3, hw3⟩ : ∃ w3, w3 = Z.val := ⟨_, rfl⟩
    rw [← hw3] at R3 X3 B3 EL3 FF3 ⊢
    clear hw3 Z F3 EL2 FF2 HR2 HX2 B2 hd h1
    have HR3 := Lib.hid R3
    have HX3 := Lib.hid X3
    have dd := fun x : After w3 => st_cells (After.row R3 x)
    have xx : ∀ x : After w3, x.val.cell? ⟨w.heap.size, 0, none⟩ = some (.int .i64 pi) ∧ x.val.cell? ⟨w.heap.size, 1, none⟩ = some (.int .i64 pt) := fun x => by rw [cell_row (After.row X3 x), cell_row (After.row X3 x)]; exact ⟨rfl, rfl⟩
    simp only [wpFs, pk, List.getElem?_cons_zero, List.getElem?_cons_succ]
    repeat (go_big_quiet_step (fail))
    refine wpQuiet_nil ?_
    clear dd xx R3 X3 w1'
    by_cases hc : a ≤ s.l.length
    · have hd : decide ((a : Int) ≤ (s.l.length : Int)) = true := by simp; omega
      have hd2 : decide (a ≤ s.l.length) = true := by simp; omega
      have HP := Lib.hid (fun w hS => place_any T1 B s a w hS hc hs hl)
      obtain ⟨y, hy⟩ : ∃ y, y = (plT s a == pt) := ⟨_, rfl⟩
      have HY := Lib.hid (show mvT s pi pt = y by rw [HTT.out, hd2, hy]; rfl)
      have hqe : ∀ w, (binOp .eql 106 (.agg #[.int .i64 (s.i + a), .int .i64 (plT s a)]) (.agg #[.int .i64 pi, .int .i64 pt])).run Tryz.prog w = .ok (.bool y) w := fun w => by
        rw [eq_place, show (s.i + (a : Int) == pi) = true by simp; omega, hy]; rfl
      clear hy
      go_upto_region 3 with fail
      refine flow_seen [([0, 1, 2, 3, 4, 5, 6, 7, 8, 9, 11], 10, false)] [12, 13] (by kernel_rfl) (by kernel_rfl) (fun _ _ _ _ _ h => h) fun Z => ?_
      have R4 := carry Z.below HR3.out
      have X4 := carry Z.below HX3.out
      have B4 := Lib.hid (onto B3.out B3.out.size Z.below)
      have F4 : Fr T1 T1 (fun _ => False) w3 Z.val := Fr.calm Z.below fun _ _ => rfl
      have EL4 := Lib.hid (EL3.out.fr enEl_ok F4 (fun e => e) (fun e => e))
      have FF4 := Lib.hid (FF3.out.trans F4)
      obtain ⟨w4, hw4⟩ : ∃ w4, w4 = Z.val := ⟨_, rfl⟩
      rw [← hw4] at R4 X4 B4 EL4 FF4 ⊢
      clear hw4 Z F4 EL3 FF3 HR3 HX3 B3
      have HR4 := Lib.hid R4
      have HX4 := Lib.hid X4
      have dd := fun x : After w4 => st_cells (After.row R4 x)
      have xx : ∀ x : After w4, x.val.cell? ⟨w.heap.size, 0, none⟩ = some (.int .i64 pi) ∧ x.val.cell? ⟨w.heap.size, 1, none⟩ = some (.int .i64 pt) := fun x => by rw [cell_row (After.row X4 x), cell_row (After.row X4 x)]; exact ⟨rfl, rfl⟩
      simp only [wpFs, pk, List.getElem?_cons_zero, List.getElem?_cons_succ]
      repeat (go_big_quiet_step (fail))
      refine wpQuiet_nil ?_
      clear dd xx R4 X4
      go_wp2_with fail
      refine (HP.out w4 ⟨⟨V, cV, HR4.out, EL4.out⟩, hB1⟩).mono ?_
      rintro e5 w5 ⟨rfl, hb5⟩
      have B5 := Lib.hid (onto B4.out B4.out.size hb5)
      have F5 : Fr T1 T1 (fun _ => False) w4 w5 := Fr.calm hb5 fun _ _ => rfl
      have EL5 := Lib.hid (EL4.out.fr enEl_ok F5 (fun e => e) (fun e => e))
      have FF5 := Lib.hid (FF4.out.trans F5)
      have R5 := Lib.hid (carry hb5 HR4.out)
      have X5 := Lib.hid (carry hb5 HX4.out)
      clear F5 EL4 FF4 HR4 HX4 B4 HP
      go_wp2_with fail
      refine ⟨.inr hb5, ?_⟩
      clear hb5
      show wpQuiet _ _ _ _ _ _
      repeat (go_big_quiet_step (fail))
      refine wpQuiet_nil ?_
      clear hqe
      obtain ⟨c0, c1, c2, c3, c4, c5⟩ := st_cells R5.out
      have z5 := froz_row R5.out 5
      cases y with
      | true =>
        have q1 := fun w => run_fromJ (P := Tryz.prog) (t := 49) (u := 27) (m := 4) (by kernel_rfl) (by kernel_rfl) V s.l.length cV a hc w
        obtain ⟨hdl, EL6⟩ := EL5.out.from_ a hc
        obtain ⟨V6, hV6⟩ : ∃ V6, V6 = (if cV = a then V else V.map (·.add (a * 4))) := ⟨_, rfl⟩
        rw [← hV6] at EL6
        have q1' : ∀ w, (Instr.slice 49 (.slice V s.l.length cV) (some (.int .i64 (a : Int))) none none).run Tryz.prog w = .ok (.slice V6 (s.l.length - a) (cV - a)) w := fun w => by rw [hV6]; exact q1 w
        have HE6 := Lib.hid EL6
        clear q1 hV6 EL6
        go_upto_region 6 with fail
        rw [st_set5 R5.out (s.l.drop a)]
        clear c0 c1 c2 c3 c4 c5 z5 q1'
        obtain ⟨w6, hw6⟩ : ∃ w6, w6 = w5.setRow B (stC { s with l := s.l.drop a } (.slice V6 (s.l.length - a) (cV - a))) := ⟨_, rfl⟩
        have F6 : Fr T1 T1 (fun m => m = 2) w5 w6 := by rw [hw6]; exact Fr.row hB1 _
        have HE6 := Lib.hid (HE6.out.fr enEl_ok F6 (by decide) (by decide))
        have FF6 := Lib.hid ((FF5.out.mono (fun _ h => h.elim)).trans (F6.mono (H' := Hst) fun _ h => .inr h))
        have X6 := Lib.hid (show row w6 w.heap.size = some #[.int .i64 pi, .int .i64 pt] by rw [hw6, row_setRow_other _ _ _ _ (by omega)]; exact X5.out)
        have R6 := Lib.hid (show row w6 B = some (stC { s with l := s.l.drop a } (.slice V6 (s.l.length - a) (cV - a))) by rw [hw6]; exact row_setRow R5.out _)
        rw [← hw6]
        clear hw6 F6
        refine flow_free [0, 1, 2, 3, 5, 7] [([4, 6, 8, 9], 10, false), ([11, 12], 13, false), ([14, 15], 16, true)] [] (fun y => row y w.heap.size = some #[.int .i64 pi, .int .i64 pt]) (by kernel_rfl) (by kernel_rfl) (fun _ _ _ _ _ h => h) (by rw [row_drewN]; exact X6.out) ?_
        have hne : Nonempty (In (fun _ => True)) := ⟨⟨w6, trivial⟩⟩
        simp only [pk, List.getElem?_cons_zero, List.getElem?_cons_succ]
        repeat (go_big_quiet_step (fail))
        refine wpQuiet_nil ?_
        clear hne
        have bz : Below w6.heap.size w6 (w6.drewN 1) := below_drewN (Below.refl _ _) 1
        obtain ⟨w7, hw7⟩ : ∃ w7, w7 = w6.drewN 1 := ⟨_, rfl⟩
        rw [← hw7] at bz ⊢
        have F7 : Fr T1 T1 (fun _ => False) w6 w7 := Fr.calm bz fun _ _ => rfl
        have EL7 := Lib.hid (HE6.out.fr enEl_ok F7 (fun e => e) (fun e => e))
        have FF7 := Lib.hid (FF6.out.trans (F7.mono fun _ h => h.elim))
        have X7 := Lib.hid (carry bz X6.out)
        have R7 := Lib.hid (carry bz R6.out)
        clear hw7 bz F7 HE6 FF6 X6 R6
        have hne : Nonempty (In (fun y => row y w.heap.size = some #[.int .i64 pi, .int .i64 pt])) := ⟨⟨_, X7.out⟩⟩
        have e0 : ∀ y : In (fun y => row y w.heap.size = some #[.int .i64 pi, .int .i64 pt]), y.val.cell? ⟨w.heap.size, 0, none⟩ = some (.int .i64 pi) := fun y => by rw [cell_row y.ok]; rfl
        have e1 : ∀ y : In (fun y => row y w.heap.size = some #[.int .i64 pi, .int .i64 pt]), y.val.cell? ⟨w.heap.size, 1, none⟩ = some (.int .i64 pt) := fun y => by rw [cell_row y.ok]; rfl
        have k1 : w7.cell? ⟨B, 2, none⟩ = some (.int .i64 s.i) := (st_cells R7.out).2.2.1
        have z1 := froz_row R7.out 2
        simp only [wpFl, pk, List.getElem?_cons_zero, List.getElem?_cons_succ]
        refine quiet_in ?_
        repeat (go_big_quiet_step (fail))
        refine wpQuiet_nil ?_
        go_wp2_with fail
        have X8 : row (w7.setCell ⟨B, 2, none⟩ (.int .i64 pi)) w.heap.size = some #[.int .i64 pi, .int .i64 pt] := by rw [setCell_row R7.out, row_setRow_other _ _ _ _ (by omega)]; exact X7.out
        refine ⟨fun y => row y w.heap.size = some #[.int .i64 pi, .int .i64 pt], X8, ?_⟩
        first | refine ⟨.inr ⟨X8, fun _ h => h⟩, ?_⟩ | refine ⟨⟨X8, fun _ h => h⟩, ?_⟩ | refine ⟨X8, ?_⟩ | skip
        have R8 : row (w7.setCell ⟨B, 2, none⟩ (.int .i64 pi)) B = some ((stC { s with l := s.l.drop a } (.slice V6 (s.l.length - a) (cV - a))).setIfInBounds 2 (.int .i64 pi)) := by rw [setCell_row R7.out]; exact row_setRow R7.out _
        obtain ⟨w8, hw8⟩ : ∃ w8, w8 = w7.setCell ⟨B, 2, none⟩ (.int .i64 pi) := ⟨_, rfl⟩
        rw [← hw8] at X8 R8 ⊢
        have k2 : w8.cell? ⟨B, 3, none⟩ = some (.int .i64 s.t) := by rw [cell_row R8]; unfold stC; rfl
        have z2 := froz_row R8 3
        have HX8 := Lib.hid X8
        have HR8 := Lib.hid R8
        have HW8 := Lib.hid hw8
        clear X8 R8 hw8
        show wpQuiet _ _ _ _ _ _
        refine quiet_in ?_
        repeat (go_big_quiet_step (fail))
        refine wpQuiet_nil ?_
        go_wp2_with fail
        have X9 : row (w8.setCell ⟨B, 3, none⟩ (.int .i64 pt)) w.heap.size = some #[.int .i64 pi, .int .i64 pt] := by rw [setCell_row HR8.out, row_setRow_other _ _ _ _ (by omega)]; exact HX8.out
        refine ⟨fun y => row y w.heap.size = some #[.int .i64 pi, .int .i64 pt], X9, ?_⟩
        first | refine ⟨.inr ⟨X9, fun _ h => h⟩, ?_⟩ | refine ⟨⟨X9, fun _ h => h⟩, ?_⟩ | refine ⟨X9, ?_⟩ | skip
        have R9 : row (w8.setCell ⟨B, 3, none⟩ (.int .i64 pt)) B = some (((stC { s with l := s.l.drop a } (.slice V6 (s.l.length - a) (cV - a))).setIfInBounds 2 (.int .i64 pi)).setIfInBounds 3 (.int .i64 pt)) := by rw [setCell_row HR8.out]; exact row_setRow HR8.out _
        obtain ⟨w9, hw9⟩ : ∃ w9, w9 = w8.setCell ⟨B, 3, none⟩ (.int .i64 pt) := ⟨_, rfl⟩
        rw [← hw9] at X9 R9 ⊢
        have k3 : w9.cell? ⟨B, 4, none⟩ = some (.int .i64 s.f) := by rw [cell_row R9]; unfold stC; rfl
        have z3 := froz_row R9 4
        have HX9 := Lib.hid X9
        have HR9 := Lib.hid R9
        have HW9 := Lib.hid hw9
        clear X9 R9 hw9
        show wpQuiet _ _ _ _ _ _
        refine quiet_in ?_
        repeat (go_big_quiet_step (fail))
        refine wpQuiet_nil ?_
        go_wp2_with fail
        first | refine ⟨fun _ => True, trivial, .inl trivial, ?_⟩ | refine ⟨fun _ => True, trivial, ?_⟩
        show wpQuiet _ _ _ _ _ _
        refine quiet_in ?_
        refine wpQuiet_nil ?_
        have hend : w9.setCell ⟨B, 4, none⟩ (.int .i64 f) = w7.setRow B (stC ⟨s.a, s.b, pi, pt, f, s.l.drop a⟩ (.slice V6 (s.l.length - a) (cV - a))) := by
          rw [setCell_row HR9.out, HW9.out, setCell_row HR8.out, setRow_setRow, HW8.out, setCell_row R7.out, setRow_setRow]
          unfold stC
          rfl
        rw [hend]
        have F9 : Fr T1 T1 (fun m => m = 2) w7 (w7.setRow B (stC ⟨s.a, s.b, pi, pt, f, s.l.drop a⟩ (.slice V6 (s.l.length - a) (cV - a)))) := Fr.row hB1 _
        have hMM : mvS s pi pt f = ⟨s.a, s.b, pi, pt, f, s.l.drop a⟩ := by rw [HM.out, HY.out]; rfl
        have hrow : row (w7.setRow B (stC ⟨s.a, s.b, pi, pt, f, s.l.drop a⟩ (.slice V6 (s.l.length - a) (cV - a)))) B = some (stC ⟨s.a, s.b, pi, pt, f, s.l.drop a⟩ (.slice V6 (s.l.drop a).length (cV - a))) := by rw [hdl]; exact row_setRow R7.out _
        have hst : StAt T1 (w7.setRow B (stC ⟨s.a, s.b, pi, pt, f, s.l.drop a⟩ (.slice V6 (s.l.length - a) (cV - a)))) B (mvS s pi pt f) := by rw [hMM]; exact ⟨⟨_, _, hrow, EL7.out.fr enEl_ok F9 (by decide) (by decide)⟩, hB1⟩
        go_end0
        exact ⟨T1, FF7.out.trans (F9.mono fun _ h => .inr h), .inl ⟨_, rfl, rfl, hst⟩⟩
      | false =>
        go_upto_region 6 with fail
        rw [st_set5 R5.out []]
        clear c0 c1 c2 c3 c4 c5 z5
        have hdl : ([] : List En).length = 0 := rfl
        obtain ⟨w6, hw6⟩ : ∃ w6, w6 = w5.setRow B (stC { s with l := [] } (.slice none 0 0)) := ⟨_, rfl⟩
        have F6 : Fr T1 T1 (fun m => m = 2) w5 w6 := by rw [hw6]; exact Fr.row hB1 _
        have HE6 := Lib.hid ((ElAt.nil T1 w5 1).fr enEl_ok F6 (by decide) (by decide))
        have FF6 := Lib.hid ((FF5.out.mono (fun _ h => h.elim)).trans (F6.mono (H' := Hst) fun _ h => .inr h))
        have X6 := Lib.hid (show row w6 w.heap.size = some #[.int .i64 pi, .int .i64 pt] by rw [hw6, row_setRow_other _ _ _ _ (by omega)]; exact X5.out)
        have R6 := Lib.hid (show row w6 B = some (stC { s with l := [] } (.slice none 0 0)) by rw [hw6]; exact row_setRow R5.out _)
        rw [← hw6]
        clear hw6 F6
        refine flow_free [0, 1, 2, 3, 5, 7] [([4, 6, 8, 9], 10, false), ([11, 12], 13, false), ([14, 15], 16, true)] [] (fun y => row y w.heap.size = some #[.int .i64 pi, .int .i64 pt]) (by kernel_rfl) (by kernel_rfl) (fun _ _ _ _ _ h => h) (by rw [row_drewN]; exact X6.out) ?_
        have hne : Nonempty (In (fun _ => True)) := ⟨⟨w6, trivial⟩⟩
        simp only [pk, List.getElem?_cons_zero, List.getElem?_cons_succ]
        repeat (go_big_quiet_step (fail))
        refine wpQuiet_nil ?_
        clear hne
        have bz : Below w6.heap.size w6 (w6.drewN 1) := below_drewN (Below.refl _ _) 1
        obtain ⟨w7, hw7⟩ : ∃ w7, w7 = w6.drewN 1 := ⟨_, rfl⟩
        rw [← hw7] at bz ⊢
        have F7 : Fr T1 T1 (fun _ => False) w6 w7 := Fr.calm bz fun _ _ => rfl
        have EL7 := Lib.hid (HE6.out.fr enEl_ok F7 (fun e => e) (fun e => e))
        have FF7 := Lib.hid (FF6.out.trans (F7.mono fun _ h => h.elim))
        have X7 := Lib.hid (carry bz X6.out)
        have R7 := Lib.hid (carry bz R6.out)
        clear hw7 bz F7 HE6 FF6 X6 R6
        have hne : Nonempty (In (fun y => row y w.heap.size = some #[.int .i64 pi, .int .i64 pt])) := ⟨⟨_, X7.out⟩⟩
        have e0 : ∀ y : In (fun y => row y w.heap.size = some #[.int .i64 pi, .int .i64 pt]), y.val.cell? ⟨w.heap.size, 0, none⟩ = some (.int .i64 pi) := fun y => by rw [cell_row y.ok]; rfl
        have e1 : ∀ y : In (fun y => row y w.heap.size = some #[.int .i64 pi, .int .i64 pt]), y.val.cell? ⟨w.heap.size, 1, none⟩ = some (.int .i64 pt) := fun y => by rw [cell_row y.ok]; rfl
        have k1 : w7.cell? ⟨B, 2, none⟩ = some (.int .i64 s.i) := (st_cells R7.out).2.2.1
        have z1 := froz_row R7.out 2
        simp only [wpFl, pk, List.getElem?_cons_zero, List.getElem?_cons_succ]
        refine quiet_in ?_
        repeat (go_big_quiet_step (fail))
        refine wpQuiet_nil ?_
        go_wp2_with fail
        have X8 : row (w7.setCell ⟨B, 2, none⟩ (.int .i64 pi)) w.heap.size = some #[.int .i64 pi, .int .i64 pt] := by rw [setCell_row R7.out, row_setRow_other _ _ _ _ (by omega)]; exact X7.out
        refine ⟨fun y => row y w.heap.size = some #[.int .i64 pi, .int .i64 pt], X8, ?_⟩
        first | refine ⟨.inr ⟨X8, fun _ h => h⟩, ?_⟩ | refine ⟨⟨X8, fun _ h => h⟩, ?_⟩ | refine ⟨X8, ?_⟩ | skip
        have R8 : row (w7.setCell ⟨B, 2, none⟩ (.int .i64 pi)) B = some ((stC { s with l := [] } (.slice none 0 0)).setIfInBounds 2 (.int .i64 pi)) := by rw [setCell_row R7.out]; exact row_setRow R7.out _
        obtain ⟨w8, hw8⟩ : ∃ w8, w8 = w7.setCell ⟨B, 2, none⟩ (.int .i64 pi) := ⟨_, rfl⟩
        rw [← hw8] at X8 R8 ⊢
        have k2 : w8.cell? ⟨B, 3, none⟩ = some (.int .i64 s.t) := by rw [cell_row R8]; unfold stC; rfl
        have z2 := froz_row R8 3
        have HX8 := Lib.hid X8
        have HR8 := Lib.hid R8
        have HW8 := Lib.hid hw8
        clear X8 R8 hw8
        show wpQuiet _ _ _ _ _ _
        refine quiet_in ?_
        repeat (go_big_quiet_step (fail))
        refine wpQuiet_nil ?_
        go_wp2_with fail
        have X9 : row (w8.setCell ⟨B, 3, none⟩ (.int .i64 pt)) w.heap.size = some #[.int .i64 pi, .int .i64 pt] := by rw [setCell_row HR8.out, row_setRow_other _ _ _ _ (by omega)]; exact HX8.out
        refine ⟨fun y => row y w.heap.size = some #[.int .i64 pi, .int .i64 pt], X9, ?_⟩
        first | refine ⟨.inr ⟨X9, fun _ h => h⟩, ?_⟩ | refine ⟨⟨X9, fun _ h => h⟩, ?_⟩ | refine ⟨X9, ?_⟩ | skip
        have R9 : row (w8.setCell ⟨B, 3, none⟩ (.int .i64 pt)) B = some (((stC { s with l := [] } (.slice none 0 0)).setIfInBounds 2 (.int .i64 pi)).setIfInBounds 3 (.int .i64 pt)) := by rw [setCell_row HR8.out]; exact row_setRow HR8.out _
        obtain ⟨w9, hw9⟩ : ∃ w9, w9 = w8.setCell ⟨B, 3, none⟩ (.int .i64 pt) := ⟨_, rfl⟩
        rw [← hw9] at X9 R9 ⊢
        have k3 : w9.cell? ⟨B, 4, none⟩ = some (.int .i64 s.f) := by rw [cell_row R9]; unfold stC; rfl
        have z3 := froz_row R9 4
        have HX9 := Lib.hid X9
        have HR9 := Lib.hid R9
        have HW9 := Lib.hid hw9
        clear X9 R9 hw9
        show wpQuiet _ _ _ _ _ _
        refine quiet_in ?_
        repeat (go_big_quiet_step (fail))
        refine wpQuiet_nil ?_
        go_wp2_with fail
        first | refine ⟨fun _ => True, trivial, .inl trivial, ?_⟩ | refine ⟨fun _ => True, trivial, ?_⟩
        show wpQuiet _ _ _ _ _ _
        refine quiet_in ?_
        refine wpQuiet_nil ?_
        have hend : w9.setCell ⟨B, 4, none⟩ (.int .i64 f) = w7.setRow B (stC ⟨s.a, s.b, pi, pt, f, ([] : List En)⟩ (.slice none 0 0)) := by
          rw [setCell_row HR9.out, HW9.out, setCell_row HR8.out, setRow_setRow, HW8.out, setCell_row R7.out, setRow_setRow]
          unfold stC
          rfl
        rw [hend]
        have F9 : Fr T1 T1 (fun m => m = 2) w7 (w7.setRow B (stC ⟨s.a, s.b, pi, pt, f, ([] : List En)⟩ (.slice none 0 0))) := Fr.row hB1 _
        have hMM : mvS s pi pt f = ⟨s.a, s.b, pi, pt, f, ([] : List En)⟩ := by rw [HM.out, HY.out]; rfl
        have hrow : row (w7.setRow B (stC ⟨s.a, s.b, pi, pt, f, ([] : List En)⟩ (.slice none 0 0))) B = some (stC ⟨s.a, s.b, pi, pt, f, ([] : List En)⟩ (.slice none (([] : List En)).length 0)) := by rw [hdl]; exact row_setRow R7.out _
        have hst : StAt T1 (w7.setRow B (stC ⟨s.a, s.b, pi, pt, f, ([] : List En)⟩ (.slice none 0 0))) B (mvS s pi pt f) := by rw [hMM]; exact ⟨⟨_, _, hrow, EL7.out.fr enEl_ok F9 (by decide) (by decide)⟩, hB1⟩
        go_end0
        exact ⟨T1, FF7.out.trans (F9.mono fun _ h => .inr h), .inl ⟨_, rfl, rfl, hst⟩⟩
    · have hd : decide ((a : Int) ≤ (s.l.length : Int)) = false := by simp; omega
      have hd2 : decide (a ≤ s.l.length) = false := by simp; omega
      have HY := Lib.hid (show mvT s pi pt = false by rw [HTT.out, hd2]; rfl)
      go_upto_region 3 with fail
      refine flow_seen [([0, 1, 2, 3, 4, 5, 6, 7, 8, 9, 11], 10, false)] [12, 13] (by kernel_rfl) (by kernel_rfl) (fun _ _ _ _ _ h => h) fun Z => ?_
      have R4 := carry Z.below HR3.out
      have X4 := carry Z.below HX3.out
      have B4 := Lib.hid (onto B3.out B3.out.size Z.below)
      have F4 : Fr T1 T1 (fun _ => False) w3 Z.val := Fr.calm Z.below fun _ _ => rfl
      have EL4 := Lib.hid (EL3.out.fr enEl_ok F4 (fun e => e) (fun e => e))
      have FF4 := Lib.hid (FF3.out.trans F4)
      obtain ⟨w4, hw4⟩ : ∃ w4, w4 = Z.val := ⟨_, rfl⟩
      rw [← hw4] at R4 X4 B4 EL4 FF4 ⊢
      clear hw4 Z F4 EL3 FF3 HR3 HX3 B3
      have HR4 := Lib.hid R4
      have HX4 := Lib.hid X4
      have dd := fun x : After w4 => st_cells (After.row R4 x)
      simp only [wpFs, pk, List.getElem?_cons_zero, List.getElem?_cons_succ]
      repeat (go_big_quiet_step (fail))
      refine wpQuiet_nil ?_
      clear dd R4 X4
      go_wp2_with fail
      refine ⟨.inr (Below.refl _ _), ?_⟩
      show wpQuiet _ _ _ _ _ _
      repeat (go_big_quiet_step (fail))
      refine wpQuiet_nil ?_
      obtain ⟨c0, c1, c2, c3, c4, c5⟩ := st_cells HR4.out
      have z5 := froz_row HR4.out 5
      go_upto_region 6 with fail
      rw [st_set5 HR4.out []]
      clear c0 c1 c2 c3 c4 c5 z5
      have hdl : ([] : List En).length = 0 := rfl
      obtain ⟨w6, hw6⟩ : ∃ w6, w6 = w4.setRow B (stC { s with l := [] } (.slice none 0 0)) := ⟨_, rfl⟩
      have F6 : Fr T1 T1 (fun m => m = 2) w4 w6 := by rw [hw6]; exact Fr.row hB1 _
      have HE6 := Lib.hid ((ElAt.nil T1 w4 1).fr enEl_ok F6 (by decide) (by decide))
      have FF6 := Lib.hid ((FF4.out.mono (fun _ h => h.elim)).trans (F6.mono (H' := Hst) fun _ h => .inr h))
      have X6 := Lib.hid (show row w6 w.heap.size = some #[.int .i64 pi, .int .i64 pt] by rw [hw6, row_setRow_other _ _ _ _ (by omega)]; exact HX4.out)
      have R6 := Lib.hid (show row w6 B = some (stC { s with l := [] } (.slice none 0 0)) by rw [hw6]; exact row_setRow HR4.out _)
      rw [← hw6]
      clear hw6 F6
      refine flow_free [0, 1, 2, 3, 5, 7] [([4, 6, 8, 9], 10, false), ([11, 12], 13, false), ([14, 15], 16, true)] [] (fun y => row y w.heap.size = some #[.int .i64 pi, .int .i64 pt]) (by kernel_rfl) (by kernel_rfl) (fun _ _ _ _ _ h => h) (by rw [row_drewN]; exact X6.out) ?_
      have hne : Nonempty (In (fun _ => True)) := ⟨⟨w6, trivial⟩⟩
      simp only [pk, List.getElem?_cons_zero, List.getElem?_cons_succ]
      repeat (go_big_quiet_step (fail))
      refine wpQuiet_nil ?_
      clear hne
      have bz : Below w6.heap.size w6 (w6.drewN 1) := below_drewN (Below.refl _ _) 1
      obtain ⟨w7, hw7⟩ : ∃ w7, w7 = w6.drewN 1 := ⟨_, rfl⟩
      rw [← hw7] at bz ⊢
      have F7 : Fr T1 T1 (fun _ => False) w6 w7 := Fr.calm bz fun _ _ => rfl
      have EL7 := Lib.hid (HE6.out.fr enEl_ok F7 (fun e => e) (fun e => e))
      have FF7 := Lib.hid (FF6.out.trans (F7.mono fun _ h => h.elim))
      have X7 := Lib.hid (carry bz X6.out)
      have R7 := Lib.hid (carry bz R6.out)
      clear hw7 bz F7 HE6 FF6 X6 R6
      have hne : Nonempty (In (fun y => row y w.heap.size = some #[.int .i64 pi, .int .i64 pt])) := ⟨⟨_, X7.out⟩⟩
      have e0 : ∀ y : In (fun y => row y w.heap.size = some #[.int .i64 pi, .int .i64 pt]), y.val.cell? ⟨w.heap.size, 0, none⟩ = some (.int .i64 pi) := fun y => by rw [cell_row y.ok]; rfl
      have e1 : ∀ y : In (fun y => row y w.heap.size = some #[.int .i64 pi, .int .i64 pt]), y.val.cell? ⟨w.heap.size, 1, none⟩ = some (.int .i64 pt) := fun y => by rw [cell_row y.ok]; rfl
      have k1 : w7.cell? ⟨B, 2, none⟩ = some (.int .i64 s.i) := (st_cells R7.out).2.2.1
      have z1 := froz_row R7.out 2
      simp only [wpFl, pk, List.getElem?_cons_zero, List.getElem?_cons_succ]
      refine quiet_in ?_
      repeat (go_big_quiet_step (fail))
      refine wpQuiet_nil ?_
      go_wp2_with fail
      have X8 : row (w7.setCell ⟨B, 2, none⟩ (.int .i64 pi)) w.heap.size = some #[.int .i64 pi, .int .i64 pt] := by rw [setCell_row R7.out, row_setRow_other _ _ _ _ (by omega)]; exact X7.out
      refine ⟨fun y => row y w.heap.size = some #[.int .i64 pi, .int .i64 pt], X8, ?_⟩
      first | refine ⟨.inr ⟨X8, fun _ h => h⟩, ?_⟩ | refine ⟨⟨X8, fun _ h => h⟩, ?_⟩ | refine ⟨X8, ?_⟩ | skip
      have R8 : row (w7.setCell ⟨B, 2, none⟩ (.int .i64 pi)) B = some ((stC { s with l := [] } (.slice none 0 0)).setIfInBounds 2 (.int .i64 pi)) := by rw [setCell_row R7.out]; exact row_setRow R7.out _
      obtain ⟨w8, hw8⟩ : ∃ w8, w8 = w7.setCell ⟨B, 2, none⟩ (.int .i64 pi) := ⟨_, rfl⟩
      rw [← hw8] at X8 R8 ⊢
      have k2 : w8.cell? ⟨B, 3, none⟩ = some (.int .i64 s.t) := by rw [cell_row R8]; unfold stC; rfl
      have z2 := froz_row R8 3
      have HX8 := Lib.hid X8
      have HR8 := Lib.hid R8
      have HW8 := Lib.hid hw8
      clear X8 R8 hw8
      show wpQuiet _ _ _ _ _ _
      refine quiet_in ?_
      repeat (go_big_quiet_step (fail))
      refine wpQuiet_nil ?_
      go_wp2_with fail
      have X9 : row (w8.setCell ⟨B, 3, none⟩ (.int .i64 pt)) w.heap.size = some #[.int .i64 pi, .int .i64 pt] := by rw [setCell_row HR8.out, row_setRow_other _ _ _ _ (by omega)]; exact HX8.out
      refine ⟨fun y => row y w.heap.size = some #[.int .i64 pi, .int .i64 pt], X9, ?_⟩
      first | refine ⟨.inr ⟨X9, fun _ h => h⟩, ?_⟩ | refine ⟨⟨X9, fun _ h => h⟩, ?_⟩ | refine ⟨X9, ?_⟩ | skip
      have R9 : row (w8.setCell ⟨B, 3, none⟩ (.int .i64 pt)) B = some (((stC { s with l := [] } (.slice none 0 0)).setIfInBounds 2 (.int .i64 pi)).setIfInBounds 3 (.int .i64 pt)) := by rw [setCell_row HR8.out]; exact row_setRow HR8.out _
      obtain ⟨w9, hw9⟩ : ∃ w9, w9 = w8.setCell ⟨B, 3, none⟩ (.int .i64 pt) := ⟨_, rfl⟩
      rw [← hw9] at X9 R9 ⊢
      have k3 : w9.cell? ⟨B, 4, none⟩ = some (.int .i64 s.f) := by rw [cell_row R9]; unfold stC; rfl
      have z3 := froz_row R9 4
      have HX9 := Lib.hid X9
      have HR9 := Lib.hid R9
      have HW9 := Lib.hid hw9
      clear X9 R9 hw9
      show wpQuiet _ _ _ _ _ _
      refine quiet_in ?_
      repeat (go_big_quiet_step (fail))
      refine wpQuiet_nil ?_
      go_wp2_with fail
      first | refine ⟨fun _ => True, trivial, .inl trivial, ?_⟩ | refine ⟨fun _ => True, trivial, ?_⟩
      show wpQuiet _ _ _ _ _ _
      refine quiet_in ?_
      refine wpQuiet_nil ?_
      have hend : w9.setCell ⟨B, 4, none⟩ (.int .i64 f) = w7.setRow B (stC ⟨s.a, s.b, pi, pt, f, ([] : List En)⟩ (.slice none 0 0)) := by
        rw [setCell_row HR9.out, HW9.out, setCell_row HR8.out, setRow_setRow, HW8.out, setCell_row R7.out, setRow_setRow]
        unfold stC
        rfl
      rw [hend]
      have F9 : Fr T1 T1 (fun m => m = 2) w7 (w7.setRow B (stC ⟨s.a, s.b, pi, pt, f, ([] : List En)⟩ (.slice none 0 0))) := Fr.row hB1 _
      have hMM : mvS s pi pt f = ⟨s.a, s.b, pi, pt, f, ([] : List En)⟩ := by rw [HM.out, HY.out]; rfl
      have hrow : row (w7.setRow B (stC ⟨s.a, s.b, pi, pt, f, ([] : List En)⟩ (.slice none 0 0))) B = some (stC ⟨s.a, s.b, pi, pt, f, ([] : List En)⟩ (.slice none (([] : List En)).length 0)) := by rw [hdl]; exact row_setRow R7.out _
      have hst : StAt T1 (w7.setRow B (stC ⟨s.a, s.b, pi, pt, f, ([] : List En)⟩ (.slice none 0 0))) B (mvS s pi pt f) := by rw [hMM]; exact ⟨⟨_, _, hrow, EL7.out.fr enEl_ok F9 (by decide) (by decide)⟩, hB1⟩
      go_end0
      exact ⟨T1, FF7.out.trans (F9.mono fun _ h => .inr h), .inl ⟨_, rfl, rfl, hst⟩⟩
end Go.Proofs.YtdfcldomjjcidaaGreatDoor.Oct
