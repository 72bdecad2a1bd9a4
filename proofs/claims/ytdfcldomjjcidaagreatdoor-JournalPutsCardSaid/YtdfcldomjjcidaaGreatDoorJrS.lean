/- Contracts: journal's follow, Fold. -/
import Derived.Test.YtdfcldomjjcidaaGreatDoorJrR
namespace Go.Proofs.YtdfcldomjjcidaaGreatDoor.Oct
open Go.ChangeShapes Go.WideShapes Go.ChangeAt Go.RowKit
set_option linter.unusedVariables false

def stp (s : St) (r : Rc) : Option St := if r.k = 1 then some { s with a := r.a, b := r.b } else if r.k = 2 then layS s r.i r.e else if r.k = 3 then some (mvS s r.i r.t r.n) else some s
theorem st_setH {w : World} {B : Nat} {s : St} {V : Value} (h : row w B = some (stC s V)) (a b : Int) : (w.setCell ⟨B, 0, none⟩ (.int .i64 a)).setCell ⟨B, 1, none⟩ (.int .i64 b) = w.setRow B (stC { s with a := a, b := b } V) := by
  rw [setCell_row h, setCell_row (row_setRow h _), setRow_setRow]; unfold stC; rfl
/-- what a record may be that a state follows -/
structure RcB (r : Rc) : Prop where
  i : -4398046511104 ≤ r.i ∧ r.i ≤ 4398046511104
  T : r.e.T ≤ 140737488355328
  n : r.e.n * 8 ≤ 140737488355328
set_option maxRecDepth 20000 in
set_option maxHeartbeats 4000000 in
theorem follow_any (T : Mk) (B : Nat) (s : St) (r : Rc) (A A' : Option Addr) (c c' : Nat) (w : World) (hS : StAt T w B s) (hE : EnR w r.e A c A' c') (hr : RcB r) (hs : -4398046511104 ≤ s.i ∧ s.i ≤ 4398046511104) (hl : s.l.length ≤ 1000000) :
    Calls Tryz.prog 33 #[.pointer (some ⟨B, 0, none⟩), .agg (rcC r (.slice A r.e.T c) (.slice A' r.e.n c'))] w (stP T B (stp s r) w) := by
  obtain ⟨w1, hw1⟩ : ∃ w1, w1 = w.alloc (.cells (rcC r (.slice A r.e.T c) (.slice A' r.e.n c')) 29) := ⟨_, rfl⟩
  have bw : Below w.heap.size w w1 := by rw [hw1]; exact (Below.refl _ _).alloc (Nat.le_refl _) _
  have rx : row w1 w.heap.size = some (rcC r (.slice A r.e.T c) (.slice A' r.e.n c')) := by rw [hw1]; exact row_alloc_at _ _ _ _ rfl
  obtain ⟨V, cV, hrB, hel⟩ := hS.ex
  have hBlt := row_lt hrB
  obtain ⟨T1, hT1⟩ : ∃ T1, T1 = paint T w.heap.size 0 := ⟨_, rfl⟩
  have F1 : Fr T T1 (fun _ => False) w w1 := by rw [hT1]; exact Fr.new bw 0
  have S1 := Lib.hid (show StAt T1 w1 B s from ⟨⟨V, cV, carry bw hrB, hel.fr enEl_ok F1 (fun e => e) (fun e => e)⟩, by rw [hT1, paint_old hBlt]; exact hS.tB⟩)
  have E1 := Lib.hid (hE.below bw)
  have FF1 := Lib.hid F1
  obtain ⟨c0, c1, c2, c3, c4, c5, c6, c7, c8, c9⟩ := rc_cells rx
  clear bw rx hrB hel hT1 F1 hS hE
  by_cases h1 : r.k = 1
  · have e1 : (r.k == 1) = true := by simp; omega
    have HP := Lib.hid (show stp s r = some { s with a := r.a, b := r.b } by unfold stp; rw [if_pos h1])
    obtain ⟨V1, cV1, R1, EL1⟩ := S1.out.ex
    obtain ⟨k0, k1, -, -, -, -⟩ := st_cells R1
    have z0 := froz_row R1 0
    have z1 := froz_row R1 1
    have HR1 := Lib.hid R1
    have HEL1 := Lib.hid EL1
    clear R1 EL1 h1
    go_enter Tryz.func33, Tryz.ntmps33
    go_upto_region 1 with fail
    simp only [← hw1]
    clear hw1
    go_wp2_with fail
    rw [st_setH HR1.out]
    have F2 : Fr T1 T1 (fun m => m = 2) w1 (w1.setRow B (stC { s with a := r.a, b := r.b } (.slice V1 s.l.length cV1))) := Fr.row S1.out.tB _
    have hst : StAt T1 (w1.setRow B (stC { s with a := r.a, b := r.b } (.slice V1 s.l.length cV1))) B { s with a := r.a, b := r.b } := ⟨⟨V1, cV1, row_setRow HR1.out _, HEL1.out.fr enEl_ok F2 (by decide) (by decide)⟩, S1.out.tB⟩
    go_end0
    exact ⟨T1, (FF1.out.mono fun _ h => h.elim).trans (F2.mono fun _ h => .inr h), .inl ⟨_, HP.out, rfl, hst⟩⟩
  have e1 : (r.k == 1) = false := by simp; omega
  by_cases h2 : r.k = 2
  · have e2 : (r.k == 2) = true := by simp; omega
    have HP := Lib.hid (show stp s r = layS s r.i r.e by unfold stp; rw [if_neg h1, if_pos h2])
    have HL := Lib.hid (lay_any T1 B s r.i r.e A A' c c' w1 S1.out E1.out hr.T hr.n hr.i hs hl)
    clear h1 h2
    go_enter Tryz.func33, Tryz.ntmps33
    go_upto_region 1 with fail
    simp only [← hw1]
    clear hw1
    go_wp2_with fail
    refine HL.out.mono ?_
    rintro e w2 ⟨T2, f2, ⟨s', hs', rfl, S2⟩ | ⟨hs', rfl⟩⟩
    · have HF := Lib.hid f2
      have HS2 := Lib.hid S2
      have HE := Lib.hid hs'
      clear f2 S2 hs' HL
      go_wp2_with fail
      go_end0
      exact ⟨T2, (FF1.out.mono fun _ h => h.elim).trans HF.out, .inl ⟨s', by rw [HP.out]; exact HE.out, rfl, HS2.out⟩⟩
    · have HF := Lib.hid f2
      have HE := Lib.hid hs'
      clear f2 hs' HL
      go_wp2_with fail
      exact ⟨rfl, T2, (FF1.out.mono fun _ h => h.elim).trans HF.out, .inr ⟨by rw [HP.out]; exact HE.out, rfl⟩⟩
  have e2 : (r.k == 2) = false := by simp; omega
  by_cases h3 : r.k = 3
  · have e3 : (r.k == 3) = true := by simp; omega
    have HP := Lib.hid (show stp s r = some (mvS s r.i r.t r.n) by unfold stp; rw [if_neg h1, if_neg h2, if_pos h3])
    have HL := Lib.hid (move_any T1 B s r.i r.t r.n w1 S1.out hr.i hs hl)
    clear h1 h2 h3
    go_enter Tryz.func33, Tryz.ntmps33
    go_upto_region 1 with fail
    simp only [← hw1]
    clear hw1
    go_wp2_with fail
    refine HL.out.mono ?_
    rintro e w2 ⟨T2, f2, ⟨s', hs', rfl, S2⟩ | ⟨hs', rfl⟩⟩
    · have HF := Lib.hid f2
      have HS2 := Lib.hid S2
      have HE := Lib.hid hs'
      clear f2 S2 hs' HL
      go_wp2_with fail
      go_end0
      exact ⟨T2, (FF1.out.mono fun _ h => h.elim).trans HF.out, .inl ⟨s', by rw [HP.out]; exact HE.out, rfl, HS2.out⟩⟩
    · cases hs'
  · have e3 : (r.k == 3) = false := by simp; omega
    have HP := Lib.hid (show stp s r = some s by unfold stp; rw [if_neg h1, if_neg h2, if_neg h3])
    clear h1 h2 h3
    go_enter Tryz.func33, Tryz.ntmps33
    go_upto_region 1 with fail
    simp only [← hw1]
    clear hw1
    go_wp2_with fail
    go_end0
    exact ⟨T1, FF1.out.mono fun _ h => h.elim, .inl ⟨s, HP.out, rfl, S1.out⟩⟩
end Go.Proofs.YtdfcldomjjcidaaGreatDoor.Oct
