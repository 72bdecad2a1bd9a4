/- Contracts: disk's file: size, pend. -/
import Derived.Test.YthdhbjfenanbnaaDkA
import Derived.Test.YthdhbjfenanbnaaQIn
namespace Go.Proofs.Ythdhbjfenanbnaa.Oct
open Go.ChangeShapes Go.WideShapes Go.ChangeAt Go.RowKit
set_option linter.unusedVariables false

/-- what is below w's size is as it was -/
def Cb (w : World) : World → Prop := fun y => Below w.heap.size w y
theorem Cb.alloc {w : World} (y : World) (z : Obj) (h : Cb w y) : Cb w (y.alloc z) := Below.alloc h (Below.size h) z
/-- an address in a block that was there -/
theorem Cb.cell {w : World} (x : In (Cb w)) {g o : Nat} {v : Value} (h : w.cell? ⟨g, o, none⟩ = some v) : x.val.cell? ⟨g, o, none⟩ = some v := by
  rw [Below.cell x.ok (p := ⟨g, o, none⟩) (World.block_lt_of_cell? w _ h)]; exact h

theorem set2 {w : World} {p : Nat} {a b x y : Value} (h : row w p = some #[a, b]) : (w.setCell ⟨p, 0, none⟩ x).setCell ⟨p, 1, none⟩ y = w.setRow p #[x, y] := by
  rw [setCell_row h, setCell_row (row_setRow h _), setRow_setRow]; rfl
set_option maxHeartbeats 2000000 in
theorem size_any (T : Mk) (td tp c1 c2 B o : Nat) (A1 A2 : Option Addr) (C : Array Value) (s : By) (l : List Ch) (w : World) (hr : row w B = some C) (h1 : C[o]? = some (.slice A1 s.length c1)) (h2 : C[o + 1]? = some (.slice A2 l.length c2)) (hs : s.length ≤ c1)
    (hp : ElSl 2 chE T w tp A2 c2 l) (hok : Okc s l) (hn : l.length ≤ 1000000000000) :
    Calls Try.prog 28 #[.pointer (some ⟨B, o, none⟩)] w fun e w' => e = .returned (.int .i64 ((has s l).length : Int)) ∧ Below w.heap.size w w' := by
  have hM := maxF_eq
  have hl0 := hok.first
  have q1 := (cell_row hr o).trans h1
  have q2 := (cell_row hr (o + 1)).trans h2
  by_cases h0 : l.length = 0
  · have hl : l = [] := List.eq_nil_of_length_eq_zero h0
    subst hl
    clear hp h1 h2 hr hn
    go_enter Try.func28, Try.ntmps28
    go_wp2_with fail
    go_ret
    exact ⟨rfl, Below.refl _ _⟩
  · obtain ⟨J, hJ⟩ : ∃ J, l.length = J + 1 := ⟨l.length - 1, by omega⟩
    obtain ⟨g, o2, hA, hg, hT, hcl⟩ := hp.at_ (by omega)
    obtain ⟨vs, ⟨A3, c3, rfl, hr3⟩, hcs⟩ := hcl J (by omega)
    have q3 := hcs 0 (by omega)
    have q4 := hcs 1 (by omega)
    simp only [List.getElem?_cons_zero, List.getElem?_cons_succ, Nat.add_zero] at q3 q4
    have hlen := has_len hok J hJ.symm
    have hfit := (hok.at_ J (by omega)).2
    obtain ⟨x, hx⟩ : ∃ x, x = l[J] := ⟨_, rfl⟩
    rw [← hx] at q3 q4 hlen hfit
    rw [hJ] at q2 hn
    rw [hlen]
    have hJ1 : (J : Int) + 1 - 1 = J := by omega
    have Q1 := Lib.hid q1
    subst hA
    clear hcl hcs hx hlen hr3 hp hok h1 h2 hJ h0 q1
    go_enter Try.func28, Try.ntmps28
    go_wp2_with fail
    refine flow_many [.inl [0, 1, 2, 3, 4, 5, 6, 7, 8, 9, 10, 11], pS 12, pU 12, pE 13] (Cb w) [] (by kernel_rfl) (by kernel_rfl) (fun _ _ _ _ _ h => h) (fun _ _ _ _ _ h => h) Cb.alloc (below_drewN (Below.refl _ _) 1) (fun k hk => by cases hk) ?_
    have hne : Nonempty (In (Cb w)) := ⟨⟨w, Below.refl _ _⟩⟩
    have e2 : ∀ y : In (Cb w), y.val.cell? ⟨B, o + 1, none⟩ = some (.slice (some ⟨g, o2, none⟩) (J + 1) c2) := fun y => Cb.cell y q2
    have e3 : ∀ y : In (Cb w), y.val.cell? ⟨g, o2 + J * 2, none⟩ = some (.int .i64 (x.k : Int)) := fun y => Cb.cell y q3
    have e4 : ∀ y : In (Cb w), y.val.cell? ⟨g, o2 + J * 2 + 1, none⟩ = some (.slice A3 x.b.length c3) := fun y => Cb.cell y q4
    have B2 := Lib.hid (below_drewN (Below.refl w.heap.size w) 1)
    obtain ⟨w2, hw2⟩ : ∃ w2, w2 = w.drewN 1 := ⟨_, rfl⟩
    rw [← hw2] at B2 ⊢
    clear hw2 q2 q3 q4
    refine wpM_q ?_
    simp only [pk, List.getElem?_cons_zero, List.getElem?_cons_succ]
    repeat (go_big_quiet_step (fail))
    refine wpQuiet_nil ?_
    clear e2 e3 e4
    refine wpM_s (fun p => .pointer (some ⟨p, 0, none⟩)) (.cells #[.int .i64 0, .slice none 0 0] 67) _ rfl rfl (fun w => by simp only [execOp, go_sem, Sem.run_bind, Result.andThen]; rfl) ?_
    refine wpM_u _ _ _ 3 (.head _) rfl rfl (fun y hy p hp1 hp2 hp3 hp4 => ?_)
    refine wpM_e _ rfl (fun y2 hy2 => ?_)
    have B3 := Lib.hid hy2
    have R3 := Lib.hid (carry y2.below (row_of hp4))
    obtain ⟨w3, hw3⟩ : ∃ w3, w3 = y2.val := ⟨_, rfl⟩
    rw [← hw3] at B3 R3 ⊢
    clear hw3 hy2 hy hp3 hp4 hp2 B2
    have k0 : w3.cell? ⟨p, 0, none⟩ = some (.int .i64 0) := by rw [cell_row R3.out]; rfl
    have k1 : w3.cell? ⟨p, 1, none⟩ = some (.slice none 0 0) := by rw [cell_row R3.out]; rfl
    have z0 := froz_row R3.out 0
    have z1 := froz_row R3.out 1
    go_wp2_with fail
    rw [set2 R3.out]
    have R4 := Lib.hid (row_setRow R3.out #[.int .i64 (x.k : Int), .slice A3 x.b.length c3])
    have B4 := Lib.hid (show Below w.heap.size w (w3.setRow p #[.int .i64 (x.k : Int), .slice A3 x.b.length c3]) from below_setRow B3.out hp1 _)
    refine same_class (C := Cb w) [] (Frm.row w3 _ (by simp)) hot_none B4.out Cb.alloc ?_
    obtain ⟨w4, hw4⟩ : ∃ w4, w4 = w3.setRow p #[.int .i64 (x.k : Int), .slice A3 x.b.length c3] := ⟨_, rfl⟩
    rw [← hw4] at R4 B4 ⊢
    clear hw4 k0 k1 z0 z1 R3 B3
    refine wpM_nil (fun y3 => ?_)
    have R5 := carry y3.below R4.out
    have B5 := Lib.hid (onto B4.out B4.out.size y3.below)
    obtain ⟨w5, hw5⟩ : ∃ w5, w5 = y3.val := ⟨_, rfl⟩
    rw [← hw5] at R5 B5 ⊢
    have k0 : w5.cell? ⟨p, 0, none⟩ = some (.int .i64 (x.k : Int)) := by rw [cell_row R5]; rfl
    have k1 : w5.cell? ⟨p, 1, none⟩ = some (.slice A3 x.b.length c3) := by rw [cell_row R5]; rfl
    clear hw5 R4 B4
    go_wp2_with fail
    go_ret
    exact ⟨by simp, B5.out⟩
end Go.Proofs.Ythdhbjfenanbnaa.Oct
