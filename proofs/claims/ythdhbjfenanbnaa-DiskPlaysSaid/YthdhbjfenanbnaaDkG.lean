/- Contracts: disk's file: settle, content. -/
import Derived.Test.YthdhbjfenanbnaaDkF
import Derived.Test.YthdhbjfenanbnaaFlowE
namespace Go.Proofs.Ythdhbjfenanbnaa.Oct
open Go.ChangeShapes Go.WideShapes Go.ChangeAt Go.RowKit
set_option linter.unusedVariables false

set_option maxHeartbeats 2000000 in
theorem settle_any (T : Mk) (tb td tp B o c : Nat) (A : Option Addr) (C : Array Value) (vd : Value) (s : By) (l : List Ch) (w : World) (hr : row w B = some C) (hT : T B = tb) (h1 : C[o]? = some vd) (h2 : C[o + 1]? = some (.slice A l.length c))
    (hd : OwB T w td 5 vd s) (hp : ElSl 2 chE T w tp A c l) (hok : Okc s l) (ht : td ≠ tb) (ht2 : tp ≠ td) (ht0 : 0 ≠ td) (hl : l.length ≤ 1000000000000) :
    Calls Try.prog 41 #[.pointer (some ⟨B, o, none⟩)] w fun e w' => e = .returned (.tuple #[]) ∧ ∃ T' v', Fr T T' (fun y => y = tb ∨ y = td) w w' ∧ row w' B = some ((C.setIfInBounds o v').setIfInBounds (o + 1) (.slice none 0 0)) ∧ OwB T' w' td 5 v' (has s l) := by
  have HR := Lib.hid hr
  have HT := Lib.hid hT
  have H1 := Lib.hid h1
  have H2 := Lib.hid h2
  have HD := Lib.hid hd
  have HP := Lib.hid hp
  have HO := Lib.hid hok
  have hlen := hok.first
  have hM := maxF_eq
  clear hr hT h1 h2 hd hp hok
  go_enter Try.func41, Try.ntmps41
  go_wp2_with fail
  have zB := row_lt HR.out
  refine flow_free [0, 1] [([2, 3, 4, 5, 6, 7, 8, 9], 10, true), ([11, 12], 13, true), ([14, 15], 16, true)] [] (fun y => row y B = some C) (by kernel_rfl) (by kernel_rfl) (fun _ _ _ _ _ h => h) (by rw [row_drewN]; exact HR.out) ?_
  have hne : Nonempty (In (fun _ => True)) := ⟨⟨w, trivial⟩⟩
  simp only [pk, List.getElem?_cons_zero, List.getElem?_cons_succ]
  repeat (go_big_quiet_step (fail))
  refine wpQuiet_nil ?_
  clear hne
  have B1 := Lib.hid (below_drewN (Below.refl w.heap.size w) 1)
  have R1 := Lib.hid (carry B1.out HR.out)
  obtain ⟨w1, hw1⟩ : ∃ w1, w1 = w.drewN 1 := ⟨_, rfl⟩
  rw [← hw1] at B1 R1 ⊢
  clear hw1
  have hne : Nonempty (In (fun y => row y B = some C)) := ⟨⟨w1, R1.out⟩⟩
  have e1 : ∀ y : In (fun y => row y B = some C), y.val.cell? ⟨B, o, none⟩ = some vd := fun y => by rw [cell_row y.ok]; exact H1.out
  have e2 : ∀ y : In (fun y => row y B = some C), y.val.cell? ⟨B, o + 1, none⟩ = some (.slice A l.length c) := fun y => by rw [cell_row y.ok]; exact H2.out
  simp only [wpFl, pk, List.getElem?_cons_zero, List.getElem?_cons_succ]
  refine quiet_in ?_
  repeat (go_big_quiet_step (fail))
  refine wpQuiet_nil ?_
  clear e1 e2 hne
  have F1 := Lib.hid (Fr.new (T := T) (H := fun y => y = tb ∨ y = td) B1.out td)
  have D1 := Lib.hid (HD.out.fr (Fr.new (T := T) (H := fun _ => False) B1.out td) (fun e => e))
  have P1 := Lib.hid (HP.out.fr chE_ok (Fr.new (T := T) (H := fun _ => False) B1.out td) (fun e => e) (fun e => e))
  go_wp2_with fail
  refine (after_any _ td tp c vd A s l w1 D1.out P1.out HO.out ht2 ht0 hl).mono ?_
  rintro e w2 ⟨v2, rfl, T2, f2, o2⟩
  have F2 := Lib.hid (F1.out.trans (f2.mono fun y h => .inr h))
  have R2 := Lib.hid (f2.rowAt R1.out (by rw [F1.out.tag B zB, HT.out]; exact fun e => ht e.symm))
  have O2 := Lib.hid o2
  obtain ⟨A2, c2, hv2, -, -⟩ := o2.rd
  clear f2 o2 D1 P1 R1 F1
  go_wp2_with fail
  subst hv2
  have hne : Nonempty (In (fun _ => True)) := ⟨⟨w, trivial⟩⟩
  first | refine ⟨fun _ => True, trivial, .inl trivial, ?_⟩ | refine ⟨fun _ => True, trivial, ?_⟩
  show wpQuiet _ _ _ _ _ _
  refine quiet_in ?_
  repeat (go_big_quiet_step (fail))
  refine wpQuiet_nil ?_
  have k0 : w2.cell? ⟨B, o, none⟩ = some vd := by rw [cell_row R2.out]; exact H1.out
  have k1 := froz_row R2.out o
  have k2 := Lib.hid (setCell_row R2.out o (.slice A2 (has s l).length c2))
  go_wp2_with fail
  rw [k2.out]
  have R3 := Lib.hid (row_setRow R2.out (C.setIfInBounds o (.slice A2 (has s l).length c2)))
  have hTB : T2 B = tb := by rw [F2.out.tag B zB]; exact HT.out
  have F3 := Lib.hid (F2.out.trans (Fr.row (T := T2) (w := w2) (H := fun y => y = tb ∨ y = td) (B := B) (.inl hTB) (C.setIfInBounds o (.slice A2 (has s l).length c2))))
  have O3 := Lib.hid (O2.out.fr (Fr.row (T := T2) (w := w2) (H := fun y => y = tb) (B := B) hTB (C.setIfInBounds o (.slice A2 (has s l).length c2))) ht)
  obtain ⟨w3, hw3⟩ : ∃ w3, w3 = w2.setRow B (C.setIfInBounds o (.slice A2 (has s l).length c2)) := ⟨_, rfl⟩
  rw [← hw3] at R3 F3 O3 ⊢
  clear hw3 k0 k1 k2 R2 F2 O2
  first | refine ⟨fun _ => True, trivial, .inl trivial, ?_⟩ | refine ⟨fun _ => True, trivial, ?_⟩
  show wpQuiet _ _ _ _ _ _
  refine quiet_in ?_
  repeat (go_big_quiet_step (fail))
  refine wpQuiet_nil ?_
  have k0 : w3.cell? ⟨B, o + 1, none⟩ = some (.slice A l.length c) := by rw [cell_row R3.out, Array.getElem?_setIfInBounds_ne (by omega)]; exact H2.out
  have k1 := froz_row R3.out (o + 1)
  have k2 := Lib.hid (setCell_row R3.out (o + 1) (.slice none 0 0))
  go_wp2_with fail
  rw [k2.out]
  have R4 := Lib.hid (row_setRow R3.out ((C.setIfInBounds o (.slice A2 (has s l).length c2)).setIfInBounds (o + 1) (.slice none 0 0)))
  have F4 := Lib.hid (F3.out.trans (Fr.row (T := T2) (w := w3) (H := fun y => y = tb ∨ y = td) (B := B) (.inl hTB) ((C.setIfInBounds o (.slice A2 (has s l).length c2)).setIfInBounds (o + 1) (.slice none 0 0))))
  have O4 := Lib.hid (O3.out.fr (Fr.row (T := T2) (w := w3) (H := fun y => y = tb) (B := B) hTB ((C.setIfInBounds o (.slice A2 (has s l).length c2)).setIfInBounds (o + 1) (.slice none 0 0))) ht)
  first | refine ⟨fun _ => True, trivial, .inl trivial, ?_⟩ | refine ⟨fun _ => True, trivial, ?_⟩
  show wpQuiet _ _ _ _ _ _
  refine wpQuiet_nil ?_
  go_wp2_with fail
  go_end0
  exact ⟨rfl, _, _, F4.out, R4.out, O4.out⟩
theorem Own.raise {w : World} {D : Nat} {u : TypeId} {v : Value} {n : Nat} {f : Bf} (h : Own w 0 u v n f) (hg : ∀ g, v.ownBlock = some g → D ≤ g) : Own w D u v n f := by
  unfold Own at h ⊢
  refine ⟨h.1, ?_⟩
  rcases h.2 with hn | ⟨g, cap, cur, rfl, _, rest⟩
  · exact .inl hn
  · exact .inr ⟨g, cap, cur, rfl, hg g rfl, rest⟩
/-- marks: 0 stays, all others are 1 -/
def one1 (T : Mk) : Mk := fun k => if T k = 0 then 0 else 1
theorem one1_le (T : Mk) (k : Nat) : one1 T k ≤ 1 := by unfold one1; split <;> omega
theorem one1_0 {T : Mk} {k : Nat} (h : T k = 0) : one1 T k = 0 := if_pos h
def oneT (t : Nat) : Nat := if t = 0 then 0 else 1
theorem one1_t {T : Mk} {k t : Nat} (h : T k = t) : one1 T k = oneT t := by subst h; rfl
theorem oneT_le (t : Nat) : oneT t ≤ 1 := by unfold oneT; split <;> omega

set_option maxHeartbeats 2000000 in
theorem content_any (T : Mk) (td tp B o c1 c : Nat) (A1 A : Option Addr) (C : Array Value) (s : By) (l : List Ch) (w : World) (hr : row w B = some C) (h1 : C[o]? = some (.slice A1 s.length c1)) (h2 : C[o + 1]? = some (.slice A l.length c))
    (hd : RdS T w td A1 s.length c1 (lf s)) (hp : ElSl 2 chE T w tp A c l) (hok : Okc s l) (hl : l.length ≤ 1000000000000) :
    Calls Try.prog 38 #[.pointer (some ⟨B, o, none⟩)] w fun e w' => ∃ v, e = .returned v ∧ Own w' w.heap.size 5 v (has s l).length (lf (has s l)) ∧ Below w.heap.size w w' := by
  have HR := Lib.hid hr
  have H1 := Lib.hid h1
  have H2 := Lib.hid h2
  have HD := Lib.hid hd.sl
  have HP := Lib.hid (hp.re chE_ok (T2 := one1 T) (t2 := oneT tp) (fun _ => one1_t) (fun _ => one1_0))
  have HO := Lib.hid hok
  have hlen := hok.first
  have hM := maxF_eq
  clear hr h1 h2 hd hp hok
  go_enter Try.func38, Try.ntmps38
  go_wp2_with fail
  refine flow_seen [([0, 1, 2, 3, 5, 6, 7, 8], 4, false), ([], 9, true)] [10] (by kernel_rfl) (by kernel_rfl) (fun _ _ _ _ _ h => h) fun X => ?_
  have B1 := Lib.hid X.below
  have R1 := carry X.below HR.out
  obtain ⟨w1, hw1⟩ : ∃ w1, w1 = X.val := ⟨_, rfl⟩
  rw [← hw1] at B1 R1 ⊢
  clear hw1 X
  have e1 : ∀ y : After w1, y.val.cell? ⟨B, o, none⟩ = some (.slice A1 s.length c1) := fun y => by rw [cell_row (After.row R1 y)]; exact H1.out
  have e2 : ∀ y : After w1, y.val.cell? ⟨B, o + 1, none⟩ = some (.slice A l.length c) := fun y => by rw [cell_row (After.row R1 y)]; exact H2.out
  simp only [wpFs, pk, List.getElem?_cons_zero, List.getElem?_cons_succ]
  repeat (go_big_quiet_step (fail))
  refine wpQuiet_nil ?_
  clear e1 e2
  have HC := Lib.hid (clone_any s.length c1 A1 (lf s) w1 ((HD.out.below B1.out).more B1.out.size) (by omega))
  go_wp2_with fail
  refine HC.out.mono ?_
  rintro e w2 ⟨v2, rfl, o2, b2⟩
  have B2 := Lib.hid (onto B1.out B1.out.size b2)
  have O2 := Lib.hid (OwB.of_new (l := s) o2 rfl (fun _ _ => rfl) (paint (one1 T) w.heap.size 1) 2)
  have Q2 := Lib.hid (HP.out.fr chE_ok ((Fr.new (T := one1 T) (H := fun _ => False) B1.out 1).trans (Fr.calm (T' := paint (paint (one1 T) w.heap.size 1) w1.heap.size 2) b2 fun k hk => paint_old hk)) (fun e => e) (fun e => e))
  clear HC o2 R1
  go_wp2_with fail
  first | refine ⟨.inr b2, ?_⟩ | refine ⟨b2, ?_⟩
  show wpQuiet _ _ _ _ _ _
  refine wpQuiet_nil ?_
  go_wp2_with fail
  have h12 := oneT_le tp
  refine (after_any _ 2 (oneT tp) c v2 A s l w2 O2.out Q2.out HO.out (by omega) (by omega) hl).mono ?_
  rintro e w3 ⟨v3, rfl, T3, f3, o3⟩
  have hlow : ∀ k, k < w.heap.size → paint (paint (one1 T) w.heap.size 1) w1.heap.size 2 k ≤ 1 := fun k hk => by
    rw [paint_old (by have := B1.out.size; omega), paint_old hk]
    exact one1_le T k
  have b3 := f3.below (D := w.heap.size) B2.out.size (fun k hk e => by have := hlow k hk; omega)
  have B3 := Lib.hid (B2.out.trans b3)
  have O3 := Lib.hid (o3.own.raise (D := w.heap.size) (fun g hg => by
    have h1 := o3.tg g hg
    rcases Nat.lt_or_ge g w.heap.size with h | h
    · have := hlow g h
      rw [f3.tag g (by have := B2.out.size; omega)] at h1
      omega
    · exact h))
  clear f3 o3 Q2 O2 hlow
  go_wp2_with fail
  first | refine ⟨.inl trivial, ?_⟩ | skip
  show wpQuiet _ _ _ _ _ _
  repeat (go_big_quiet_step (fail))
  refine wpQuiet_nil ?_
  go_wp2_with fail
  go_ret
  exact ⟨_, rfl, O3.out, B3.out⟩
end Go.Proofs.Ythdhbjfenanbnaa.Oct
