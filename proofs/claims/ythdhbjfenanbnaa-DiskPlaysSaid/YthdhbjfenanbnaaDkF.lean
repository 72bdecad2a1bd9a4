/- Contracts: disk's file: pend. -/
import Derived.Test.YthdhbjfenanbnaaDkB
import Derived.Test.YthdhbjfenanbnaaDkU
namespace Go.Proofs.Ythdhbjfenanbnaa.Oct
open Go.ChangeShapes Go.WideShapes Go.ChangeAt Go.RowKit
set_option linter.unusedVariables false

/-- two blocks are known -/
def Two (a : Nat) (x : Array Value) (b : Nat) (y : Array Value) (w : World) : Prop := row w a = some x ∧ row w b = some y
section
variable {a b : Nat} {x y : Array Value} {w : World}
theorem Two.of (h1 : row w a = some x) (h2 : row w b = some y) : Two a x b y w := ⟨h1, h2⟩
theorem Two.fst (h : Two a x b y w) : row w a = some x := h.1
theorem Two.snd (h : Two a x b y w) : row w b = some y := h.2
theorem Two.alloc (w : World) (z : Obj) (h : Two a x b y w) : Two a x b y (w.alloc z) := ⟨row_alloc h.1 z, row_alloc h.2 z⟩
theorem Two.drewN (h : Two a x b y w) (n : Nat) : Two a x b y (w.drewN n) := ⟨by rw [row_drewN]; exact h.1, by rw [row_drewN]; exact h.2⟩
end
set_option maxHeartbeats 2000000 in
theorem pend_any (T : Mk) (tb tp B o n c : Nat) (A : Option Addr) (C : Array Value) (vp : Value) (l : List Ch) (x : Ch) (w : World) (hr : row w B = some C) (hT : T B = tb) (h2 : C[o + 1]? = some vp) (hp : ElOw 2 chE T w tp 67 vp l)
    (hn : n = x.b.length) (hx : RdS T w 0 A n c (lf x.b)) (ht : tp ≠ tb) (ht0 : 0 ≠ tp) (ht1 : 0 ≠ tb) (hl : l.length ≤ 1000000000000) :
    Calls Try.prog 29 #[.pointer (some ⟨B, o, none⟩), .agg #[.int .i64 (x.k : Int), .slice A n c]] w fun e w' => e = .returned (.tuple #[]) ∧ ∃ T' v', Fr T T' (fun y => y = tb ∨ y = tp) w w' ∧ row w' B = some (C.setIfInBounds (o + 1) v') ∧ ElOw 2 chE T' w' tp 67 v' (l ++ [x]) := by
  subst hn
  have HR := Lib.hid hr
  have HT := Lib.hid hT
  have H2 := Lib.hid h2
  have HP := Lib.hid hp
  have HX := Lib.hid hx
  clear hr hT h2 hp hx
  go_enter Try.func29, Try.ntmps29
  go_wp2_with fail
  have zB := row_lt HR.out
  obtain ⟨xs, hxs, hel⟩ := HP.out.own
  have HXS := Lib.hid hxs
  have HEL := Lib.hid hel
  obtain ⟨A2, c2, hv2, hsl2, hm2⟩ := HP.out.sl
  subst hv2
  clear hsl2
  have b1 : Below w.heap.size w (w.alloc (.cells #[.int .i64 (x.k : Int), .slice A x.b.length c] 67)) := (Below.refl _ _).alloc (Nat.le_refl _) _
  have R1 := Lib.hid (carry b1 HR.out)
  have X1 := Lib.hid (row_alloc_at w #[.int .i64 (x.k : Int), .slice A x.b.length c] 67 w.heap.size rfl)
  obtain ⟨w1, hw1⟩ : ∃ w1, w1 = w.alloc (.cells #[.int .i64 (x.k : Int), .slice A x.b.length c] 67) := ⟨_, rfl⟩
  rw [← hw1] at R1 X1 b1 ⊢
  have z1 : w1.heap.size = w.heap.size + 1 := by rw [hw1]; simp
  clear hw1 hxs hel
  refine flow_shut 10 [.inl [0, 1, 2, 3, 4, 5], pS 6, pU 6, pE 7, .inl [8, 9], pE 10] (Two B C w.heap.size #[.int .i64 (x.k : Int), .slice A x.b.length c]) (B :: (Value.slice A2 l.length c2).ownBlock.toList) (by kernel_rfl) (by kernel_rfl) (fun _ _ _ _ _ h => h) (fun _ _ _ _ _ h => h) Two.alloc (Two.of R1.out X1.out |>.drewN 1) (fun k hk => by
    rcases List.mem_cons.1 hk with rfl | hk
    · omega
    · have := (World.ownsRow.lt HXS.out k (by simpa using hk)).2; omega) ?_
  have hne : Nonempty (In (Two B C w.heap.size #[.int .i64 (x.k : Int), .slice A x.b.length c])) := ⟨⟨_, Two.of R1.out X1.out⟩⟩
  have B2 := Lib.hid (onto b1 b1.size (below_drewN (Below.refl w1.heap.size w1) 1))
  have z2 : (w1.drewN 1).heap.size = w1.heap.size := rfl
  obtain ⟨w2, hw2⟩ : ∃ w2, w2 = w1.drewN 1 := ⟨_, rfl⟩
  rw [← hw2] at B2 z2 ⊢
  clear hw2 R1 X1 b1
  have e1 : ∀ y : In (Two B C w.heap.size #[.int .i64 (x.k : Int), .slice A x.b.length c]), y.val.cell? ⟨B, o + 1, none⟩ = some (.slice A2 l.length c2) := fun y => by rw [cell_row (Two.fst y.ok)]; exact H2.out
  have e2 : ∀ y : In (Two B C w.heap.size #[.int .i64 (x.k : Int), .slice A x.b.length c]), y.val.cell? ⟨w.heap.size, 0, none⟩ = some (.int .i64 (x.k : Int)) := fun y => by rw [cell_row (Two.snd y.ok)]; rfl
  have e3 : ∀ y : In (Two B C w.heap.size #[.int .i64 (x.k : Int), .slice A x.b.length c]), y.val.cell? ⟨w.heap.size, 1, none⟩ = some (.slice A x.b.length c) := fun y => by rw [cell_row (Two.snd y.ok)]; rfl
  refine wpM_q ?_
  simp only [pk, List.getElem?_cons_zero, List.getElem?_cons_succ]
  repeat (go_big_quiet_step (fail))
  refine wpQuiet_nil ?_
  clear e1 e2 e3
  refine wpM_s (fun p => .slice (some ⟨p, 0, none⟩) 1 1) (.cells #[.int .i64 (x.k : Int), .slice A x.b.length c] 67) _ rfl rfl (fun w => ex_chg _ (.tmp 9) rfl _ _ _ _ rfl w) ?_
  refine wpM_u _ _ _ 10 (.head _) rfl rfl (fun y hy p hp1 hp2 hp3 hp4 => ?_)
  refine wpM_e _ rfl (fun y2 hy2 => ?_)
  have B3 := Lib.hid (onto (onto B2.out B2.out.size y.below) (by have := B2.out.size; have := y.below.size; omega) y2.below)
  have R3 := Lib.hid (carry y2.below (row_of hp4))
  have C3 := Lib.hid hy2
  have HP3 := Lib.hid hp3
  obtain ⟨w3, hw3⟩ : ∃ w3, w3 = y2.val := ⟨_, rfl⟩
  rw [← hw3] at B3 R3 C3 ⊢
  clear hw3 hy2 hy hp3 hp4 hp2 B2 y2 y
  have F3 := Lib.hid (Fr.new (T := T) (H := fun y => y = tb ∨ y = tp) B3.out tp)
  have P3 := Lib.hid (HP.out.fr chE_ok (Fr.new (T := T) (H := fun _ => False) B3.out tp) (fun e => e) (fun e => e))
  have X3 := Lib.hid (HX.out.fr (Fr.new (T := T) (H := fun _ => False) B3.out tp) (fun e => e))
  have O3 := Lib.hid (ownsRow_calm HXS.out B3.out)
  have hoff : ∀ k, k = B ∨ k = w.heap.size → (Value.slice A2 l.length c2).ownBlock ≠ some k := fun k hk e => by
    rcases hk with rfl | rfl
    · have := HP.out.tg _ e; rw [HT.out] at this; exact ht this.symm
    · have := (World.ownsRow.lt HXS.out _ e).2; omega
  have hvh : ∀ k, (Value.slice A2 l.length c2).ownBlock = some k → k < w.heap.size := fun k hk => (World.ownsRow.lt HXS.out k hk).2
  have HOFF := Lib.hid hoff
  have HVH := Lib.hid hvh
  clear hoff hvh
  go_wp2_with (refine wpl_appEl rfl (.tmp 8) (.tmp 10) rfl slc_u chg_info rfl (by decide) (by decide) O3.out (vs := [.int .i64 (x.k : Int), .slice A x.b.length c]) R3.out rfl (fun v hv => by simp at hv; rcases hv with rfl | rfl <;> rfl) hl rfl rfl ?_; intro v4 w4 ho4 hg4 ht4)
  have R4 := Lib.hid (Two.of (grown_row hg4 (Two.fst C3.out) (fun e => HOFF.out B (.inl rfl) e)) (grown_row hg4 (Two.snd C3.out) (fun e => HOFF.out _ (.inr rfl) e)))
  have z4 := hg4.size
  have E3 := Lib.hid (show chE (paint (paint T w.heap.size tp) w3.heap.size tp) w4 x [.int .i64 (x.k : Int), .slice A x.b.length c] from ⟨A, c, rfl, X3.out.fr (Fr.grown (H := fun y => y = tp) hg4 (fun g hg => P3.out.tg g hg) tp) ht0⟩)
  have P4 := Lib.hid (P3.out.one chE_ok ho4 hg4 ht4 E3.out ht0 O3.out (fun i hi => by
    obtain ⟨vs, h1, h2⟩ := HEL.out i hi
    exact ⟨vs, chE_ok.fr h1 (Fr.new (H := fun _ => False) B3.out tp) (fun e => e), h2⟩))
  have F4 := Lib.hid (F3.out.trans (Fr.grown (H := fun y => y = tb ∨ y = tp) hg4 (fun g hg => .inr (P3.out.tg g hg)) tp))
  have HOT := Lib.hid (show ∀ k ∈ B :: v4.ownBlock.toList, (k ∈ p :: B :: (Value.slice A2 l.length c2).ownBlock.toList ∨ w3.heap.size ≤ k) ∧ k < w4.heap.size from fun k hk => by
    rcases List.mem_cons.1 hk with rfl | hk
    · exact ⟨.inl (by simp), row_lt (Two.fst R4.out)⟩
    · have hk : v4.ownBlock = some k := by simpa using hk
      refine ⟨?_, (World.ownsRow.lt ho4 k hk).2⟩
      rcases ht4 with e | e
      · rw [e] at hk
        exact .inl (List.mem_cons_of_mem _ (List.mem_cons_of_mem _ (by simpa using hk)))
      · rw [e] at hk; exact .inr (Nat.le_of_eq (Option.some.inj hk)))
  refine same_class (C := Two B C w.heap.size _) (B :: v4.ownBlock.toList) ((Frm.app hg4).more (fun k hk => List.mem_cons_of_mem _ (List.mem_cons_of_mem _ hk))) HOT.out R4.out Two.alloc ?_
  clear ho4 hg4 ht4 E3 O3 R3 C3 F3 P3 X3 HOT HP3
  refine wpM_q ?_
  simp only [pk, List.getElem?_cons_zero, List.getElem?_cons_succ]
  repeat (go_big_quiet_step (fail))
  refine wpQuiet_nil ?_
  refine wpM_e _ rfl (fun y hy => ?_)
  have T5 := Lib.hid (Two.fst hy)
  have F5 := Lib.hid (F4.out.trans (Fr.new y.below tp))
  have P5 := Lib.hid (P4.out.fr chE_ok (Fr.new (H := fun _ => False) y.below tp) (fun e => e) (fun e => e))
  obtain ⟨w5, hw5⟩ : ∃ w5, w5 = y.val := ⟨_, rfl⟩
  obtain ⟨T9, hT9⟩ : ∃ T9, T9 = paint (paint (paint T w.heap.size tp) w3.heap.size tp) w4.heap.size tp := ⟨_, rfl⟩
  rw [← hw5] at T5 F5 P5 ⊢
  rw [← hT9] at F5 P5
  clear hw5 hT9 y hy R4 P4 F4
  obtain ⟨A6, c6, hv6, -, -⟩ := P5.out.sl
  subst hv6
  have k0 : w5.cell? ⟨B, o + 1, none⟩ = some (.slice A2 l.length c2) := by rw [cell_row T5.out]; exact H2.out
  have k1 := froz_row T5.out (o + 1)
  have k2 := Lib.hid (setCell_row T5.out (o + 1) (.slice A6 (l ++ [x]).length c6))
  obtain ⟨N6, hN6⟩ : ∃ N6, N6 = (l ++ [x]).length := ⟨_, rfl⟩
  rw [← hN6] at P5 k2 ⊢
  clear hN6
  go_wp2_with fail
  rw [k2.out]
  have R6 := Lib.hid (row_setRow T5.out (C.setIfInBounds (o + 1) (.slice A6 N6 c6)))
  have f6 := Fr.row (T := T9) (w := w5) (H := fun y => y = tb ∨ y = tp) (B := B) (.inl (by rw [F5.out.tag B zB]; exact HT.out)) (C.setIfInBounds (o + 1) (.slice A6 N6 c6))
  have F6 := Lib.hid (F5.out.trans f6)
  have P6 := Lib.hid (P5.out.fr chE_ok (Fr.row (T := T9) (w := w5) (H := fun y => y = tb) (B := B) (by rw [F5.out.tag B zB]; exact HT.out) (C.setIfInBounds (o + 1) (.slice A6 N6 c6))) ht ht1)
  refine end_class (fun _ => True) [] (Frm.row w5 _ (by simp)) hot_none trivial (fun _ _ h => h) ?_
  obtain ⟨w6, hw6⟩ : ∃ w6, w6 = w5.setRow B (C.setIfInBounds (o + 1) (.slice A6 N6 c6)) := ⟨_, rfl⟩
  rw [← hw6] at R6 F6 P6 ⊢
  clear hw6 f6 k0 k1 k2 P5 F5 T5
  refine wpM_nil (fun y => ?_)
  have G6 := Lib.hid (F6.out.trans (Fr.new y.below tp))
  have Q6 := Lib.hid (P6.out.fr chE_ok (Fr.new (H := fun _ => False) y.below tp) (fun e => e) (fun e => e))
  have S6 := Lib.hid (carry y.below R6.out)
  go_wp2_with fail
  go_end0
  exact ⟨rfl, _, _, G6.out, S6.out, Q6.out⟩
end Go.Proofs.Ythdhbjfenanbnaa.Oct
