/- Contract: the reference's Put. -/
import Derived.Test.YtdfcldomjjcidaaGreatDoorJsB
namespace Go.Proofs.YtdfcldomjjcidaaGreatDoor.Oct
open Go.ChangeShapes Go.WideShapes Go.ChangeAt Go.RowKit
set_option linter.unusedVariables false

set_option maxRecDepth 20000 in
set_option maxHeartbeats 4000000 in
theorem rput_rec (r : Rc) (A A' : Option Addr) (c c' : Nat) (w : World) (hr : EnR w r.e A c A' c') (hb : r.k = 2 → EnB r.e) :
    Calls Tryz.prog 10 #[.agg (rcC r (.slice A r.e.T c) (.slice A' r.e.n c'))] w (cmP (pcE r) (pcL r) (pcF r) w) := by
  obtain ⟨w1, hw1⟩ : ∃ w1, w1 = w.alloc (.cells (rcC r (.slice A r.e.T c) (.slice A' r.e.n c')) 29) := ⟨_, rfl⟩
  have b1 : Below w.heap.size w w1 := by rw [hw1]; exact (Below.refl _ _).alloc (Nat.le_refl _) _
  have R1 := Lib.hid (show row w1 w.heap.size = some (rcC r (.slice A r.e.T c) (.slice A' r.e.n c')) by rw [hw1]; exact row_alloc_at _ _ _ _ rfl)
  have B1 := Lib.hid b1
  have E1 := Lib.hid (hr.below b1)
  have HB := Lib.hid hb
  clear b1 hr hb
  go_enter Tryz.func10, Tryz.ntmps10
  go_upto_region 1 with fail
  simp only [← hw1]
  clear hw1
  refine flow_seen [([1], 0, false), ([], 2, true)] [3, 4, 5, 6] (by kernel_rfl) (by kernel_rfl) (fun _ _ _ _ _ h => h) fun X => ?_
  have R2 := Lib.hid (carry X.below R1.out)
  have B2 := Lib.hid (onto B1.out B1.out.size X.below)
  have E2 := Lib.hid (E1.out.below X.below)
  have HM := Lib.hid (make_any X.val)
  obtain ⟨w2, hw2⟩ : ∃ w2, w2 = X.val := ⟨_, rfl⟩
  rw [← hw2] at R2 B2 E2 HM ⊢
  clear hw2 X R1 B1 E1
  have q : ∀ x : After w2, row x.val w.heap.size = some (rcC r (.slice A r.e.T c) (.slice A' r.e.n c')) := fun x => carry x.below R2.out
  simp only [wpFs, pk, List.getElem?_cons_zero, List.getElem?_cons_succ]
  repeat (go_big_quiet_step (fail))
  refine wpQuiet_nil ?_
  clear q
  go_wp2_with fail
  refine HM.out.mono ?_
  rintro e w3 ⟨AK, cK, rfl, hK, hb3⟩
  have R3 := Lib.hid (carry hb3 R2.out)
  have B3 := Lib.hid (onto B2.out B2.out.size hb3)
  have E3 := Lib.hid (E2.out.below hb3)
  have BB := Lib.hid hb3
  have HC := Lib.hid (rputs_any r A A' AK c c' cK w3 hK E3.out HB.out)
  clear hK hb3 HM R2 B2 E2
  go_wp2_with fail
  refine ⟨.inr BB.out, ?_⟩
  show wpQuiet _ _ _ _ _ _
  refine wpQuiet_nil ?_
  go_wp2_with fail
  refine HC.out.mono ?_
  rintro e w4 (⟨hz, rfl, hb4⟩ | ⟨hz, v4, rfl, ho4, hb4⟩)
  · have B4 := Lib.hid (onto B3.out B3.out.size hb4)
    have HZ := Lib.hid hz
    clear hz hb4 HC
    go_wp2_with fail
    first | refine ⟨.inl trivial, ?_⟩ | skip
    show wpQuiet _ _ _ _ _ _
    repeat (go_big_quiet_step (fail))
    refine wpQuiet_nil ?_
    go_wp2_with fail
    exact bodyPost_ret (v := .tuple #[.slice none 0 0, .int .i64 (pcE r : Nat)]) (by simp [results, Tryz.results10, go_sem]) rfl (.inl ⟨HZ.out, rfl, B4.out⟩)
  · have B4 := Lib.hid (onto B3.out B3.out.size hb4)
    have HZ := Lib.hid hz
    have O4 := Lib.hid (ho4.base B3.out.size)
    clear hz hb4 HC ho4
    go_wp2_with fail
    first | refine ⟨.inl trivial, ?_⟩ | skip
    show wpQuiet _ _ _ _ _ _
    repeat (go_big_quiet_step (fail))
    refine wpQuiet_nil ?_
    go_wp2_with fail
    exact bodyPost_ret (v := .tuple #[v4, .int .i64 0]) (by simp [results, Tryz.results10, go_sem]) rfl (.inr ⟨HZ.out, v4, rfl, O4.out, B4.out⟩)
end Go.Proofs.YtdfcldomjjcidaaGreatDoor.Oct
