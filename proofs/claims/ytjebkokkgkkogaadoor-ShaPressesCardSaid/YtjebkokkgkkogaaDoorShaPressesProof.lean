/- The statement ShaPresses: the law strongroomlaw05.ShaPresses answers true for every input, and leaves its arguments as they were. Condition: the package variable sha.roundConstants reads at the call as the text of the program lays it; the card ties that. -/
import Derived.Test.YtjebkokkgkkogaaDoorRows
import Derived.Test.YtjebkokkgkkogaaDoorLib
import Derived.Test.YtjebkokkgkkogaaDoorShaS
import Derived.Test.YtjebkokkgkkogaaDoorShaP
import Derived.Test.YtjebkokkgkkogaaDoorOpenW
import Derived.Test.YtjebkokkgkkogaaDoorTab
import Derived.Test.YtjebkokkgkkogaaDoorCards
import Derived.Test.YtjebkokkgkkogaaDoorTie
import Derived.SevenTiedAt
namespace Go.Proofs.YtjebkokkgkkogaaDoor.shaPresses
open Go.ChangeShapes Go.WideShapes Go.ChangeAt Go.RowKit
open Go.Proofs.YtjebkokkgkkogaaDoor.Oct
set_option linter.unusedVariables false

theorem own : ownKnob Tryd.prog.godebug = none := by kernel_rfl
theorem laidOut : laidOutB Tryd.prog = true := by kernel_rfl

set_option maxRecDepth 20000 in
set_option maxHeartbeats 4000000 in
theorem walk (a0 : Nat → BitVec 32) (a1 : Nat → BitVec 8) (w : World) (htab : Tab w) :
    Calls Tryd.prog 4 #[.agg (wa 8 a0), .agg (ba 64 a1)] w fun e w' => e = .returned (.bool true) ∧ Below w.heap.size w w' := by
  have HT := Lib.hid htab
  have B0 := Lib.hid (((Below.refl w.heap.size w).alloc (by simp) (.cells (wa 8 a0) 29)).alloc (by simp) (.cells (ba 64 a1) 30))
  have q0 : row ((w.alloc (.cells (wa 8 a0) 29)).alloc (.cells (ba 64 a1) 30)) w.heap.size = some (wa 8 a0) := by simp [go_sem]
  have q1 : row ((w.alloc (.cells (wa 8 a0) 29)).alloc (.cells (ba 64 a1) 30)) (w.heap.size + 1) = some (ba 64 a1) := by simp [go_sem]
  clear htab
  go_enter Tryd.func4, Tryd.ntmps4
  go_wp2_with fail
  refine (shown_any _ (HT.out.below B0.out HT.out.pos)).mono ?_
  rintro e w1 ⟨rfl, hb1⟩
  have r0 := carry hb1 q0
  have r1 := carry hb1 q1
  have B1 := Lib.hid (onto B0.out (by simp; omega) hb1)
  have HT1 := Lib.hid (HT.out.below B1.out HT.out.pos)
  have s1 : w.heap.size ≤ w1.heap.size := by have := row_lt r0; omega
  clear hb1 q0 q1 B0
  have Q0 := After.row r0
  have Q1 := After.row r1
  obtain ⟨P, hP⟩ : ∃ P, P = prF kF a0 a1 := ⟨_, rfl⟩
  have hx : eqW 8 P P = true := eqW_refl _ _
  have HA := Lib.hid (show ∀ x : After w1, Calls Tryd.prog 10 #[.agg (wa 8 a0), .agg (ba 64 a1)] x.val fun e w' => e = .returned (.agg (wa 8 P)) ∧ Below x.val.heap.size x.val w' from fun x => by rw [hP]; exact press_any a0 a1 _ (HT1.out.after x))
  have HB := Lib.hid (show ∀ x : After w1, Calls Tryd.prog 11 #[.agg (wa 8 a0), .agg (ba 64 a1)] x.val fun e w' => e = .returned (.agg (wa 8 P)) ∧ Below x.val.heap.size x.val w' from fun x => by rw [hP]; exact rpress_any a0 a1 _)
  clear hP
  clear r0 r1
  go_wp2_with fail
  refine seen_region (by kernel_rfl) (by kernel_rfl) ?_
  repeat (first | rw [hx] | go_big_quiet_step ((first | (go_at_call 10; refine After.call _ (HA.out _)) | (go_at_call 11; refine After.call _ (HB.out _)))))
  refine wpQuiet_nil ?_
  rintro _ ⟨x, rfl⟩
  have hfin := Lib.hid (onto B1.out s1 x.below)
  clear Q0 Q1
  go_wp2_with fail
  go_ret
  exact ⟨rfl, hfin.out⟩

set_option maxRecDepth 100000 in
theorem lifted (os : Os) (started : os.Started) (H : Type) (enc : TypeId × Value → H) :
    ReturnsInHanded {} Tryd.checked os 4 .any (fun w args => (Rows.shaPressesSpec.pre enc Tryd.prog Tryd.f4 [] false w args ∧ laidMetH Tryd.prog laidL w) ∧ sizedMet enc Tryd.prog Tryd.f4 (OpenSpec.ofChange Rows.shaPressesSpec) false w args) (Rows.shaPressesSpec.post enc Tryd.prog Tryd.f4 false true false false) := by
  refine returnsInHanded_of_change_and (C := Tryd.checked) (X := fun w _ => laidMetH Tryd.prog laidL w) (fun _ _ _ hh h => h.of_heap hh) own started (by kernel_rfl) Tryd.func4
    (ChangeSpec.witness_shaped (enc := enc) (C := Tryd.checked) (os := os) (X := fun w _ => laidMetH Tryd.prog laidL w) false (World.doorLaid Tryd.prog 14 os) #[.agg (Array.replicate 8 (.int .u32 0)), .agg (Array.replicate 64 (.int .u8 0))] 8 rfl (World.shaped_of_RefB (by kernel_rfl) (by kernel_rfl)) (by kernel_rfl) (by kernel_rfl) (by kernel_rfl) (door_met os _)) ?_
  intro W base args ds gs before hval0 hW _ _ hL _
  have hval : ∀ (j : Nat) t v, Tryd.f4.params[j]? = some t → args[j]? = some v → Value.okWide Tryd.prog W .any base t v := hval0
  have hW' := hW
  obtain ⟨p, q, hA0, hV, rfl, hfz, hnd⟩ := hW
  have hA : DataW.TrodAll enc Tryd.prog W 0 (fun _ => true) true Tryd.f4.params.toList args.toList ds p := hA0
  rw [Tryd.params4] at hA hval
  obtain ⟨v0, vs0, d0, ds0, p0, q0, hargs, rfl, rfl, h0, r0⟩ := trodAll_cons hA
  obtain ⟨v1, vs1, d1, ds1, p1, q1, rfl, rfl, rfl, h1, r1⟩ := trodAll_cons r0
  obtain ⟨rfl, rfl, rfl⟩ := trodAll_nil r1
  obtain rfl : args = #[v0, v1] := by cases args; simp_all
  obtain ⟨rfl, rfl⟩ := trodVars_none hV
  have k0 := h0
  have lt0 : ∀ x ∈ p0, x.block < W.heap.size := by obtain ⟨m, hm⟩ := k0; exact DataW.trod_lt m _ _ _ hm
  obtain ⟨a0, rfl⟩ := open_words Tryd.underlying29 Tryd.underlying28 (by kernel_rfl) (by kernel_rfl) (hval 0 29 v0 rfl rfl) h0
  have k1 := h1
  have lt1 : ∀ x ∈ p1, x.block < W.heap.size := by obtain ⟨m, hm⟩ := k1; exact DataW.trod_lt m _ _ _ hm
  obtain ⟨a1, rfl⟩ := open_bytes Tryd.underlying30 Tryd.underlying5 (by kernel_rfl) (by kernel_rfl) (hval 1 30 v1 rfl rfl) h1
  clear hA0 hval0
  refine (walk a0 a1 W (tab_of hL)).mono fun e W' ⟨he, bel⟩ => ?_
  subst he
  exact ⟨_, rfl, _, _, _, [], _, [], hW', trodAll_mk1 (shut_bool Tryd.underlying4 _), (trodAll_cons_mk (Below.trod laidOut (by kernel_rfl) (of_decide_eq_true (by kernel_rfl)) k0 bel lt0) (trodAll_cons_mk (Below.trod laidOut (by kernel_rfl) (of_decide_eq_true (by kernel_rfl)) k1 bel lt1) trodAll_mk0)), rfl, bel.frame _, fun h => by cases h⟩

theorem over : Rows.shaPressesRow.holds Tryd.pinned (OpenSpec.ofChange Rows.shaPressesSpec) :=
  OpenClaim.holds_of_wide 4 Tryd.f4 rfl rfl rfl rfl rfl rfl rfl ⟨rfl, rfl, rfl, rfl, rfl⟩ rfl rfl rfl rfl rfl (by kernel_rfl) Tryd.func4 (by kernel_rfl)
    (of_decide_eq_true (by kernel_rfl)) (by unfold Func.isWrapper; first | (rw [if_pos (by decide +kernel)]; kernel_rfl) | (rw [if_neg (by decide +kernel)]; exact ⟨rfl, rfl⟩))
    (fun os started H enc _ => lifted os started H enc)

theorem proved : Rows.ShaPressesCardSaid :=
  Claim7.holds_tied_plain_at .later [] [.data] true (true, "41cab3536d7d8cfc1298a26681f7246bf960c365c55272f18fb8baad2e179fa4") false
    over (fun _ h => by cases h) (by kernel_rfl) (fun _ h => by cases h) shaPresses_row_tie rfl ⟨rfl, rfl⟩ (by kernel_rfl) rfl
    (fun f fn hf hfn => by
      obtain rfl : f = 4 := Option.some.inj ((show Tryd.prog.funcNamed "strongroom/strongroomlaw05.ShaPresses" = some 4 by kernel_rfl).symm.trans hf) |>.symm
      obtain rfl : fn = Tryd.f4 := (Option.some.inj (Tryd.func4.symm.trans hfn)).symm
      exact ⟨by kernel_rfl, fun j t ht => by
        rw [Tryd.params4] at ht
        have hm : t ∈ [29, 30] := by simpa using Array.mem_of_getElem? ht
        have hall : ([29, 30].all fun u => !Tryd.prog.wantsStandIn u) = true := by kernel_rfl
        exact (show Tryd.prog.wantsStandIn t = false by simpa using List.all_eq_true.1 hall t hm)⟩)
    (by kernel_rfl)
#print axioms proved
end Go.Proofs.YtjebkokkgkkogaaDoor.shaPresses
