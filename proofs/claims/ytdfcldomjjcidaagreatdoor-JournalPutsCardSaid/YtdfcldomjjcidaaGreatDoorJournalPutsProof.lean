/- The statement JournalPuts: the law strongroomlaw11.JournalPuts answers true for every input, and leaves its arguments as they were. Condition: the package variables that the row lists read at the call as the text of the program lays them; the card ties that. -/
import Derived.Test.YtdfcldomjjcidaaGreatDoorRows
import Derived.Test.YtdfcldomjjcidaaGreatDoorLib
import Derived.Test.YtdfcldomjjcidaaGreatDoorJsG
import Derived.Test.YtdfcldomjjcidaaGreatDoorJrOp
import Derived.Test.YtdfcldomjjcidaaGreatDoorTab
import Derived.Test.YtdfcldomjjcidaaGreatDoorCards
import Derived.Test.YtdfcldomjjcidaaGreatDoorTie
import Derived.SevenTiedAt
namespace Go.Proofs.YtdfcldomjjcidaaGreatDoor.journalPuts
open Go.ChangeShapes Go.WideShapes Go.ChangeAt Go.RowKit
open Go.Proofs.YtdfcldomjjcidaaGreatDoor.Oct
set_option linter.unusedVariables false

theorem own : ownKnob Tryz.prog.godebug = none := by kernel_rfl
theorem laidOut : laidOutB Tryz.prog = true := by kernel_rfl

set_option maxRecDepth 20000 in
theorem walk (a0 : Nat → BitVec 8) (n0 c0 : Nat) (A0 : Option Addr) (R1 : Rc) (A1 : Option Addr) (c1 : Nat) (B1 : Option Addr) (e1 : Nat) (w : World) (hs0 : Sl w w.heap.size A0 n0 c0 a0) (hm0 : c0 ≤ maxLen) (hz0 : n0 ≤ 140737488351232) (hn1 : EnR w R1.e A1 c1 B1 e1) (hr1 : RcIn R1) (htab : Tab w) :
    Calls Tryz.prog 3 #[.slice A0 n0 c0, .agg (rcC R1 (.slice A1 R1.e.T c1) (.slice B1 R1.e.n e1))] w fun e w' => e = .returned (.bool true) ∧ Below w.heap.size w w' := by
  exact puts11_any n0 c0 A0 a0 R1 A1 B1 c1 e1 w htab hs0 (by omega) hn1 hr1.bd

set_option maxRecDepth 100000 in
theorem lifted (os : Os) (started : os.Started) (H : Type) (enc : TypeId × Value → H) :
    ReturnsInHanded {} Tryz.checked os 3 .any (fun w args => (Rows.journalPutsSpec.pre enc Tryz.prog Tryz.f3 [] false w args ∧ laidMetH Tryz.prog laidL w) ∧ sizedMet enc Tryz.prog Tryz.f3 (OpenSpec.ofChange Rows.journalPutsSpec) false w args) (Rows.journalPutsSpec.post enc Tryz.prog Tryz.f3 false true false false) := by
  refine returnsInHanded_of_change_and (C := Tryz.checked) (X := fun w _ => laidMetH Tryz.prog laidL w) (fun _ _ _ hh h => h.of_heap hh) own started (by kernel_rfl) Tryz.func3
    (ChangeSpec.witness_shaped (enc := enc) (C := Tryz.checked) (os := os) (X := fun w _ => laidMetH Tryz.prog laidL w) false (World.doorLaid Tryz.prog 14 os) #[.slice none 0 0, .agg #[.int .i64 0, .int .i64 0, .int .i64 0, .int .i64 0, .int .i64 0, .int .i64 0, .int .i64 0, .int .i64 0, .slice none 0 0, .slice none 0 0]] 8 rfl (World.shaped_of_RefB (by kernel_rfl) (by kernel_rfl)) (by kernel_rfl) (by kernel_rfl) (by kernel_rfl) (door_met os _)) ?_
  intro W base args ds gs before hval0 hW _ hsz0 hL _
  have hval : ∀ (j : Nat) t v, Tryz.f3.params[j]? = some t → args[j]? = some v → Value.okWide Tryz.prog W .any base t v := hval0
  have hW' := hW
  obtain ⟨p, q, hA0, hV, rfl, hfz, hnd⟩ := hW
  have hA : DataW.TrodAll enc Tryz.prog W 0 (fun _ => true) true Tryz.f3.params.toList args.toList ds p := hA0
  rw [Tryz.params3] at hA hval
  have hsz : (DataW.weightsEach Tryz.prog (Tryz.f3.params.toList ++ Rows.journalPutsSpec.plain.varTypes Tryz.prog) (ds ++ gs)).all (· ≤ reachBytes) = true := hsz0
  rw [Tryz.params3] at hsz
  clear hsz0
  obtain ⟨v0, vs0, d0, ds0, p0, q0, hargs, rfl, rfl, h0, r0⟩ := trodAll_cons hA
  obtain ⟨v1, vs1, d1, ds1, p1, q1, rfl, rfl, rfl, h1, r1⟩ := trodAll_cons r0
  obtain ⟨rfl, rfl, rfl⟩ := trodAll_nil r1
  obtain rfl : args = #[v0, v1] := by cases args; simp_all
  obtain ⟨rfl, rfl⟩ := trodVars_none hV
  have k0 := h0
  have lt0 : ∀ x ∈ p0, x.block < W.heap.size := by obtain ⟨m, hm⟩ := k0; exact DataW.trod_lt m _ _ _ hm
  obtain ⟨A0, n0, c0, a0, rfl, hs0, hm0⟩ := open_sl Tryz.underlying22 Tryz.underlying5 (by kernel_rfl) (hval 0 22 v0 rfl rfl) h0
  have hz0 : n0 ≤ 140737488351232 := by have := reach_sl Tryz.underlying22 k0 hsz (j := 0) rfl rfl; rw [show Tryz.prog.bytesOf 5 = 1 by kernel_rfl] at this; omega
  have k1 := h1
  have lt1 : ∀ x ∈ p1, x.block < W.heap.size := by obtain ⟨m, hm⟩ := k1; exact DataW.trod_lt m _ _ _ hm
  obtain ⟨Ra1, Aa1, ca1, Ba1, ea1, rfl, hna1, hra1⟩ := open_rec (hval 1 29 v1 rfl rfl) h1 hsz (j := 1) rfl rfl
  clear hA0 hval0
  refine (walk a0 n0 c0 A0 Ra1 Aa1 ca1 Ba1 ea1 W hs0 hm0 hz0 hna1 hra1 (tab_of hL)).mono fun e W' ⟨he, bel⟩ => ?_
  subst he
  exact ⟨_, rfl, _, _, _, [], _, [], hW', trodAll_mk1 (shut_bool Tryz.underlying4 _), (trodAll_cons_mk (Below.trod laidOut (by kernel_rfl) (of_decide_eq_true (by kernel_rfl)) k0 bel lt0) (trodAll_cons_mk (Below.trod laidOut (by kernel_rfl) (of_decide_eq_true (by kernel_rfl)) k1 bel lt1) trodAll_mk0)), rfl, bel.frame _, fun h => by cases h⟩

theorem over : Rows.journalPutsRow.holds Tryz.pinned (OpenSpec.ofChange Rows.journalPutsSpec) :=
  OpenClaim.holds_of_wide 3 Tryz.f3 rfl rfl rfl rfl rfl rfl rfl ⟨rfl, rfl, rfl, rfl, rfl⟩ rfl rfl rfl rfl rfl (by kernel_rfl) Tryz.func3 (by kernel_rfl)
    (of_decide_eq_true (by kernel_rfl)) (by unfold Func.isWrapper; first | (rw [if_pos (by decide +kernel)]; kernel_rfl) | (rw [if_neg (by decide +kernel)]; exact ⟨rfl, rfl⟩))
    (fun os started H enc _ => lifted os started H enc)

theorem proved : Rows.JournalPutsCardSaid :=
  Claim7.holds_tied_plain_at .later [] [.data] true (true, "09f55dcde61140d6dae72fbaf94e34c8c1bfce9efb78f4ae230ccecfea8fc9b9") true
    over (fun _ h => by cases h) (by kernel_rfl) (fun _ h => by cases h) journalPuts_row_tie rfl ⟨rfl, rfl⟩ (by kernel_rfl) rfl
    (fun f fn hf hfn => by
      obtain rfl : f = 3 := Option.some.inj ((show Tryz.prog.funcNamed "strongroom/strongroomlaw11.JournalPuts" = some 3 by kernel_rfl).symm.trans hf) |>.symm
      obtain rfl : fn = Tryz.f3 := (Option.some.inj (Tryz.func3.symm.trans hfn)).symm
      exact ⟨by kernel_rfl, fun j t ht => by
        rw [Tryz.params3] at ht
        have hm : t ∈ [22, 29] := by simpa using Array.mem_of_getElem? ht
        have hall : ([22, 29].all fun u => !Tryz.prog.wantsStandIn u) = true := by kernel_rfl
        exact (show Tryz.prog.wantsStandIn t = false by simpa using List.all_eq_true.1 hall t hm)⟩)
    (by kernel_rfl)
#print axioms proved
end Go.Proofs.YtdfcldomjjcidaaGreatDoor.journalPuts
