/- The statement MacSums: the law strongroomlaw06.MacSums answers true for every input, and leaves its arguments as they were. Condition: the package variables that the row lists read at the call as the text of the program lays them; the card ties that. -/
import Derived.Test.YtbncangoaldmiaaDoorRows
import Derived.Test.YtbncangoaldmiaaDoorLib
import Derived.Test.YtbncangoaldmiaaDoorMacX
import Derived.Test.YtbncangoaldmiaaDoorMacS
import Derived.Test.YtbncangoaldmiaaDoorTab
import Derived.Test.YtbncangoaldmiaaDoorCards
import Derived.Test.YtbncangoaldmiaaDoorTie
import Derived.SevenTiedAt
namespace Go.Proofs.YtbncangoaldmiaaDoor.macSums
open Go.ChangeShapes Go.WideShapes Go.ChangeAt Go.RowKit
open Go.Proofs.YtbncangoaldmiaaDoor.Oct
set_option linter.unusedVariables false

theorem own : ownKnob Tryd.prog.godebug = none := by kernel_rfl
theorem laidOut : laidOutB Tryd.prog = true := by kernel_rfl

set_option maxRecDepth 20000 in
set_option maxHeartbeats 4000000 in
theorem walk (a0 : Nat → BitVec 8) (n0 c0 : Nat) (A0 : Option Addr) (a1 : Nat → BitVec 8) (n1 c1 : Nat) (A1 : Option Addr) (w : World) (hs0 : Sl w w.heap.size A0 n0 c0 a0) (hm0 : c0 ≤ maxLen) (hs1 : Sl w w.heap.size A1 n1 c1 a1) (hm1 : c1 ≤ maxLen) (htab : Tab w) :
    Calls Tryd.prog 3 #[.slice A0 n0 c0, .slice A1 n1 c1] w fun e w' => e = .returned (.bool true) ∧ Below w.heap.size w w' := by
  have HT := Lib.hid htab
  have HS0 := Lib.hid hs0
  have HS1 := Lib.hid hs1
  have hn0 : n0 ≤ c0 := hs0.le
  have hn1 : n1 ≤ c1 := hs1.le
  have HM0 := Lib.hid hm0
  have HM1 := Lib.hid hm1
  unfold maxLen at hm0 hm1
  clear hs0 hs1 htab
  go_enter Tryd.func3, Tryd.ntmps3
  go_wp2_with fail
  refine (shown_any _ HT.out).mono ?_
  rintro e w1 ⟨rfl, hb1⟩
  have B1 := Lib.hid hb1
  have hw1 := hb1.size
  have HT1 := Lib.hid (HT.out.below hb1 HT.out.pos)
  clear hb1
  go_wp2_with fail
  refine (few_any A0 n0 c0 hn0 HM0.out _).mono ?_
  rintro e w1' ⟨rfl, rfl⟩
  go_wp2_with fail
  refine (few_any A1 n1 c1 hn1 HM1.out _).mono ?_
  rintro e w1' ⟨rfl, rfl⟩
  obtain ⟨N, hN⟩ : ∃ N, N = min n0 1000 := ⟨_, rfl⟩
  obtain ⟨M, hM⟩ : ∃ M, M = min n1 1000 := ⟨_, rfl⟩
  have K0 := Lib.hid ((HS0.out.below B1.out).upto N (by omega))
  have K1 := Lib.hid ((HS1.out.below B1.out).upto M (by omega))
  rw [← hN, ← hM]
  have hN1 : N ≤ 1000 := by omega
  have hM1 : M ≤ 1000 := by omega
  have HOE := Lib.hid (Own.empty w1 w1.heap.size 5 nF (Nat.le_refl _))
  have KA := Lib.hid (K0.out.below ((Below.refl w.heap.size w1).alloc hw1 (.cells #[] 5)))
  clear HS0 HS1 hN hM
  go_wp2_with (at_builtin; first
    | (refine wpl_appB rfl (.tmp 14) (.tmp 15) rfl sli_u u8_info HOE.out KA.out (by omega) (by simp) rfl rfl ?_; intro v2 w2 ho2 hg2 ht2
       rw [catF_zero, Nat.zero_add] at ho2
       have b2 := HOE.out.after hg2 ((Below.refl w1.heap.size w1).alloc (Nat.le_refl _) _) (by simp) (Nat.le_refl _)
       have hw2 := b2.size
       have B2 := Lib.hid b2
       have HO2 := Lib.hid ho2
       have HOE2 := Lib.hid (Own.empty w2 w2.heap.size 5 nF (Nat.le_refl _))
       have KB := Lib.hid ((K1.out.below (b2.mono hw1)).below ((Below.refl w.heap.size w2).alloc (by omega) (.cells #[] 5)))
       clear ho2 hg2 ht2 b2 HOE KA)
    | (refine wpl_appB rfl (.tmp 17) (.tmp 18) rfl sli_u u8_info HOE2.out KB.out (by omega) (by simp) rfl rfl ?_; intro v3 w3 ho3 hg3 ht3))
  rw [catF_zero, Nat.zero_add] at ho3
  have b3 := HOE2.out.after hg3 ((Below.refl w2.heap.size w2).alloc (Nat.le_refl _) _) (by simp) (Nat.le_refl _)
  have hw3 := b3.size
  have BW := Lib.hid (onto B1.out hw1 (onto B2.out hw2 b3))
  have SK0 := Lib.hid ((K0.out.below ((onto B2.out hw2 b3).mono hw1)).more (by omega : w.heap.size ≤ w3.heap.size))
  have SK1 := Lib.hid ((K1.out.below ((onto B2.out hw2 b3).mono hw1)).more (by omega : w.heap.size ≤ w3.heap.size))
  have HT3 := Lib.hid (HT.out.below BW.out HT.out.pos)
  obtain ⟨A2, c2, hv2, hsl2, -, -⟩ := (HO2.out.below b3 (Nat.le_refl _)).sl
  obtain ⟨A3, c3, hv3, hsl3, -, -⟩ := ho3.sl
  subst hv2
  subst hv3
  have S2 := Lib.hid hsl2
  have S3 := Lib.hid hsl3
  clear ho3 hg3 ht3 hsl2 hsl3 b3 HO2 HOE2 KB B2 B1 K0 K1 HT1
  refine (msum_any a0 a1 N M c2 c3 A2 A3 w3 HT3.out S2.out S3.out (by omega) (by omega)).mono ?_
  rintro e w4 ⟨rfl, hb4⟩
  obtain ⟨D, hD⟩ : ∃ D, D = macF a0 N a1 M := ⟨_, rfl⟩
  rw [← hD]
  have HD := Lib.hid hD
  obtain ⟨w5, hw5⟩ : ∃ w5, w5 = w4.alloc (.cells (ba 32 D) 26) := ⟨_, rfl⟩
  have hs4 := hb4.size
  have b5 : Below w3.heap.size w3 w5 := by rw [hw5]; exact hb4.alloc hs4 _
  have hz5 : w5.heap.size = w4.heap.size + 1 := by rw [hw5]; simp
  have r5 : row w5 w4.heap.size = some (ba 32 D) := by rw [hw5]; exact row_alloc_at _ _ _ _ rfl
  have B5 := Lib.hid (onto BW.out (by omega) b5)
  have T5 := Lib.hid (HT.out.below B5.out HT.out.pos)
  have S2' := Lib.hid ((S2.out.below b5).more (by omega : w3.heap.size ≤ w5.heap.size))
  have S3' := Lib.hid ((S3.out.below b5).more (by omega : w3.heap.size ≤ w5.heap.size))
  have U0 := Lib.hid ((SK0.out.below b5).more (by omega : w3.heap.size ≤ w5.heap.size))
  have U1 := Lib.hid ((SK1.out.below b5).more (by omega : w3.heap.size ≤ w5.heap.size))
  clear hb4 b5 hD BW S2 S3 SK0 SK1 HT3
  go_wp2_with fail
  rw [← hw5]
  clear hw5
  have hx : eqB 32 D D = true := eqB_refl _ _
  have q5 := After.row r5
  have k1 : ∀ x : After w5, (convert 22 9 (.slice A2 N c2)).run Tryd.prog x.val = .ok (.string (strOf N a0)) x.val := fun x => run_str sli_u u8_u str_u (After.sl S2'.out x)
  have k2 : ∀ x : After w5, (convert 22 9 (.slice A0 N c0)).run Tryd.prog x.val = .ok (.string (strOf N a0)) x.val := fun x => run_str sli_u u8_u str_u (After.sl U0.out x)
  have k3 : ∀ x : After w5, (convert 22 9 (.slice A3 M c3)).run Tryd.prog x.val = .ok (.string (strOf M a1)) x.val := fun x => run_str sli_u u8_u str_u (After.sl S3'.out x)
  have k4 : ∀ x : After w5, (convert 22 9 (.slice A1 M c1)).run Tryd.prog x.val = .ok (.string (strOf M a1)) x.val := fun x => run_str sli_u u8_u str_u (After.sl U1.out x)
  have CR := Lib.hid (show ∀ x : After w5, Calls Tryd.prog 12 #[.slice A0 N c0, .slice A1 M c1] x.val fun e w' => e = .returned (.agg (ba 32 D)) ∧ Below x.val.heap.size x.val w' from fun x => by
    rw [HD.out]; exact rsum6_any a0 a1 N M c0 c1 A0 A1 x.val (After.sl U0.out x) (After.sl U1.out x) (by omega) (by omega))
  have CE := Lib.hid (show ∀ x : After w5, Calls Tryd.prog 13 #[.slice A2 N c2, .slice A3 M c3] x.val fun e w' => e = .returned (.agg (ba 32 D)) ∧ Below x.val.heap.size x.val w' from fun x => by
    rw [HD.out]; exact extract_any a0 a1 N M c2 c3 A2 A3 x.val (T5.out.after x) (After.sl S2'.out x) (After.sl S3'.out x) (by omega) (by omega))
  clear r5
  refine seen_region (by kernel_rfl) (by kernel_rfl) ?_
  repeat (first | rw [hx] | go_big_quiet_step (first | (go_at_call 12; refine After.call _ (CR.out _)) | (go_at_call 13; refine After.call _ (CE.out _))))
  refine wpQuiet_nil ?_
  rintro _ ⟨x, rfl⟩
  have hfin := Lib.hid (onto B5.out (by omega) x.below)
  clear q5 k1 k2 k3 k4 hx
  go_wp2_with fail
  go_ret
  exact ⟨rfl, hfin.out⟩

set_option maxRecDepth 100000 in
theorem lifted (os : Os) (started : os.Started) (H : Type) (enc : TypeId × Value → H) :
    ReturnsInHanded {} Tryd.checked os 3 .any (fun w args => (Rows.macSumsSpec.pre enc Tryd.prog Tryd.f3 [] false w args ∧ laidMetH Tryd.prog laidL w) ∧ sizedMet enc Tryd.prog Tryd.f3 (OpenSpec.ofChange Rows.macSumsSpec) false w args) (Rows.macSumsSpec.post enc Tryd.prog Tryd.f3 false true false false) := by
  refine returnsInHanded_of_change_and (C := Tryd.checked) (X := fun w _ => laidMetH Tryd.prog laidL w) (fun _ _ _ hh h => h.of_heap hh) own started (by kernel_rfl) Tryd.func3
    (ChangeSpec.witness_shaped (enc := enc) (C := Tryd.checked) (os := os) (X := fun w _ => laidMetH Tryd.prog laidL w) false (World.doorLaid Tryd.prog 14 os) #[.slice none 0 0, .slice none 0 0] 8 rfl (World.shaped_of_RefB (by kernel_rfl) (by kernel_rfl)) (by kernel_rfl) (by kernel_rfl) (by kernel_rfl) (door_met os _)) ?_
  intro W base args ds gs before hval0 hW _ _ hL _
  have hval : ∀ (j : Nat) t v, Tryd.f3.params[j]? = some t → args[j]? = some v → Value.okWide Tryd.prog W .any base t v := hval0
  have hW' := hW
  obtain ⟨p, q, hA0, hV, rfl, hfz, hnd⟩ := hW
  have hA : DataW.TrodAll enc Tryd.prog W 0 (fun _ => true) true Tryd.f3.params.toList args.toList ds p := hA0
  rw [Tryd.params3] at hA hval
  obtain ⟨v0, vs0, d0, ds0, p0, q0, hargs, rfl, rfl, h0, r0⟩ := trodAll_cons hA
  obtain ⟨v1, vs1, d1, ds1, p1, q1, rfl, rfl, rfl, h1, r1⟩ := trodAll_cons r0
  obtain ⟨rfl, rfl, rfl⟩ := trodAll_nil r1
  obtain rfl : args = #[v0, v1] := by cases args; simp_all
  obtain ⟨rfl, rfl⟩ := trodVars_none hV
  have k0 := h0
  have lt0 : ∀ x ∈ p0, x.block < W.heap.size := by obtain ⟨m, hm⟩ := k0; exact DataW.trod_lt m _ _ _ hm
  obtain ⟨A0, n0, c0, a0, rfl, hs0, hm0⟩ := open_sl Tryd.underlying22 Tryd.underlying5 (by kernel_rfl) (hval 0 22 v0 rfl rfl) h0
  have k1 := h1
  have lt1 : ∀ x ∈ p1, x.block < W.heap.size := by obtain ⟨m, hm⟩ := k1; exact DataW.trod_lt m _ _ _ hm
  obtain ⟨A1, n1, c1, a1, rfl, hs1, hm1⟩ := open_sl Tryd.underlying22 Tryd.underlying5 (by kernel_rfl) (hval 1 22 v1 rfl rfl) h1
  clear hA0 hval0
  refine (walk a0 n0 c0 A0 a1 n1 c1 A1 W hs0 hm0 hs1 hm1 (tab_of hL)).mono fun e W' ⟨he, bel⟩ => ?_
  subst he
  exact ⟨_, rfl, _, _, _, [], _, [], hW', trodAll_mk1 (shut_bool Tryd.underlying4 _), (trodAll_cons_mk (Below.trod laidOut (by kernel_rfl) (of_decide_eq_true (by kernel_rfl)) k0 bel lt0) (trodAll_cons_mk (Below.trod laidOut (by kernel_rfl) (of_decide_eq_true (by kernel_rfl)) k1 bel lt1) trodAll_mk0)), rfl, bel.frame _, fun h => by cases h⟩

theorem over : Rows.macSumsRow.holds Tryd.pinned (OpenSpec.ofChange Rows.macSumsSpec) :=
  OpenClaim.holds_of_wide 3 Tryd.f3 rfl rfl rfl rfl rfl rfl rfl ⟨rfl, rfl, rfl, rfl, rfl⟩ rfl rfl rfl rfl rfl (by kernel_rfl) Tryd.func3 (by kernel_rfl)
    (of_decide_eq_true (by kernel_rfl)) (by unfold Func.isWrapper; first | (rw [if_pos (by decide +kernel)]; kernel_rfl) | (rw [if_neg (by decide +kernel)]; exact ⟨rfl, rfl⟩))
    (fun os started H enc _ => lifted os started H enc)

theorem proved : Rows.MacSumsCardSaid :=
  Claim7.holds_tied_plain_at .later [] [.data] true (true, "123987e15518b204523d58b1533dab46aa70de88d832fed111983713d9c464aa") false
    over (fun _ h => by cases h) (by kernel_rfl) (fun _ h => by cases h) macSums_row_tie rfl ⟨rfl, rfl⟩ (by kernel_rfl) rfl
    (fun f fn hf hfn => by
      obtain rfl : f = 3 := Option.some.inj ((show Tryd.prog.funcNamed "strongroom/strongroomlaw06.MacSums" = some 3 by kernel_rfl).symm.trans hf) |>.symm
      obtain rfl : fn = Tryd.f3 := (Option.some.inj (Tryd.func3.symm.trans hfn)).symm
      exact ⟨by kernel_rfl, fun j t ht => by
        rw [Tryd.params3] at ht
        have hm : t ∈ [22] := by simpa using Array.mem_of_getElem? ht
        have hall : ([22].all fun u => !Tryd.prog.wantsStandIn u) = true := by kernel_rfl
        exact (show Tryd.prog.wantsStandIn t = false by simpa using List.all_eq_true.1 hall t hm)⟩)
    (by kernel_rfl)
#print axioms proved
end Go.Proofs.YtbncangoaldmiaaDoor.macSums
