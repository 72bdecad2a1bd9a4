/- The statement MacExpands: the law strongroomlaw06.MacExpands answers true for every input, and leaves its arguments as they were. Condition: the package variables that the row lists read at the call as the text of the program lays them; the card ties that. -/
import Derived.Test.YtbncangoaldmiaaDoorRows
import Derived.Test.YtbncangoaldmiaaDoorLib
import Derived.Test.YtbncangoaldmiaaDoorMacX
import Derived.Test.YtbncangoaldmiaaDoorMacS
import Derived.Test.YtbncangoaldmiaaDoorTab
import Derived.Test.YtbncangoaldmiaaDoorCards
import Derived.Test.YtbncangoaldmiaaDoorTie
import Derived.SevenTiedAt
namespace Go.Proofs.YtbncangoaldmiaaDoor.macExpands
open Go.ChangeShapes Go.WideShapes Go.ChangeAt Go.RowKit
open Go.Proofs.YtbncangoaldmiaaDoor.Oct
set_option linter.unusedVariables false

theorem own : ownKnob Tryd.prog.godebug = none := by kernel_rfl
theorem laidOut : laidOutB Tryd.prog = true := by kernel_rfl

set_option maxRecDepth 20000 in
set_option maxHeartbeats 4000000 in
theorem walk (a0 : Nat → BitVec 8) (n0 c0 : Nat) (A0 : Option Addr) (a1 : Nat → BitVec 8) (n1 c1 : Nat) (A1 : Option Addr) (a2 : Int) (w : World) (hs0 : Sl w w.heap.size A0 n0 c0 a0) (hm0 : c0 ≤ maxLen) (hs1 : Sl w w.heap.size A1 n1 c1 a1) (hm1 : c1 ≤ maxLen) (w2 : (Lit.int .i64 a2).wf = true) (htab : Tab w) :
    Calls Tryd.prog 6 #[.slice A0 n0 c0, .slice A1 n1 c1, .int .i64 a2] w fun e w' => e = .returned (.bool true) ∧ Below w.heap.size w w' := by
  have HT := Lib.hid htab
  have HS0 := Lib.hid hs0
  have HS1 := Lib.hid hs1
  have hn0 : n0 ≤ c0 := hs0.le
  have hn1 : n1 ≤ c1 := hs1.le
  have HM0 := Lib.hid hm0
  have HM1 := Lib.hid hm1
  unfold maxLen at hm0 hm1
  clear hs0 hs1 htab
  go_enter Tryd.func6, Tryd.ntmps6
  go_wp2_with fail
  refine (shown_any _ HT.out).mono ?_
  rintro e w1 ⟨rfl, hb1⟩
  have B1 := Lib.hid hb1
  have hw1 := hb1.size
  have HT1 := Lib.hid (HT.out.below hb1 HT.out.pos)
  clear hb1
  go_wp2_with fail
  refine (few_any A0 n0 c0 hn0 HM0.out _).mono ?_
  rintro e w1' ⟨rfl, rfl⟩
  go_wp2_with fail
  refine (few_any A1 n1 c1 hn1 HM1.out _).mono ?_
  rintro e w1' ⟨rfl, rfl⟩
  obtain ⟨N, hN⟩ : ∃ N, N = min n0 1000 := ⟨_, rfl⟩
  obtain ⟨M, hM⟩ : ∃ M, M = min n1 1000 := ⟨_, rfl⟩
  have K0 := Lib.hid ((HS0.out.below B1.out).upto N (by omega))
  have K1 := Lib.hid ((HS1.out.below B1.out).upto M (by omega))
  rw [← hN, ← hM]
  have hN1 : N ≤ 1000 := by omega
  have hM1 : M ≤ 1000 := by omega
  clear HS0 HS1 hN hM hn0 hn1 hm0 hm1
  by_cases hbad : a2 < 0 ∨ 8160 < a2
  · go_wp2_with fail
    refine (mexp_bad A0 A1 N M c0 c1 a2 w1 hbad).mono ?_
    rintro e w2' ⟨rfl, rfl⟩
    by_cases h0 : a2 < 0
    · have hd : decide (a2 < 0) = true := by simpa using h0
      clear hbad
      go_wp2_with fail
      go_ret
      exact ⟨rfl, B1.out⟩
    · have hd : decide (a2 < 0) = false := by simpa using h0
      have hd2 : decide (8160 < a2) = true := by simp; omega
      clear hbad
      go_wp2_with fail
      go_ret
      exact ⟨rfl, B1.out⟩
  · obtain ⟨L, rfl⟩ : ∃ L : Nat, a2 = (L : Int) := ⟨a2.toNat, by omega⟩
    have hL : L ≤ 8160 := by omega
    clear hbad
    have k0 := Lib.hid (K0.out.more hw1)
    have k1 := Lib.hid (K1.out.more hw1)
    have hd : decide ((L : Int) < 0) = false := by simp
    have hd2 : decide ((8160 : Int) < (L : Int)) = false := by simp; omega
    go_wp2_with fail
    refine (mexp_any a0 a1 N M c0 c1 A0 A1 L w1 HT1.out k0.out k1.out (by omega) (by omega) hL).mono ?_
    rintro e w2 ⟨rfl, hr2, hb2⟩
    have R2 := Lib.hid hr2
    have B2 := Lib.hid (onto B1.out hw1 hb2)
    have hw2 := hb2.size
    have l0 := Lib.hid ((k0.out.below hb2).more hw2)
    have l1 := Lib.hid ((k1.out.below hb2).more hw2)
    clear hr2 hb2
    rcases Nat.lt_or_ge 2000 L with hle | hle
    case' inl =>
      have hq : ¬ ((L : Int) ≤ 2000) := by omega
      obtain ⟨T, hTL, HC, hup⟩ : ∃ T, T ≤ L ∧ (Calls Tryd.prog 16 #[.slice A0 N c0, .slice A1 M c1, .int .i64 2000] w2 fun e w' => ∃ A9 c9, e = .returned (.tuple #[.slice A9 T c9, .int .i64 0]) ∧ Sl w' w'.heap.size A9 T c9 (expF a0 N a1 M) ∧ c9 ≤ maxLen ∧ Below w2.heap.size w2 w') ∧
          ∀ w, (Instr.slice 22 (.slice (some ⟨w1.heap.size, 0, none⟩) L L) none (some (.int .i64 2000)) none).run Tryd.prog w = .ok (.slice (some ⟨w1.heap.size, 0, none⟩) T L) w :=
        ⟨2000, by omega, rexp_any a0 a1 N M c0 c1 A0 A1 2000 w2 l0.out l1.out (by omega) (by omega) (by omega), run_upto sli_u u8_i _ L L 2000 (by omega)⟩
    case' inr =>
      have hq : ((L : Int) ≤ 2000) := by omega
      obtain ⟨T, hTL, HC, hup⟩ : ∃ T, T ≤ L ∧ (Calls Tryd.prog 16 #[.slice A0 N c0, .slice A1 M c1, .int .i64 (L : Int)] w2 fun e w' => ∃ A9 c9, e = .returned (.tuple #[.slice A9 T c9, .int .i64 0]) ∧ Sl w' w'.heap.size A9 T c9 (expF a0 N a1 M) ∧ c9 ≤ maxLen ∧ Below w2.heap.size w2 w') ∧
          ∀ w, (Instr.slice 22 (.slice (some ⟨w1.heap.size, 0, none⟩) L L) none (some (.int .i64 (L : Int))) none).run Tryd.prog w = .ok (.slice (some ⟨w1.heap.size, 0, none⟩) T L) w :=
        ⟨L, by omega, rexp_any a0 a1 N M c0 c1 A0 A1 L w2 l0.out l1.out (by omega) (by omega) (by omega), run_upto sli_u u8_i _ L L L (by omega)⟩
    all_goals
      have HCC := Lib.hid HC
      have HUP := Lib.hid hup
      have HTL := Lib.hid hTL
      have HQ := Lib.hid hq
      clear HC hTL hle hup
      go_wp2_with fail
      refine HCC.out.mono ?_
      rintro e w3 ⟨A9, c9, rfl, hs9, hc9, hb3⟩
      have hw3 := hb3.size
      have R3 := Lib.hid (carry hb3 R2.out)
      have S9 := Lib.hid hs9
      have B3 := Lib.hid (onto B2.out (by omega) hb3)
      have m0 := Lib.hid ((l0.out.below hb3).more hw3)
      have m1 := Lib.hid ((l1.out.below hb3).more hw3)
      have hdiv : ((L / 2 : Nat) : Int) = (L : Int) / 2 := by omega
      have HT3 := Lib.hid (HT.out.below B3.out HT.out.pos)
      have HC2 := mexp_any a0 a1 N M c0 c1 A0 A1 (L / 2) w3 HT3.out m0.out m1.out (by omega) (by omega) (by omega)
      have hup2 := run_upto sli_u u8_i (some (⟨w1.heap.size, 0, none⟩ : Addr)) L L (L / 2) (by omega)
      rw [hdiv] at HC2 hup2
      obtain ⟨H, hH⟩ : ∃ H, H = L / 2 := ⟨_, rfl⟩
      rw [← hH] at HC2 hup2
      have HCD := Lib.hid HC2
      have HUP2 := Lib.hid hup2
      have hHL : H ≤ L := by omega
      have HHL := Lib.hid hHL
      clear hs9 hb3 hc9 l0 l1 B2 R2 HC2 hup2 hdiv hH hHL
      go_wp2_with fail
      refine HCD.out.mono ?_
      rintro e w4 ⟨rfl, hr4, hb4⟩
      have hw4 := hb4.size
      have R4 := Lib.hid (carry hb4 R3.out)
      have Q4 := Lib.hid hr4
      have S4 := Lib.hid ((S9.out.below hb4).more hw4)
      have B4 := Lib.hid (onto B3.out (by omega) hb4)
      clear hr4 hb4 R3 S9 B3 m0 m1 HCD HCC HT3
      obtain ⟨SX, hSX⟩ : ∃ SX, SX = strOf T (expF a0 N a1 M) := ⟨_, rfl⟩
      obtain ⟨SH, hSH⟩ : ∃ SH, SH = strOf H (expF a0 N a1 M) := ⟨_, rfl⟩
      have X4 := Lib.hid (Sl.of_row R4.out w4.heap.size (row_lt R4.out))
      have Y4 := Lib.hid (Sl.of_row Q4.out w4.heap.size (row_lt Q4.out))
      have cv1 : ∀ x : After w4, (convert 22 9 (.slice (some ⟨w1.heap.size, 0, none⟩) T L)).run Tryd.prog x.val = .ok (.string SX) x.val := fun x => by
        rw [hSX]; exact run_str sli_u u8_u str_u ((After.sl X4.out x).upto T HTL.out)
      have cv2 : ∀ x : After w4, (convert 22 9 (.slice A9 T c9)).run Tryd.prog x.val = .ok (.string SX) x.val := fun x => by
        rw [hSX]; exact run_str sli_u u8_u str_u (After.sl S4.out x)
      have cv3 : ∀ x : After w4, (convert 22 9 (.slice (some ⟨w3.heap.size, 0, none⟩) H H)).run Tryd.prog x.val = .ok (.string SH) x.val := fun x => by
        rw [hSH]; exact run_str sli_u u8_u str_u (After.sl Y4.out x)
      have cv4 : ∀ x : After w4, (convert 22 9 (.slice (some ⟨w1.heap.size, 0, none⟩) H L)).run Tryd.prog x.val = .ok (.string SH) x.val := fun x => by
        rw [hSH]; exact run_str sli_u u8_u str_u ((After.sl X4.out x).upto H HHL.out)
      have hup := HUP.out
      have hup2 := HUP2.out
      have hq := HQ.out
      clear hSX hSH
      go_wp2_with fail
      refine seen_region (by kernel_rfl) (by kernel_rfl) ?_
      repeat (go_big_quiet_step (fail))
      refine wpQuiet_nil ?_
      rintro _ ⟨x, rfl⟩
      have hfin := Lib.hid (onto B4.out (by omega) x.below)
      clear cv1 cv2 cv3 cv4 hup hup2
      go_wp2_with fail
      go_ret
      exact ⟨rfl, hfin.out⟩

set_option maxRecDepth 100000 in
theorem lifted (os : Os) (started : os.Started) (H : Type) (enc : TypeId × Value → H) :
    ReturnsInHanded {} Tryd.checked os 6 .any (fun w args => (Rows.macExpandsSpec.pre enc Tryd.prog Tryd.f6 [] false w args ∧ laidMetH Tryd.prog laidL w) ∧ sizedMet enc Tryd.prog Tryd.f6 (OpenSpec.ofChange Rows.macExpandsSpec) false w args) (Rows.macExpandsSpec.post enc Tryd.prog Tryd.f6 false true false false) := by
  refine returnsInHanded_of_change_and (C := Tryd.checked) (X := fun w _ => laidMetH Tryd.prog laidL w) (fun _ _ _ hh h => h.of_heap hh) own started (by kernel_rfl) Tryd.func6
    (ChangeSpec.witness_shaped (enc := enc) (C := Tryd.checked) (os := os) (X := fun w _ => laidMetH Tryd.prog laidL w) false (World.doorLaid Tryd.prog 14 os) #[.slice none 0 0, .slice none 0 0, .int .i64 0] 8 rfl (World.shaped_of_RefB (by kernel_rfl) (by kernel_rfl)) (by kernel_rfl) (by kernel_rfl) (by kernel_rfl) (door_met os _)) ?_
  intro W base args ds gs before hval0 hW _ _ hL _
  have hval : ∀ (j : Nat) t v, Tryd.f6.params[j]? = some t → args[j]? = some v → Value.okWide Tryd.prog W .any base t v := hval0
  have hW' := hW
  obtain ⟨p, q, hA0, hV, rfl, hfz, hnd⟩ := hW
  have hA : DataW.TrodAll enc Tryd.prog W 0 (fun _ => true) true Tryd.f6.params.toList args.toList ds p := hA0
  rw [Tryd.params6] at hA hval
  obtain ⟨v0, vs0, d0, ds0, p0, q0, hargs, rfl, rfl, h0, r0⟩ := trodAll_cons hA
  obtain ⟨v1, vs1, d1, ds1, p1, q1, rfl, rfl, rfl, h1, r1⟩ := trodAll_cons r0
  obtain ⟨v2, vs2, d2, ds2, p2, q2, rfl, rfl, rfl, h2, r2⟩ := trodAll_cons r1
  obtain ⟨rfl, rfl, rfl⟩ := trodAll_nil r2
  obtain rfl : args = #[v0, v1, v2] := by cases args; simp_all
  obtain ⟨rfl, rfl⟩ := trodVars_none hV
  have k0 := h0
  have lt0 : ∀ x ∈ p0, x.block < W.heap.size := by obtain ⟨m, hm⟩ := k0; exact DataW.trod_lt m _ _ _ hm
  obtain ⟨A0, n0, c0, a0, rfl, hs0, hm0⟩ := open_sl Tryd.underlying22 Tryd.underlying5 (by kernel_rfl) (hval 0 22 v0 rfl rfl) h0
  have k1 := h1
  have lt1 : ∀ x ∈ p1, x.block < W.heap.size := by obtain ⟨m, hm⟩ := k1; exact DataW.trod_lt m _ _ _ hm
  obtain ⟨A1, n1, c1, a1, rfl, hs1, hm1⟩ := open_sl Tryd.underlying22 Tryd.underlying5 (by kernel_rfl) (hval 1 22 v1 rfl rfl) h1
  obtain ⟨a2, rfl, rfl, rfl, w2⟩ := open_int Tryd.underlying3 (hval 2 3 v2 rfl rfl) h2
  clear hA0 hval0
  refine (walk a0 n0 c0 A0 a1 n1 c1 A1 a2 W hs0 hm0 hs1 hm1 w2 (tab_of hL)).mono fun e W' ⟨he, bel⟩ => ?_
  subst he
  exact ⟨_, rfl, _, _, _, [], _, [], hW', trodAll_mk1 (shut_bool Tryd.underlying4 _), (trodAll_cons_mk (Below.trod laidOut (by kernel_rfl) (of_decide_eq_true (by kernel_rfl)) k0 bel lt0) (trodAll_cons_mk (Below.trod laidOut (by kernel_rfl) (of_decide_eq_true (by kernel_rfl)) k1 bel lt1) (trodAll_cons_mk (shut_int Tryd.underlying3 w2) trodAll_mk0))), rfl, bel.frame _, fun h => by cases h⟩

theorem over : Rows.macExpandsRow.holds Tryd.pinned (OpenSpec.ofChange Rows.macExpandsSpec) :=
  OpenClaim.holds_of_wide 6 Tryd.f6 rfl rfl rfl rfl rfl rfl rfl ⟨rfl, rfl, rfl, rfl, rfl⟩ rfl rfl rfl rfl rfl (by kernel_rfl) Tryd.func6 (by kernel_rfl)
    (of_decide_eq_true (by kernel_rfl)) (by unfold Func.isWrapper; first | (rw [if_pos (by decide +kernel)]; kernel_rfl) | (rw [if_neg (by decide +kernel)]; exact ⟨rfl, rfl⟩))
    (fun os started H enc _ => lifted os started H enc)

theorem proved : Rows.MacExpandsCardSaid :=
  Claim7.holds_tied_plain_at .later [] [.data] true (true, "123987e15518b204523d58b1533dab46aa70de88d832fed111983713d9c464aa") false
    over (fun _ h => by cases h) (by kernel_rfl) (fun _ h => by cases h) macExpands_row_tie rfl ⟨rfl, rfl⟩ (by kernel_rfl) rfl
    (fun f fn hf hfn => by
      obtain rfl : f = 6 := Option.some.inj ((show Tryd.prog.funcNamed "strongroom/strongroomlaw06.MacExpands" = some 6 by kernel_rfl).symm.trans hf) |>.symm
      obtain rfl : fn = Tryd.f6 := (Option.some.inj (Tryd.func6.symm.trans hfn)).symm
      exact ⟨by kernel_rfl, fun j t ht => by
        rw [Tryd.params6] at ht
        have hm : t ∈ [22, 3] := by simpa using Array.mem_of_getElem? ht
        have hall : ([22, 3].all fun u => !Tryd.prog.wantsStandIn u) = true := by kernel_rfl
        exact (show Tryd.prog.wantsStandIn t = false by simpa using List.all_eq_true.1 hall t hm)⟩)
    (by kernel_rfl)
#print axioms proved
end Go.Proofs.YtbncangoaldmiaaDoor.macExpands
