/- The statement MacSteps: the law strongroomlaw06.MacSteps answers true for every input, and leaves its arguments as they were. Condition: the package variables that the row lists read at the call as the text of the program lays them; the card ties that. -/
import Derived.Test.YtbncangoaldmiaaDoorRows
import Derived.Test.YtbncangoaldmiaaDoorLib
import Derived.Test.YtbncangoaldmiaaDoorMacX
import Derived.Test.YtbncangoaldmiaaDoorMacS
import Derived.Test.YtbncangoaldmiaaDoorTab
import Derived.Test.YtbncangoaldmiaaDoorCards
import Derived.Test.YtbncangoaldmiaaDoorTie
import Derived.SevenTiedAt
namespace Go.Proofs.YtbncangoaldmiaaDoor.macSteps
open Go.ChangeShapes Go.WideShapes Go.ChangeAt Go.RowKit
open Go.Proofs.YtbncangoaldmiaaDoor.Oct
set_option linter.unusedVariables false

theorem own : ownKnob Tryd.prog.godebug = none := by kernel_rfl
theorem laidOut : laidOutB Tryd.prog = true := by kernel_rfl

set_option maxRecDepth 20000 in
set_option maxHeartbeats 4000000 in
theorem walk (a0 : Nat → BitVec 8) (n0 c0 : Nat) (A0 : Option Addr) (a1 : Nat → BitVec 8) (n1 c1 : Nat) (A1 : Option Addr) (a2 : Int) (w : World) (hs0 : Sl w w.heap.size A0 n0 c0 a0) (hm0 : c0 ≤ maxLen) (hs1 : Sl w w.heap.size A1 n1 c1 a1) (hm1 : c1 ≤ maxLen) (w2 : (Lit.int .i64 a2).wf = true) (htab : Tab w) :
    Calls Tryd.prog 8 #[.slice A0 n0 c0, .slice A1 n1 c1, .int .i64 a2] w fun e w' => e = .returned (.bool true) ∧ Below w.heap.size w w' := by
  have HT := Lib.hid htab
  have HS0 := Lib.hid hs0
  have HS1 := Lib.hid hs1
  have hn0 : n0 ≤ c0 := hs0.le
  have hn1 : n1 ≤ c1 := hs1.le
  have HM0 := Lib.hid hm0
  have HM1 := Lib.hid hm1
  have W2 := Lib.hid w2
  unfold maxLen at hm0 hm1
  clear hs0 hs1 htab w2
  go_enter Tryd.func8, Tryd.ntmps8
  go_wp2_with fail
  refine (shown_any _ HT.out).mono ?_
  rintro e w1 ⟨rfl, hb1⟩
  have B1 := Lib.hid hb1
  have hw1 := hb1.size
  have HT1 := Lib.hid (HT.out.below hb1 HT.out.pos)
  clear hb1
  go_wp2_with fail
  refine (few_any A0 n0 c0 hn0 HM0.out _).mono ?_
  rintro e w1' ⟨rfl, rfl⟩
  go_wp2_with fail
  refine (few_any A1 n1 c1 hn1 HM1.out _).mono ?_
  rintro e w1' ⟨rfl, rfl⟩
  obtain ⟨N, hN⟩ : ∃ N, N = min n0 1000 := ⟨_, rfl⟩
  obtain ⟨M, hM⟩ : ∃ M, M = min n1 1000 := ⟨_, rfl⟩
  have K0 := Lib.hid ((HS0.out.below B1.out).upto N (by omega))
  have K1 := Lib.hid ((HS1.out.below B1.out).upto M (by omega))
  rw [← hN, ← hM]
  have hN1 : N ≤ 1000 := by omega
  have hM1 : M ≤ 1000 := by omega
  clear HS0 HS1 hN hM hn0 hn1 hm0 hm1
  have hwf := bounds_i64 W2.out
  rcases Int.lt_or_le a2 0 with hneg | hpos
  case' inl =>
    obtain ⟨K, hK, hK10⟩ : ∃ K : Nat, -((a2 + 1).tmod 11) = (K : Int) ∧ K ≤ 10 := by
      rw [← Int.neg_tmod, Int.tmod_eq_emod_of_nonneg (by omega)]
      exact ⟨((-(a2 + 1)) % 11).toNat, by omega, by omega⟩
    have hd : decide (a2 < 0) = true := by simpa using hneg
  case' inr =>
    obtain ⟨K, hK, hK10⟩ : ∃ K : Nat, a2 % 11 = (K : Int) ∧ K ≤ 10 := ⟨(a2 % 11).toNat, by omega, by omega⟩
    have hd : decide (a2 < 0) = false := by simpa using hpos
  all_goals
    have HK := Lib.hid hK
    clear hK
    go_wp2_with fail
    rw [HK.out]
    try rw [IntWalk.wrap64_in (32 * (K : Int)) (by omega)]
    rw [show (32 * (K : Int)) = ((32 * K : Nat) : Int) by omega]
    have k0 := Lib.hid (K0.out.more hw1)
    have k1 := Lib.hid (K1.out.more hw1)
    refine (mexp_any a0 a1 N M c0 c1 A0 A1 (32 * K) w1 HT1.out k0.out k1.out (by omega) (by omega) (by omega)).mono ?_
    rintro e w2 ⟨rfl, hr2, hb2⟩
    have hw2 := hb2.size
    have l0 := Lib.hid ((k0.out.below hb2).more hw2)
    have l1 := Lib.hid ((k1.out.below hb2).more hw2)
    obtain ⟨g, hg⟩ : ∃ g, g = w1.heap.size := ⟨_, rfl⟩
    rw [← hg] at hr2 ⊢
    have R2 := Lib.hid hr2
    have B2 := Lib.hid (onto B1.out hw1 hb2)
    obtain ⟨LL, hLL⟩ : ∃ LL, LL = 32 * K := ⟨_, rfl⟩
    have HLL := Lib.hid hLL
    rw [← hLL] at R2 ⊢
    clear hr2 hb2 k0 k1 K0 K1 HT1 hg hLL hwf
    go_wp2_with fail
    have O0 := Lib.hid (show Own ((w2.alloc (.cells #[] 5)).alloc (.cells #[] 5)) w2.heap.size 5 (.slice (some ⟨w2.heap.size, 0, none⟩) 0 0) (32 * 0) (expF a0 N a1 M) from (Own.empty w2 w2.heap.size 5 _ (Nat.le_refl _)).alloc _)
    have P0 := Lib.hid (show Below w2.heap.size w2 ((w2.alloc (.cells #[] 5)).alloc (.cells #[] 5)) from ((Below.refl _ _).alloc (by simp) _).alloc (by simp) _)
    go_loopw [11, 12, 13] (fun ov lv iv wr => ∃ j : Nat, j ≤ K ∧ iv = .int .i64 ((j + 1 : Nat) : Int) ∧ Own wr w2.heap.size 5 ov (32 * j) (expF a0 N a1 M) ∧ (∃ Al cl, lv = .slice Al (lstL j) cl ∧ Sl wr wr.heap.size Al (lstL j) cl (expT a0 N a1 M j)) ∧ Below w2.heap.size w2 wr) (fun _ _ iv _ => K + 2 - (intOf iv).toNat)
    case' atStart => exact ⟨0, by omega, rfl, O0.out, ⟨_, _, rfl, Sl.nothing _ _ _ _ _⟩, P0.out⟩
    case' round =>
      clear O0 P0
      obtain ⟨j, hj, rfl, ho, ⟨Al, cl, rfl, hl⟩, hP⟩ := hrel
      obtain ⟨wo, rfl⟩ : ∃ wo : World, wo = wr := ⟨_, rfl⟩
      obtain ⟨Ao, co, hvo, hslo, hco, -⟩ := ho.sl
      subst hvo
      have HO := Lib.hid ho
      have HSO := Lib.hid hslo
      have HL := Lib.hid hl
      have HP := Lib.hid hP
      have hP2 := hP.size
      have hlen : lstL j ≤ 32 := by unfold lstL; split <;> omega
      have T1 := Lib.hid (HT.out.below (onto B2.out (by omega) hP) HT.out.pos)
      have m0 := Lib.hid ((l0.out.below hP).more hP2)
      have m1 := Lib.hid ((l1.out.below hP).more hP2)
      clear ho hslo hl hP hco
      obtain ⟨J, hJ1⟩ : ∃ J, J = j + 1 := ⟨_, rfl⟩
      rw [← hJ1]
      have HJ1 := Lib.hid hJ1
      by_cases hlt : j < K
      · have hd2 : decide (J ≤ K) = true := by simp; omega
        have hle : J ≤ K := by omega
        have hJb : J ≤ 11 := by omega
        have HCE := Lib.hid (show (J : Int) = I (BitVec.ofNat 8 J) by rw [← I_ofN J]; omega)
        clear hJ1
        have OE := Lib.hid (Own.empty wo wo.heap.size 5 nF (Nat.le_refl _))
        have LA := Lib.hid (HL.out.below ((Below.refl wo.heap.size wo).alloc (Nat.le_refl _) (.cells #[] 5)))
        go_wp2_with (at_builtin; first
          | (refine wpl_appB rfl (.tmp 43) (.tmp 44) rfl sli_u u8_info OE.out LA.out (by omega) (by simp) rfl rfl ?_; intro v3 w3 ho3 hg3 ht3
             rw [catF_zero, Nat.zero_add] at ho3
             have b3 := OE.out.after hg3 ((Below.refl wo.heap.size wo).alloc (Nat.le_refl _) _) (by simp) (Nat.le_refl _)
             have hs3 := b3.size
             have B3 := Lib.hid b3
             have O3 := Lib.hid ho3
             have I3 := Lib.hid (m1.out.below b3)
             clear ho3 hg3 ht3 b3 OE LA)
          | (refine wpl_appB rfl (.tmp 45) (.tmp 46) rfl sli_u u8_info O3.out I3.out (by omega) hs3 rfl rfl ?_; intro v4 w4 ho4 hg4 ht4
             have b4 := O3.out.after hg4 B3.out hs3 (Nat.le_refl _)
             have hs4 := b4.size
             have B4 := Lib.hid b4
             have O4 := Lib.hid (ho4.alloc (.cells #[.int .u8 (J : Int)] 5))
             have N4 := Lib.hid (show Sl (w4.alloc (.cells #[.int .u8 (J : Int)] 5)) (w4.heap.size + 1) (some ⟨w4.heap.size, 0, none⟩) 1 1 (fun _ => BitVec.ofNat 8 J) by rw [HCE.out]; exact Sl.one w4 5 (BitVec.ofNat 8 J) (w4.heap.size + 1) (by omega))
             clear ho4 hg4 ht4 b4 O3 I3 B3)
          | (refine wpl_appB rfl (.tmp 47) (.tmp 50) rfl sli_u u8_info O4.out N4.out (by omega) (Nat.le_trans hs4 (by simp)) rfl rfl ?_; intro v5 w5 ho5 hg5 ht5))
        have b5 := O4.out.after hg5 (B4.out.alloc hs4 _) (Nat.le_trans hs4 (by simp)) (Nat.le_refl _)
        have hs5 := b5.size
        have B5 := Lib.hid b5
        have T5 := Lib.hid (T1.out.below b5 T1.out.pos)
        have M5 := Lib.hid ((m0.out.below b5).more hs5)
        obtain ⟨A5, c5, hv5, hsl5, -, -⟩ := ho5.sl
        subst hv5
        have L5 := Lib.hid hsl5
        clear ho5 hg5 ht5 b5 hsl5 O4 N4 B4
        refine (msum_any a0 _ N _ c0 c5 A0 A5 w5 T5.out M5.out L5.out (by omega) (by omega)).mono ?_
        rintro e w6 ⟨rfl, hb6⟩
        obtain ⟨S, hS⟩ : ∃ S, S = expT a0 N a1 M (j + 1) := ⟨_, rfl⟩
        rw [show macF a0 N (catF (lstL j + M) (catF (lstL j) (expT a0 N a1 M j) a1) fun _ => BitVec.ofNat 8 J) (lstL j + M + 1) = S by rw [hS, HJ1.out]; rfl]
        have HSS := Lib.hid hS
        have hs6 := hb6.size
        obtain ⟨w7, hw7⟩ : ∃ w7, w7 = w6.alloc (.cells (ba 32 S) 26) := ⟨_, rfl⟩
        have B7 := Lib.hid (show Below wo.heap.size wo w7 by rw [hw7]; exact (onto B5.out hs5 hb6).alloc (by omega) _)
        have r7 : row w7 w6.heap.size = some (ba 32 S) := by rw [hw7]; exact row_alloc_at _ _ _ _ rfl
        have R7 := Lib.hid r7
        have hz7 : w7.heap.size = w6.heap.size + 1 := by rw [hw7]; simp
        have O7 := Lib.hid (HO.out.below B7.out (Nat.le_refl _))
        have N7 := Lib.hid (Sl.of_row r7 w7.heap.size (by omega))
        have P7 := Lib.hid (onto HP.out hP2 B7.out)
        have a1' := sum_sl_all w6.heap.size
        have HB72 := Lib.hid (show w2.heap.size ≤ w7.heap.size by omega)
        clear hb6 hS r7 T5 M5 L5 B5 m0 m1 T1 hz7
        subst hw7
        go_wp2_with (at_builtin; refine wpl_appB rfl (.tmp 54) (.tmp 55) rfl sli_u u8_info O7.out N7.out (by omega) HB72.out rfl rfl ?_; intro v8 w8 ho8 hg8 ht8)
        have b8 := O7.out.after hg8 P7.out HB72.out (Nat.le_refl _)
        have P8 := Lib.hid b8
        have r8 := grown_row hg8 R7.out (fun e => by have := (HO.out.lt e).2; omega)
        have L8 := Lib.hid (Sl.of_row r8 w8.heap.size (row_lt r8))
        have O8 := Lib.hid (show Own w8 w2.heap.size 5 v8 (32 * (j + 1)) (expF a0 N a1 M) by
          rw [show 32 * (j + 1) = 32 * j + 32 by omega]
          refine ho8.congr fun i hi => ?_
          unfold catF
          by_cases h : i < 32 * j
          · rw [if_pos h]
          · rw [if_neg h, HSS.out]
            unfold expF
            rw [show i / 32 = j by omega, show i % 32 = i - 32 * j by omega])
        obtain ⟨A13, c13, hv13, -, -, -⟩ := O8.out.sl
        subst hv13
        clear ho8 hg8 ht8 r8 b8 R7 O7 N7 P7 a1'
        go_roundw
        case rel => exact ⟨j + 1, by omega, by rw [HJ1.out]; rfl, O8.out, ⟨_, _, rfl, by rw [← HSS.out]; exact L8.out⟩, P8.out⟩
        case measure =>
          have := HJ1.out
          simp only [intOf]
          omega
      · have hd2 : decide (J ≤ K) = false := by simp; omega
        have hle : ¬ J ≤ K := by omega
        have hjK : 32 * j = LL := by rw [HLL.out, show j = K by omega]
        obtain ⟨SX, hSX⟩ : ∃ SX, SX = strOf LL (expF a0 N a1 M) := ⟨_, rfl⟩
        have rg := carry HP.out R2.out
        have cv1 := run_str (P := Tryd.prog) sli_u u8_u str_u (Sl.of_row rg wo.heap.size (row_lt rg))
        have cv2 := run_str (P := Tryd.prog) sli_u u8_u str_u HSO.out
        rw [hjK] at cv2 ⊢
        rw [← hSX] at cv1 cv2
        have HFN := Lib.hid (onto B2.out (by omega) HP.out)
        clear hJ1 hSX rg hjK
        go_wp2_with fail
        go_ret
        exact ⟨rfl, HFN.out⟩

set_option maxRecDepth 100000 in
theorem lifted (os : Os) (started : os.Started) (H : Type) (enc : TypeId × Value → H) :
    ReturnsInHanded {} Tryd.checked os 8 .any (fun w args => (Rows.macStepsSpec.pre enc Tryd.prog Tryd.f8 [] false w args ∧ laidMetH Tryd.prog laidL w) ∧ sizedMet enc Tryd.prog Tryd.f8 (OpenSpec.ofChange Rows.macStepsSpec) false w args) (Rows.macStepsSpec.post enc Tryd.prog Tryd.f8 false true false false) := by
  refine returnsInHanded_of_change_and (C := Tryd.checked) (X := fun w _ => laidMetH Tryd.prog laidL w) (fun _ _ _ hh h => h.of_heap hh) own started (by kernel_rfl) Tryd.func8
    (ChangeSpec.witness_shaped (enc := enc) (C := Tryd.checked) (os := os) (X := fun w _ => laidMetH Tryd.prog laidL w) false (World.doorLaid Tryd.prog 14 os) #[.slice none 0 0, .slice none 0 0, .int .i64 0] 8 rfl (World.shaped_of_RefB (by kernel_rfl) (by kernel_rfl)) (by kernel_rfl) (by kernel_rfl) (by kernel_rfl) (door_met os _)) ?_
  intro W base args ds gs before hval0 hW _ _ hL _
  have hval : ∀ (j : Nat) t v, Tryd.f8.params[j]? = some t → args[j]? = some v → Value.okWide Tryd.prog W .any base t v := hval0
  have hW' := hW
  obtain ⟨p, q, hA0, hV, rfl, hfz, hnd⟩ := hW
  have hA : DataW.TrodAll enc Tryd.prog W 0 (fun _ => true) true Tryd.f8.params.toList args.toList ds p := hA0
  rw [Tryd.params8] at hA hval
  obtain ⟨v0, vs0, d0, ds0, p0, q0, hargs, rfl, rfl, h0, r0⟩ := trodAll_cons hA
  obtain ⟨v1, vs1, d1, ds1, p1, q1, rfl, rfl, rfl, h1, r1⟩ := trodAll_cons r0
  obtain ⟨v2, vs2, d2, ds2, p2, q2, rfl, rfl, rfl, h2, r2⟩ := trodAll_cons r1
  obtain ⟨rfl, rfl, rfl⟩ := trodAll_nil r2
  obtain rfl : args = #[v0, v1, v2] := by cases args; simp_all
  obtain ⟨rfl, rfl⟩ := trodVars_none hV
  have k0 := h0
  have lt0 : ∀ x ∈ p0, x.block < W.heap.size := by obtain ⟨m, hm⟩ := k0; exact DataW.trod_lt m _ _ _ hm
  obtain ⟨A0, n0, c0, a0, rfl, hs0, hm0⟩ := open_sl Tryd.underlying22 Tryd.underlying5 (by kernel_rfl) (hval 0 22 v0 rfl rfl) h0
  have k1 := h1
  have lt1 : ∀ x ∈ p1, x.block < W.heap.size := by obtain ⟨m, hm⟩ := k1; exact DataW.trod_lt m _ _ _ hm
  obtain ⟨A1, n1, c1, a1, rfl, hs1, hm1⟩ := open_sl Tryd.underlying22 Tryd.underlying5 (by kernel_rfl) (hval 1 22 v1 rfl rfl) h1
  obtain ⟨a2, rfl, rfl, rfl, w2⟩ := open_int Tryd.underlying3 (hval 2 3 v2 rfl rfl) h2
  clear hA0 hval0
  refine (walk a0 n0 c0 A0 a1 n1 c1 A1 a2 W hs0 hm0 hs1 hm1 w2 (tab_of hL)).mono fun e W' ⟨he, bel⟩ => ?_
  subst he
  exact ⟨_, rfl, _, _, _, [], _, [], hW', trodAll_mk1 (shut_bool Tryd.underlying4 _), (trodAll_cons_mk (Below.trod laidOut (by kernel_rfl) (of_decide_eq_true (by kernel_rfl)) k0 bel lt0) (trodAll_cons_mk (Below.trod laidOut (by kernel_rfl) (of_decide_eq_true (by kernel_rfl)) k1 bel lt1) (trodAll_cons_mk (shut_int Tryd.underlying3 w2) trodAll_mk0))), rfl, bel.frame _, fun h => by cases h⟩

theorem over : Rows.macStepsRow.holds Tryd.pinned (OpenSpec.ofChange Rows.macStepsSpec) :=
  OpenClaim.holds_of_wide 8 Tryd.f8 rfl rfl rfl rfl rfl rfl rfl ⟨rfl, rfl, rfl, rfl, rfl⟩ rfl rfl rfl rfl rfl (by kernel_rfl) Tryd.func8 (by kernel_rfl)
    (of_decide_eq_true (by kernel_rfl)) (by unfold Func.isWrapper; first | (rw [if_pos (by decide +kernel)]; kernel_rfl) | (rw [if_neg (by decide +kernel)]; exact ⟨rfl, rfl⟩))
    (fun os started H enc _ => lifted os started H enc)

theorem proved : Rows.MacStepsCardSaid :=
  Claim7.holds_tied_plain_at .later [] [.data] true (true, "123987e15518b204523d58b1533dab46aa70de88d832fed111983713d9c464aa") false
    over (fun _ h => by cases h) (by kernel_rfl) (fun _ h => by cases h) macSteps_row_tie rfl ⟨rfl, rfl⟩ (by kernel_rfl) rfl
    (fun f fn hf hfn => by
      obtain rfl : f = 8 := Option.some.inj ((show Tryd.prog.funcNamed "strongroom/strongroomlaw06.MacSteps" = some 8 by kernel_rfl).symm.trans hf) |>.symm
      obtain rfl : fn = Tryd.f8 := (Option.some.inj (Tryd.func8.symm.trans hfn)).symm
      exact ⟨by kernel_rfl, fun j t ht => by
        rw [Tryd.params8] at ht
        have hm : t ∈ [22, 3] := by simpa using Array.mem_of_getElem? ht
        have hall : ([22, 3].all fun u => !Tryd.prog.wantsStandIn u) = true := by kernel_rfl
        exact (show Tryd.prog.wantsStandIn t = false by simpa using List.all_eq_true.1 hall t hm)⟩)
    (by kernel_rfl)
#print axioms proved
end Go.Proofs.YtbncangoaldmiaaDoor.macSteps
