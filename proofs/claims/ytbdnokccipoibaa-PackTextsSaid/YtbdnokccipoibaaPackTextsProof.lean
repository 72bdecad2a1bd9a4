/- The statement PackTexts: the law strongroomlaw08.PackTexts answers true for every input, and leaves its arguments as they were. No further condition. -/
import Derived.Test.YtbdnokccipoibaaRows
import Derived.Test.YtbdnokccipoibaaLib
import Derived.Test.YtbdnokccipoibaaPkL
namespace Go.Proofs.Ytbdnokccipoibaa.packTexts
open Go.ChangeShapes Go.WideShapes Go.ChangeAt Go.RowKit
open Go.Proofs.Ytbdnokccipoibaa.Oct
set_option linter.unusedVariables false

theorem own : ownKnob Try.prog.godebug = none := by kernel_rfl
theorem laidOut : laidOutB Try.prog = true := by kernel_rfl

set_option maxRecDepth 20000 in
set_option maxHeartbeats 4000000 in
theorem walk (a0 : Nat → BitVec 8) (n0 c0 : Nat) (A0 : Option Addr) (a1 : Nat → BitVec 8) (n1 c1 : Nat) (A1 : Option Addr) (a2 : Int) (w : World) (hs0 : Sl w w.heap.size A0 n0 c0 a0) (hm0 : c0 ≤ maxLen) (hz0 : n0 ≤ 140737488351232) (hs1 : Sl w w.heap.size A1 n1 c1 a1) (hm1 : c1 ≤ maxLen) (hz1 : n1 ≤ 140737488351232) (w2 : (Lit.int .i64 a2).wf = true) :
    Calls Try.prog 4 #[.slice A0 n0 c0, .slice A1 n1 c1, .int .i64 a2] w fun e w' => e = .returned (.bool true) ∧ Below w.heap.size w w' := by
  have HS0 := Lib.hid hs0
  have HS1 := Lib.hid hs1
  clear hs0 hs1 w2 hm0 hm1
  go_enter Try.func4, Try.ntmps4
  go_wp2_with fail
  refine (shown_any w).mono ?_
  rintro e w1 ⟨rfl, hb1⟩
  have B1 := Lib.hid hb1
  have hw1 := hb1.size
  have S0 := Lib.hid ((HS0.out.below hb1).more hw1)
  have S1 := Lib.hid ((HS1.out.below hb1).more hw1)
  clear hb1 HS0 HS1
  by_cases hT : 4096 < n1
  case' pos =>
    have H2 := Lib.hid (putt_long n0 c0 n1 c1 A0 A1 w1 hT)
    have H3 := Lib.hid (rputt_long n0 c0 n1 c1 A0 A1 w1 hT)
    go_wp2_with fail
    refine H2.out.mono ?_
    rintro e w3 ⟨rfl, hw3⟩
    subst hw3
    go_wp2_with fail
    refine H3.out.mono ?_
    rintro e w3 ⟨rfl, hw3⟩
    subst hw3
    clear H2 H3
    obtain ⟨x2, rfl⟩ : ∃ x2 : World, x2 = w1 := ⟨_, rfl⟩
    obtain ⟨SA, hSA⟩ : ∃ SA, SA = strOf 0 nF := ⟨_, rfl⟩
    have CONE := Lib.hid (show ∀ y : World, Below x2.heap.size x2 y → (convert 22 9 (.slice none 0 0)).run Try.prog y = .ok (.string SA) y ∧ True from fun y hy => ⟨by rw [hSA]; exact conv_nil y, trivial⟩)
    clear hSA
  case' neg =>
    have H2 := Lib.hid (putt_any n0 c0 n1 c1 A0 A1 a0 a1 w1 S0.out S1.out hz0 (by omega))
    go_wp2_with fail
    refine H2.out.mono ?_
    rintro e w3 ⟨v3, rfl, ho3, hb3⟩
    have O3 := Lib.hid ho3
    have B3 := Lib.hid (onto B1.out hw1 hb3)
    have hw3 : w.heap.size ≤ w3.heap.size := by have := hb3.size; omega
    have S0' := Lib.hid ((S0.out.below hb3).more hb3.size)
    have S1' := Lib.hid ((S1.out.below hb3).more hb3.size)
    have H3 := Lib.hid (rputt_any n0 c0 n1 c1 A0 A1 a0 a1 w3 S0'.out S1'.out hz0 (by omega))
    clear H2 ho3 hb3 B1 S0 S1 hw1
    go_wp2_with fail
    refine H3.out.mono ?_
    rintro e w4 ⟨v4, rfl, ho4, hb4⟩
    have O4 := Lib.hid ho4
    have O3' := Lib.hid (O3.out.below hb4 (Nat.le_refl _))
    have B1 := Lib.hid (onto B3.out hw3 hb4)
    have hw1 : w.heap.size ≤ w4.heap.size := by have := hb4.size; omega
    have S0 := Lib.hid ((S0'.out.below hb4).more hb4.size)
    clear H3 ho4 hb4 B3 O3 S0' S1'
    obtain ⟨x2, rfl⟩ : ∃ x2 : World, x2 = w4 := ⟨_, rfl⟩
    obtain ⟨SA, hSA⟩ : ∃ SA, SA = strOf (n0 + txL n1) (catF n0 a0 (txF n1 a1)) := ⟨_, rfl⟩
    have HSA := Lib.hid hSA
    have CONE := Lib.hid (show ∀ y : World, Below x2.heap.size x2 y → (convert 22 9 v3).run Try.prog y = .ok (.string SA) y ∧ (convert 22 9 v4).run Try.prog y = .ok (.string SA) y from fun y hy =>
      ⟨by rw [HSA.out]; exact conv_own (O3'.out.below hy (Nat.le_refl _)), by rw [HSA.out]; exact conv_own (O4.out.below hy (Nat.le_refl _))⟩)
    clear hSA O3' O4 HSA
  all_goals
    have H4 := Lib.hid (taket_any n0 c0 a2 A0 a0 x2 S0.out (by omega))
    by_cases hz : ttE n0 a2 a0 = 0
    case' neg =>
      have HZ := Lib.hid hz
      clear hz
      go_wp2_with fail
      refine H4.out.mono ?_
      intro e w5 h5
      obtain ⟨rfl, hb5⟩ := h5.bad rfl HZ.out
      have B5 := Lib.hid (onto B1.out hw1 hb5)
      have HX5 := Lib.hid hb5
      have hw5 : w.heap.size ≤ w5.heap.size := by have := hb5.size; omega
      have H5 := Lib.hid (rtaket_any n0 c0 a2 A0 a0 w5 ((S0.out.below hb5).more hb5.size) (by omega))
      obtain ⟨E, hE⟩ : ∃ E, E = ttE n0 a2 a0 := ⟨_, rfl⟩
      rw [← hE] at h5 ⊢
      have HE := Lib.hid hE
      clear H4 h5 hb5 hE
      go_wp2_with fail
      refine H5.out.mono ?_
      intro e w6 h6
      obtain ⟨rfl, hb6⟩ := h6.bad (E := E) HE.out.symm (by have := HZ.out; rw [← HE.out] at this; exact this)
      have B6 := Lib.hid (onto B5.out hw5 hb6)
      have hx6 := onto HX5.out HX5.out.size hb6
      obtain ⟨k1, k2⟩ := CONE.out w6 hx6
      have k3 := conv_nil w6
      obtain ⟨SN, hSN⟩ : ∃ SN, SN = strOf 0 nF := ⟨_, rfl⟩
      rw [← hSN] at k3
      clear H5 h6 hb6 hx6 B5 HX5 HE hSN
      first | rw [k1] at k3; obtain ⟨rfl⟩ : SA = SN := by injection k3 with e1 e2; injection e1 | skip
      go_wp2_with fail
      go_ret
      exact ⟨rfl, B6.out⟩
    case' pos =>
      have HZ := Lib.hid hz
      clear hz
      go_wp2_with fail
      refine H4.out.mono ?_
      intro e w5 h5
      obtain ⟨u5, v5, rfl, hp5, ho5, hb5⟩ := h5.ok HZ.out
      have B5 := Lib.hid (onto B1.out hw1 hb5)
      have O5 := Lib.hid ho5
      have P5 := Lib.hid hp5
      have HX5 := Lib.hid hb5
      have hw5 : w.heap.size ≤ w5.heap.size := by have := hb5.size; omega
      have H5 := Lib.hid (rtaket_any n0 c0 a2 A0 a0 w5 ((S0.out.below hb5).more hb5.size) (by omega))
      clear H4 h5 hb5 ho5 hp5
      go_wp2_with fail
      refine H5.out.mono ?_
      intro e w6 h6
      obtain ⟨u6, v6, rfl, hp6, ho6, hb6⟩ := h6.ok HZ.out
      have B6 := Lib.hid (onto B5.out hw5 hb6)
      have hx6 := onto HX5.out HX5.out.size hb6
      obtain ⟨k1, k2⟩ := CONE.out w6 hx6
      have k4 := conv_own hp6
      have k5 := conv_own (P5.out.below hb6 (Nat.le_refl _))
      have k6 := conv_own ho6
      have k7 := conv_own (O5.out.below hb6 (Nat.le_refl _))
      obtain ⟨SR, hSR⟩ : ∃ SR, SR = strOf (n0 - tkL a0 - tkV a0) (offF a0 (tkL a0 + tkV a0)) := ⟨_, rfl⟩
      obtain ⟨SP, hSP⟩ : ∃ SP, SP = strOf (tkV a0) (offF a0 (tkL a0)) := ⟨_, rfl⟩
      rw [← hSR] at k6 k7
      rw [← hSP] at k4 k5
      clear H5 h6 hb6 hx6 B5 HX5 hSR hSP ho6 O5 hp6 P5
      go_wp2_with fail
      go_ret
      exact ⟨rfl, B6.out⟩

set_option maxRecDepth 100000 in
theorem lifted (os : Os) (started : os.Started) (H : Type) (enc : TypeId × Value → H) :
    ReturnsInHanded {} Try.checked os 4 .any (Rows.packTextsSpec.pre6 enc Try.prog Try.f4 Rows.packTextsRow.domain false) (Rows.packTextsSpec.post enc Try.prog Try.f4 false true false false) := by
  refine returnsInHanded_of_change_sized (C := Try.checked) own started (by kernel_rfl) Try.func4
    (ChangeSpec.witness6 (enc := enc) (C := Try.checked) false ⟨#[], #[.slice none 0 0, .slice none 0 0, .int .i64 0], []⟩ 8 (by kernel_rfl) (by kernel_rfl) (by kernel_rfl) (by kernel_rfl)) ?_
  intro W base args ds gs before hval0 hW hcnd hsz0 _
  have hval : ∀ (j : Nat) t v, Try.f4.params[j]? = some t → args[j]? = some v → Value.okWide Try.prog W .any base t v := hval0
  have hW' := hW
  obtain ⟨p, q, hA0, hV, rfl, hfz, hnd⟩ := hW
  have hA : DataW.TrodAll enc Try.prog W 0 (fun _ => true) true Try.f4.params.toList args.toList ds p := hA0
  rw [Try.params4] at hA hval
  have hsz : (DataW.weightsEach Try.prog (Try.f4.params.toList ++ Rows.packTextsSpec.plain.varTypes Try.prog) (ds ++ gs)).all (· ≤ reachBytes) = true := hsz0
  rw [Try.params4] at hsz
  clear hsz0
  obtain ⟨v0, vs0, d0, ds0, p0, q0, hargs, rfl, rfl, h0, r0⟩ := trodAll_cons hA
  obtain ⟨v1, vs1, d1, ds1, p1, q1, rfl, rfl, rfl, h1, r1⟩ := trodAll_cons r0
  obtain ⟨v2, vs2, d2, ds2, p2, q2, rfl, rfl, rfl, h2, r2⟩ := trodAll_cons r1
  obtain ⟨rfl, rfl, rfl⟩ := trodAll_nil r2
  obtain rfl : args = #[v0, v1, v2] := by cases args; simp_all
  obtain ⟨rfl, rfl⟩ := trodVars_none hV
  have k0 := h0
  have lt0 : ∀ x ∈ p0, x.block < W.heap.size := by obtain ⟨m, hm⟩ := k0; exact DataW.trod_lt m _ _ _ hm
  obtain ⟨A0, n0, c0, a0, rfl, hs0, hm0⟩ := open_sl Try.underlying22 Try.underlying5 (by kernel_rfl) (hval 0 22 v0 rfl rfl) h0
  have hz0 : n0 ≤ 140737488351232 := by have := reach_sl Try.underlying22 k0 hsz (j := 0) rfl rfl; rw [show Try.prog.bytesOf 5 = 1 by kernel_rfl] at this; omega
  have k1 := h1
  have lt1 : ∀ x ∈ p1, x.block < W.heap.size := by obtain ⟨m, hm⟩ := k1; exact DataW.trod_lt m _ _ _ hm
  obtain ⟨A1, n1, c1, a1, rfl, hs1, hm1⟩ := open_sl Try.underlying22 Try.underlying5 (by kernel_rfl) (hval 1 22 v1 rfl rfl) h1
  have hz1 : n1 ≤ 140737488351232 := by have := reach_sl Try.underlying22 k1 hsz (j := 1) rfl rfl; rw [show Try.prog.bytesOf 5 = 1 by kernel_rfl] at this; omega
  obtain ⟨a2, rfl, rfl, rfl, w2⟩ := open_int Try.underlying3 (hval 2 3 v2 rfl rfl) h2
  clear hA0 hval0
  refine (walk a0 n0 c0 A0 a1 n1 c1 A1 a2 W hs0 hm0 hz0 hs1 hm1 hz1 w2).mono fun e W' ⟨he, bel⟩ => ?_
  subst he
  exact ⟨_, rfl, _, _, _, [], _, [], hW', trodAll_mk1 (shut_bool Try.underlying4 _), (trodAll_cons_mk (Below.trod laidOut (by kernel_rfl) (of_decide_eq_true (by kernel_rfl)) k0 bel lt0) (trodAll_cons_mk (Below.trod laidOut (by kernel_rfl) (of_decide_eq_true (by kernel_rfl)) k1 bel lt1) (trodAll_cons_mk (shut_int Try.underlying3 w2) trodAll_mk0))), rfl, bel.frame _, fun h => by cases h⟩

theorem over : Rows.packTextsRow.holds Try.pinned (OpenSpec.ofChange Rows.packTextsSpec) :=
  OpenClaim.holds_of_wide 4 Try.f4 rfl rfl rfl rfl rfl rfl rfl ⟨rfl, rfl, rfl, rfl, rfl⟩ rfl rfl rfl rfl rfl (by kernel_rfl) Try.func4 (by kernel_rfl)
    (of_decide_eq_true (by kernel_rfl)) (by unfold Func.isWrapper; first | (rw [if_pos (by decide +kernel)]; kernel_rfl) | (rw [if_neg (by decide +kernel)]; exact ⟨rfl, rfl⟩))
    (fun os started H enc _ => lifted os started H enc)

theorem proved : Rows.PackTextsSaid := over
#print axioms proved
end Go.Proofs.Ytbdnokccipoibaa.packTexts
