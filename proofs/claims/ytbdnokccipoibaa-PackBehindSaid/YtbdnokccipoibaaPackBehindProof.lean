/- The statement PackBehind: the law strongroomlaw08.PackBehind answers true for every input, and leaves its arguments as they were. No further condition. -/
import Derived.Test.YtbdnokccipoibaaRows
import Derived.Test.YtbdnokccipoibaaLib
import Derived.Test.YtbdnokccipoibaaPkL
namespace Go.Proofs.Ytbdnokccipoibaa.packBehind
open Go.ChangeShapes Go.WideShapes Go.ChangeAt Go.RowKit
open Go.Proofs.Ytbdnokccipoibaa.Oct
set_option linter.unusedVariables false

theorem own : ownKnob Try.prog.godebug = none := by kernel_rfl
theorem laidOut : laidOutB Try.prog = true := by kernel_rfl

set_option maxRecDepth 20000 in
set_option maxHeartbeats 4000000 in
theorem walk (a0 : Nat → BitVec 8) (n0 c0 : Nat) (A0 : Option Addr) (a1 : Int) (a2 : Nat → BitVec 8) (n2 c2 : Nat) (A2 : Option Addr) (w : World) (hs0 : Sl w w.heap.size A0 n0 c0 a0) (hm0 : c0 ≤ maxLen) (hz0 : n0 ≤ 140737488351232) (w1 : (Lit.int .i64 a1).wf = true) (hs2 : Sl w w.heap.size A2 n2 c2 a2) (hm2 : c2 ≤ maxLen) (hz2 : n2 ≤ 140737488351232) :
    Calls Try.prog 8 #[.slice A0 n0 c0, .int .i64 a1, .slice A2 n2 c2] w fun e w' => e = .returned (.bool true) ∧ Below w.heap.size w w' := by
  have HS0 := Lib.hid hs0
  have HS2 := Lib.hid hs2
  obtain ⟨hlo, hhi⟩ := wf_bd w1
  clear hs0 hs2 w1 hm0 hm2 hlo
  go_enter Try.func8, Try.ntmps8
  go_wp2_with fail
  refine (shown_any w).mono ?_
  rintro e w1 ⟨rfl, hb1⟩
  have B1 := Lib.hid hb1
  have hw1 := hb1.size
  have S0 := Lib.hid ((HS0.out.below hb1).more hw1)
  have S2 := Lib.hid ((HS2.out.below hb1).more hw1)
  clear hb1 HS0 HS2
  obtain ⟨SB, hSB⟩ : ∃ SB, SB = strOf n0 a0 := ⟨_, rfl⟩
  have HSB := Lib.hid hSB
  have HZB := Lib.hid (show SB.size = n0 by rw [hSB, str_size])
  clear hSB
  by_cases hneg : a1 < 0
  case' pos =>
    have H2 := Lib.hid (put_neg a1 n0 c0 A0 w1 hneg)
    have H3 := Lib.hid (put_neg a1 0 0 none w1 hneg)
    clear hneg
    go_wp2_with fail
    refine H2.out.mono ?_
    rintro e w2 ⟨rfl, hw2⟩
    subst hw2
    go_wp2_with fail
    refine H3.out.mono ?_
    rintro e w2 ⟨rfl, hw2⟩
    subst hw2
    clear H2 H3 hhi
    obtain ⟨x2, rfl⟩ : ∃ x2 : World, x2 = w1 := ⟨_, rfl⟩
    have cone : ∀ y : World, Below x2.heap.size x2 y → True := fun _ _ => trivial
  case' neg =>
    obtain ⟨n, rfl⟩ : ∃ n : Nat, a1 = n := ⟨a1.toNat, by omega⟩
    have hn : n < 9223372036854775808 := by omega
    have hE := encL_le n
    have H2 := Lib.hid (put_any n n0 c0 A0 a0 w1 S0.out (by omega) hn)
    clear hneg hhi
    go_wp2_with fail
    refine H2.out.mono ?_
    rintro e w2 ⟨v2, rfl, ho2, hb2⟩
    have O2 := Lib.hid ho2
    have B2 := Lib.hid (onto B1.out hw1 hb2)
    have hw2 : w.heap.size ≤ w2.heap.size := by have := hb2.size; omega
    have H3 := Lib.hid (put_nil n w2 hn)
    have S0' := Lib.hid ((S0.out.below hb2).more hb2.size)
    have S2' := Lib.hid ((S2.out.below hb2).more hb2.size)
    clear H2 ho2 hb2 B1 S0 S2
    go_wp2_with fail
    refine H3.out.mono ?_
    rintro e w3 ⟨v3, rfl, ho3, hb3⟩
    have O3 := Lib.hid ho3
    have O2' := Lib.hid (O2.out.below hb3 (Nat.le_refl _))
    have B1 := Lib.hid (onto B2.out hw2 hb3)
    have hw1 : w.heap.size ≤ w3.heap.size := by have := hb3.size; omega
    have S0 := Lib.hid ((S0'.out.below hb3).more hb3.size)
    have S2 := Lib.hid ((S2'.out.below hb3).more hb3.size)
    clear H3 ho3 hb3 B2 O2 S0' S2'
    obtain ⟨x2, rfl⟩ : ∃ x2 : World, x2 = w3 := ⟨_, rfl⟩
    obtain ⟨SC, hSC⟩ : ∃ SC, SC = strOf (encL n) (encF n) := ⟨_, rfl⟩
    have hsz : ¬ 9223372036854775807 < SB.size + SC.size := by rw [HZB.out, hSC, str_size]; omega
    have HSC := Lib.hid hSC
    have CONE := Lib.hid (show ∀ y : World, Below x2.heap.size x2 y → (convert 22 9 v2).run Try.prog y = .ok (.string (SB ++ SC)) y ∧ (convert 22 9 (.slice A0 n0 c0)).run Try.prog y = .ok (.string SB) y ∧ (convert 22 9 v3).run Try.prog y = .ok (.string SC) y from fun y hy =>
      ⟨by rw [HSB.out, HSC.out]; exact conv_two (O2'.out.below hy (Nat.le_refl _)), by rw [HSB.out]; exact conv_sl (S0.out.below hy), by rw [HSC.out]; exact conv_own (O3.out.below hy (Nat.le_refl _))⟩)
    clear hSC O2' O3 HSC
  all_goals
    by_cases hT : 4096 < n2
    case' pos =>
      have H4 := Lib.hid (putt_long n0 c0 n2 c2 A0 A2 x2 hT)
      have H5 := Lib.hid (putt_long 0 0 n2 c2 none A2 x2 hT)
      go_wp2_with fail
      refine H4.out.mono ?_
      rintro e w4 ⟨rfl, hw4⟩
      subst hw4
      go_wp2_with fail
      refine H5.out.mono ?_
      rintro e w4 ⟨rfl, hw4⟩
      subst hw4
      clear H4 H5
      first | obtain ⟨k1, k2, k3⟩ := CONE.out x2 (Below.refl _ _) | skip
      go_wp2_with fail
      go_ret
      exact ⟨rfl, B1.out⟩
    case' neg =>
      have H4 := Lib.hid (putt_any n0 c0 n2 c2 A0 A2 a0 a2 x2 S0.out S2.out hz0 (by omega))
      go_wp2_with fail
      refine H4.out.mono ?_
      rintro e w4 ⟨v4, rfl, ho4, hb4⟩
      have O4 := Lib.hid ho4
      have B4 := Lib.hid (onto B1.out hw1 hb4)
      have HB4 := Lib.hid hb4
      have hw4 := hb4.size
      have H5 := Lib.hid (putt_nil n2 c2 A2 a2 w4 ((S2.out.below hb4).more hw4) (by omega))
      clear H4 ho4 hb4
      go_wp2_with fail
      refine H5.out.mono ?_
      rintro e w5 ⟨v5, rfl, ho5, hb5⟩
      have B5 := Lib.hid (onto B4.out (by omega) hb5)
      have hx5 : Below x2.heap.size x2 w5 := onto HB4.out hw4 hb5
      obtain ⟨SD, hSD⟩ : ∃ SD, SD = strOf (txL n2) (txF n2 a2) := ⟨_, rfl⟩
      have hT2 : txL n2 = encL n2 + n2 := rfl
      have hE2 := encL_le n2
      have hsz2 : ¬ 9223372036854775807 < SB.size + SD.size := by rw [HZB.out, hSD, str_size]; omega
      have d1 := conv_two (O4.out.below hb5 (Nat.le_refl _))
      have d2 := conv_own ho5
      have d3 := conv_sl (S0.out.below hx5)
      rw [← HSB.out] at d1 d3
      rw [← hSD] at d1 d2
      first | obtain ⟨k1, k2, k3⟩ := CONE.out w5 hx5 | skip
      clear H5 ho5 hb5 hx5 hSD hT2 hE2 O4 HB4 hw4 B4
      go_wp2_with fail
      go_ret
      exact ⟨rfl, B5.out⟩

set_option maxRecDepth 100000 in
theorem lifted (os : Os) (started : os.Started) (H : Type) (enc : TypeId × Value → H) :
    ReturnsInHanded {} Try.checked os 8 .any (Rows.packBehindSpec.pre6 enc Try.prog Try.f8 Rows.packBehindRow.domain false) (Rows.packBehindSpec.post enc Try.prog Try.f8 false true false false) := by
  refine returnsInHanded_of_change_sized (C := Try.checked) own started (by kernel_rfl) Try.func8
    (ChangeSpec.witness6 (enc := enc) (C := Try.checked) false ⟨#[], #[.slice none 0 0, .int .i64 0, .slice none 0 0], []⟩ 8 (by kernel_rfl) (by kernel_rfl) (by kernel_rfl) (by kernel_rfl)) ?_
  intro W base args ds gs before hval0 hW hcnd hsz0 _
  have hval : ∀ (j : Nat) t v, Try.f8.params[j]? = some t → args[j]? = some v → Value.okWide Try.prog W .any base t v := hval0
  have hW' := hW
  obtain ⟨p, q, hA0, hV, rfl, hfz, hnd⟩ := hW
  have hA : DataW.TrodAll enc Try.prog W 0 (fun _ => true) true Try.f8.params.toList args.toList ds p := hA0
  rw [Try.params8] at hA hval
  have hsz : (DataW.weightsEach Try.prog (Try.f8.params.toList ++ Rows.packBehindSpec.plain.varTypes Try.prog) (ds ++ gs)).all (· ≤ reachBytes) = true := hsz0
  rw [Try.params8] at hsz
  clear hsz0
  obtain ⟨v0, vs0, d0, ds0, p0, q0, hargs, rfl, rfl, h0, r0⟩ := trodAll_cons hA
  obtain ⟨v1, vs1, d1, ds1, p1, q1, rfl, rfl, rfl, h1, r1⟩ := trodAll_cons r0
  obtain ⟨v2, vs2, d2, ds2, p2, q2, rfl, rfl, rfl, h2, r2⟩ := trodAll_cons r1
  obtain ⟨rfl, rfl, rfl⟩ := trodAll_nil r2
  obtain rfl : args = #[v0, v1, v2] := by cases args; simp_all
  obtain ⟨rfl, rfl⟩ := trodVars_none hV
  have k0 := h0
  have lt0 : ∀ x ∈ p0, x.block < W.heap.size := by obtain ⟨m, hm⟩ := k0; exact DataW.trod_lt m _ _ _ hm
  obtain ⟨A0, n0, c0, a0, rfl, hs0, hm0⟩ := open_sl Try.underlying22 Try.underlying5 (by kernel_rfl) (hval 0 22 v0 rfl rfl) h0
  have hz0 : n0 ≤ 140737488351232 := by have := reach_sl Try.underlying22 k0 hsz (j := 0) rfl rfl; rw [show Try.prog.bytesOf 5 = 1 by kernel_rfl] at this; omega
  obtain ⟨a1, rfl, rfl, rfl, w1⟩ := open_int Try.underlying3 (hval 1 3 v1 rfl rfl) h1
  have k2 := h2
  have lt2 : ∀ x ∈ p2, x.block < W.heap.size := by obtain ⟨m, hm⟩ := k2; exact DataW.trod_lt m _ _ _ hm
  obtain ⟨A2, n2, c2, a2, rfl, hs2, hm2⟩ := open_sl Try.underlying22 Try.underlying5 (by kernel_rfl) (hval 2 22 v2 rfl rfl) h2
  have hz2 : n2 ≤ 140737488351232 := by have := reach_sl Try.underlying22 k2 hsz (j := 2) rfl rfl; rw [show Try.prog.bytesOf 5 = 1 by kernel_rfl] at this; omega
  clear hA0 hval0
  refine (walk a0 n0 c0 A0 a1 a2 n2 c2 A2 W hs0 hm0 hz0 w1 hs2 hm2 hz2).mono fun e W' ⟨he, bel⟩ => ?_
  subst he
  exact ⟨_, rfl, _, _, _, [], _, [], hW', trodAll_mk1 (shut_bool Try.underlying4 _), (trodAll_cons_mk (Below.trod laidOut (by kernel_rfl) (of_decide_eq_true (by kernel_rfl)) k0 bel lt0) (trodAll_cons_mk (shut_int Try.underlying3 w1) (trodAll_cons_mk (Below.trod laidOut (by kernel_rfl) (of_decide_eq_true (by kernel_rfl)) k2 bel lt2) trodAll_mk0))), rfl, bel.frame _, fun h => by cases h⟩

theorem over : Rows.packBehindRow.holds Try.pinned (OpenSpec.ofChange Rows.packBehindSpec) :=
  OpenClaim.holds_of_wide 8 Try.f8 rfl rfl rfl rfl rfl rfl rfl ⟨rfl, rfl, rfl, rfl, rfl⟩ rfl rfl rfl rfl rfl (by kernel_rfl) Try.func8 (by kernel_rfl)
    (of_decide_eq_true (by kernel_rfl)) (by unfold Func.isWrapper; first | (rw [if_pos (by decide +kernel)]; kernel_rfl) | (rw [if_neg (by decide +kernel)]; exact ⟨rfl, rfl⟩))
    (fun os started H enc _ => lifted os started H enc)

theorem proved : Rows.PackBehindSaid := over
#print axioms proved
end Go.Proofs.Ytbdnokccipoibaa.packBehind
