/- The statement PackNumbers: the law strongroomlaw08.PackNumbers answers true for every input, and leaves its arguments as they were. No further condition. -/
import Derived.Test.YtbdnokccipoibaaRows
import Derived.Test.YtbdnokccipoibaaLib
import Derived.Test.YtbdnokccipoibaaPkL
namespace Go.Proofs.Ytbdnokccipoibaa.packNumbers
open Go.ChangeShapes Go.WideShapes Go.ChangeAt Go.RowKit
open Go.Proofs.Ytbdnokccipoibaa.Oct
set_option linter.unusedVariables false

theorem own : ownKnob Try.prog.godebug = none := by kernel_rfl
theorem laidOut : laidOutB Try.prog = true := by kernel_rfl

set_option maxRecDepth 20000 in
set_option maxHeartbeats 4000000 in
theorem walk (a0 : Nat → BitVec 8) (n0 c0 : Nat) (A0 : Option Addr) (a1 : Int) (w : World) (hs0 : Sl w w.heap.size A0 n0 c0 a0) (hm0 : c0 ≤ maxLen) (hz0 : n0 ≤ 140737488351232) (w1 : (Lit.int .i64 a1).wf = true) :
    Calls Try.prog 3 #[.slice A0 n0 c0, .int .i64 a1] w fun e w' => e = .returned (.bool true) ∧ Below w.heap.size w w' := by
  have HS0 := Lib.hid hs0
  obtain ⟨hlo, hhi⟩ := wf_bd w1
  clear hs0 w1 hm0 hlo
  go_enter Try.func3, Try.ntmps3
  go_wp2_with fail
  refine (shown_any w).mono ?_
  rintro e w1 ⟨rfl, hb1⟩
  have hw1 := hb1.size
  have B1 := Lib.hid ((hb1.alloc hw1 (.cells #[] 5)))
  have O1 := Lib.hid (show Own (w1.alloc (.cells #[] 5)) w1.heap.size 5 (.slice (some ⟨w1.heap.size, 0, none⟩) 0 0) 0 a0 from Own.empty w1 w1.heap.size 5 _ (Nat.le_refl _))
  have S1 := Lib.hid ((HS0.out.below B1.out).more hw1)
  have hz1 : w1.heap.size ≤ (w1.alloc (.cells #[] 5)).heap.size := by simp
  clear hb1
  go_wp2_with (at_builtin; refine wpl_appB rfl (.tmp 18) (.tmp 19) rfl sli_u u8_info O1.out S1.out (by omega) hz1 rfl rfl ?_; intro v2 w2 ho2 hg2 ht2)
  rw [Nat.zero_add, catF_zero] at ho2
  have B2 := Lib.hid (O1.out.after hg2 B1.out (by omega) hw1)
  have hw2 : w.heap.size ≤ w2.heap.size := by have := hg2.size; omega
  have O2 := Lib.hid ho2
  obtain ⟨A2, c2, hv2, hs2, -, -⟩ := ho2.sl
  subst hv2
  have S2 := Lib.hid hs2
  have S0 := Lib.hid ((HS0.out.below B2.out).more hw2)
  clear ho2 hg2 ht2 hs2 B1 O1 S1 hz1 HS0
  obtain ⟨SX, hSX⟩ : ∃ SX, SX = strOf n0 a0 := ⟨_, rfl⟩
  have HSX := Lib.hid hSX
  clear hSX
  by_cases hneg : a1 < 0
  case' pos =>
    have H2 := Lib.hid (put_neg a1 n0 c2 A2 w2 hneg)
    have H3 := Lib.hid (rput_neg a1 n0 c0 A0 w2 hneg)
    clear hneg
    go_wp2_with fail
    refine H2.out.mono ?_
    rintro e w3 ⟨rfl, hw3⟩
    subst hw3
    go_wp2_with fail
    refine H3.out.mono ?_
    rintro e w3 ⟨rfl, hw3⟩
    subst hw3
    clear H2 H3 hhi
    obtain ⟨x2, rfl⟩ : ∃ x2 : World, x2 = w2 := ⟨_, rfl⟩
    obtain ⟨SA, hSA⟩ : ∃ SA, SA = strOf 0 nF := ⟨_, rfl⟩
    have CONE := Lib.hid (show ∀ y : World, Below x2.heap.size x2 y → (convert 22 9 (.slice none 0 0)).run Try.prog y = .ok (.string SA) y ∧ True from fun y hy => ⟨by rw [hSA]; exact conv_nil y, trivial⟩)
    clear hSA
  case' neg =>
    obtain ⟨n, rfl⟩ : ∃ n : Nat, a1 = n := ⟨a1.toNat, by omega⟩
    have hn : n < 9223372036854775808 := by omega
    have H2 := Lib.hid (put_any n n0 c2 A2 a0 w2 S2.out (by omega) hn)
    clear hneg hhi
    go_wp2_with fail
    refine H2.out.mono ?_
    rintro e w3 ⟨v3, rfl, ho3, hb3⟩
    have O3 := Lib.hid ho3
    have B3 := Lib.hid (onto B2.out hw2 hb3)
    have hw3 : w.heap.size ≤ w3.heap.size := by have := hb3.size; omega
    have S2' := Lib.hid ((S2.out.below hb3).more hb3.size)
    have S0' := Lib.hid ((S0.out.below hb3).more hb3.size)
    have H3 := Lib.hid (rput_any n n0 c0 A0 a0 w3 S0'.out (by omega) hn)
    clear H2 ho3 hb3 B2 S2 S0 hw2
    go_wp2_with fail
    refine H3.out.mono ?_
    rintro e w4 ⟨v4, rfl, ho4, hb4⟩
    have O4 := Lib.hid ho4
    have O3' := Lib.hid (O3.out.below hb4 (Nat.le_refl _))
    have B2 := Lib.hid (onto B3.out hw3 hb4)
    have hw2 : w.heap.size ≤ w4.heap.size := by have := hb4.size; omega
    have S2 := Lib.hid ((S2'.out.below hb4).more hb4.size)
    have S0 := Lib.hid ((S0'.out.below hb4).more hb4.size)
    clear H3 ho4 hb4 B3 O3 S0' S2' O2
    obtain ⟨x2, rfl⟩ : ∃ x2 : World, x2 = w4 := ⟨_, rfl⟩
    obtain ⟨SA, hSA⟩ : ∃ SA, SA = strOf (n0 + encL n) (catF n0 a0 (encF n)) := ⟨_, rfl⟩
    have HSA := Lib.hid hSA
    have CONE := Lib.hid (show ∀ y : World, Below x2.heap.size x2 y → (convert 22 9 v3).run Try.prog y = .ok (.string SA) y ∧ (convert 22 9 v4).run Try.prog y = .ok (.string SA) y from fun y hy =>
      ⟨by rw [HSA.out]; exact conv_own (O3'.out.below hy (Nat.le_refl _)), by rw [HSA.out]; exact conv_own (O4.out.below hy (Nat.le_refl _))⟩)
    clear hSA O3' O4 HSA
  all_goals
    have H4 := Lib.hid (take_num n0 c2 A2 a0 x2 S2.out (by omega))
    by_cases hz : tkE n0 a0 = 0
    case' neg =>
      have HZ := Lib.hid hz
      clear hz
      go_wp2_with fail
      refine H4.out.mono ?_
      intro e w5 h5
      obtain ⟨rfl, hb5⟩ := h5.bad rfl HZ.out
      have B5 := Lib.hid (onto B2.out hw2 hb5)
      have HX5 := Lib.hid hb5
      have hw5 : w.heap.size ≤ w5.heap.size := by have := hb5.size; omega
      have H5 := Lib.hid (rtake_num n0 c0 A0 a0 w5 ((S0.out.below hb5).more hb5.size) (by omega))
      obtain ⟨E, hE⟩ : ∃ E, E = tkE n0 a0 := ⟨_, rfl⟩
      rw [← hE] at h5 ⊢
      have HE := Lib.hid hE
      clear H4 h5 hb5 hE
      go_wp2_with fail
      refine H5.out.mono ?_
      intro e w6 h6
      obtain ⟨rfl, hb6⟩ := h6.bad (E := E) HE.out.symm (by have := HZ.out; rw [← HE.out] at this; exact this)
      have B6 := Lib.hid (onto B5.out hw5 hb6)
      have hx6 := onto HX5.out HX5.out.size hb6
      obtain ⟨k1, k2⟩ := CONE.out w6 hx6
      have k3 := conv_nil w6
      have k4 := conv_sl (S0.out.below hx6)
      have k5 := conv_sl (S2.out.below hx6)
      rw [← HSX.out] at k4 k5
      obtain ⟨SN, hSN⟩ : ∃ SN, SN = strOf 0 nF := ⟨_, rfl⟩
      rw [← hSN] at k3
      clear H5 h6 hb6 hx6 B5 HX5 HE hSN
      first | rw [k1] at k3; obtain ⟨rfl⟩ : SA = SN := by injection k3 with e1 e2; injection e1 | skip
      go_wp2_with fail
      go_ret
      exact ⟨rfl, B6.out⟩
    case' pos =>
      have HZ := Lib.hid hz
      clear hz
      go_wp2_with fail
      refine H4.out.mono ?_
      intro e w5 h5
      obtain ⟨v5, rfl, ho5, hb5⟩ := h5.ok HZ.out
      have B5 := Lib.hid (onto B2.out hw2 hb5)
      have O5 := Lib.hid ho5
      have HX5 := Lib.hid hb5
      have hw5 : w.heap.size ≤ w5.heap.size := by have := hb5.size; omega
      have H5 := Lib.hid (rtake_num n0 c0 A0 a0 w5 ((S0.out.below hb5).more hb5.size) (by omega))
      obtain ⟨V, hV⟩ : ∃ V, V = tkV a0 := ⟨_, rfl⟩
      rw [← hV] at h5 ⊢
      have HV := Lib.hid hV
      clear H4 h5 hb5 hV ho5
      go_wp2_with fail
      refine H5.out.mono ?_
      intro e w6 h6
      obtain ⟨v6, rfl, ho6, hb6⟩ := h6.ok HZ.out
      rw [← HV.out]
      have B6 := Lib.hid (onto B5.out hw5 hb6)
      have hx6 := onto HX5.out HX5.out.size hb6
      obtain ⟨k1, k2⟩ := CONE.out w6 hx6
      have k4 := conv_sl (S0.out.below hx6)
      have k5 := conv_sl (S2.out.below hx6)
      have k6 := conv_own ho6
      have k7 := conv_own (O5.out.below hb6 (Nat.le_refl _))
      rw [← HSX.out] at k4 k5
      obtain ⟨SR, hSR⟩ : ∃ SR, SR = strOf (n0 - tkL a0) (offF a0 (tkL a0)) := ⟨_, rfl⟩
      rw [← hSR] at k6 k7
      clear H5 h6 hb6 hx6 B5 HX5 HV hSR ho6 O5
      go_wp2_with fail
      go_ret
      exact ⟨rfl, B6.out⟩

set_option maxRecDepth 100000 in
theorem lifted (os : Os) (started : os.Started) (H : Type) (enc : TypeId × Value → H) :
    ReturnsInHanded {} Try.checked os 3 .any (Rows.packNumbersSpec.pre6 enc Try.prog Try.f3 Rows.packNumbersRow.domain false) (Rows.packNumbersSpec.post enc Try.prog Try.f3 false true false false) := by
  refine returnsInHanded_of_change_sized (C := Try.checked) own started (by kernel_rfl) Try.func3
    (ChangeSpec.witness6 (enc := enc) (C := Try.checked) false ⟨#[], #[.slice none 0 0, .int .i64 0], []⟩ 8 (by kernel_rfl) (by kernel_rfl) (by kernel_rfl) (by kernel_rfl)) ?_
  intro W base args ds gs before hval0 hW hcnd hsz0 _
  have hval : ∀ (j : Nat) t v, Try.f3.params[j]? = some t → args[j]? = some v → Value.okWide Try.prog W .any base t v := hval0
  have hW' := hW
  obtain ⟨p, q, hA0, hV, rfl, hfz, hnd⟩ := hW
  have hA : DataW.TrodAll enc Try.prog W 0 (fun _ => true) true Try.f3.params.toList args.toList ds p := hA0
  rw [Try.params3] at hA hval
  have hsz : (DataW.weightsEach Try.prog (Try.f3.params.toList ++ Rows.packNumbersSpec.plain.varTypes Try.prog) (ds ++ gs)).all (· ≤ reachBytes) = true := hsz0
  rw [Try.params3] at hsz
  clear hsz0
  obtain ⟨v0, vs0, d0, ds0, p0, q0, hargs, rfl, rfl, h0, r0⟩ := trodAll_cons hA
  obtain ⟨v1, vs1, d1, ds1, p1, q1, rfl, rfl, rfl, h1, r1⟩ := trodAll_cons r0
  obtain ⟨rfl, rfl, rfl⟩ := trodAll_nil r1
  obtain rfl : args = #[v0, v1] := by cases args; simp_all
  obtain ⟨rfl, rfl⟩ := trodVars_none hV
  have k0 := h0
  have lt0 : ∀ x ∈ p0, x.block < W.heap.size := by obtain ⟨m, hm⟩ := k0; exact DataW.trod_lt m _ _ _ hm
  obtain ⟨A0, n0, c0, a0, rfl, hs0, hm0⟩ := open_sl Try.underlying22 Try.underlying5 (by kernel_rfl) (hval 0 22 v0 rfl rfl) h0
  have hz0 : n0 ≤ 140737488351232 := by have := reach_sl Try.underlying22 k0 hsz (j := 0) rfl rfl; rw [show Try.prog.bytesOf 5 = 1 by kernel_rfl] at this; omega
  obtain ⟨a1, rfl, rfl, rfl, w1⟩ := open_int Try.underlying3 (hval 1 3 v1 rfl rfl) h1
  clear hA0 hval0
  refine (walk a0 n0 c0 A0 a1 W hs0 hm0 hz0 w1).mono fun e W' ⟨he, bel⟩ => ?_
  subst he
  exact ⟨_, rfl, _, _, _, [], _, [], hW', trodAll_mk1 (shut_bool Try.underlying4 _), (trodAll_cons_mk (Below.trod laidOut (by kernel_rfl) (of_decide_eq_true (by kernel_rfl)) k0 bel lt0) (trodAll_cons_mk (shut_int Try.underlying3 w1) trodAll_mk0)), rfl, bel.frame _, fun h => by cases h⟩

theorem over : Rows.packNumbersRow.holds Try.pinned (OpenSpec.ofChange Rows.packNumbersSpec) :=
  OpenClaim.holds_of_wide 3 Try.f3 rfl rfl rfl rfl rfl rfl rfl ⟨rfl, rfl, rfl, rfl, rfl⟩ rfl rfl rfl rfl rfl (by kernel_rfl) Try.func3 (by kernel_rfl)
    (of_decide_eq_true (by kernel_rfl)) (by unfold Func.isWrapper; first | (rw [if_pos (by decide +kernel)]; kernel_rfl) | (rw [if_neg (by decide +kernel)]; exact ⟨rfl, rfl⟩))
    (fun os started H enc _ => lifted os started H enc)

theorem proved : Rows.PackNumbersSaid := over
#print axioms proved
end Go.Proofs.Ytbdnokccipoibaa.packNumbers
