/- The statement PackLists: the law strongroomlaw08.PackLists answers true for every input, and leaves its arguments as they were. No further condition. -/
import Derived.Test.YtbdnokccipoibaaRows
import Derived.Test.YtbdnokccipoibaaLib
import Derived.Test.YtbdnokccipoibaaPkL
namespace Go.Proofs.Ytbdnokccipoibaa.packLists
open Go.ChangeShapes Go.WideShapes Go.ChangeAt Go.RowKit
open Go.Proofs.Ytbdnokccipoibaa.Oct
set_option linter.unusedVariables false

theorem own : ownKnob Try.prog.godebug = none := by kernel_rfl
theorem laidOut : laidOutB Try.prog = true := by kernel_rfl

set_option maxRecDepth 20000 in
set_option maxHeartbeats 4000000 in
theorem walk (a0 : Nat → BitVec 8) (n0 c0 : Nat) (A0 : Option Addr) (a1 : Nat → Int) (n1 c1 : Nat) (A1 : Option Addr) (a2 : Int) (w : World) (hs0 : Sl w w.heap.size A0 n0 c0 a0) (hm0 : c0 ≤ maxLen) (hs1 : SlG w w.heap.size A1 n1 c1 (iV a1)) (hm1 : c1 ≤ maxLen) (hx1 : ∀ j, j < n1 → -9223372036854775808 ≤ a1 j ∧ a1 j < 9223372036854775808) (w2 : (Lit.int .i64 a2).wf = true) :
    Calls Try.prog 5 #[.slice A0 n0 c0, .slice A1 n1 c1, .int .i64 a2] w fun e w' => e = .returned (.bool true) ∧ Below w.heap.size w w' := by
  have HS0 := Lib.hid hs0
  have HS1 := Lib.hid hs1
  have HX1 := Lib.hid hx1
  have hn0 := hs0.le
  have hn1 := hs1.le
  have HM1 := Lib.hid hm1
  clear hs0 hs1 hx1 w2 hm0 hm1
  go_enter Try.func5, Try.ntmps5
  go_wp2_with fail
  refine (shown_any w).mono ?_
  rintro e w1 ⟨rfl, hb1⟩
  have B1 := Lib.hid hb1
  have hw1 := hb1.size
  have S0 := Lib.hid ((HS0.out.below hb1).more hw1)
  have HF := Lib.hid (few_any n1 c1 A1 w1 hn1 HM1.out)
  obtain ⟨M, hM⟩ : ∃ M, M = min n1 200 := ⟨_, rfl⟩
  rw [← hM] at HF
  have S1 := Lib.hid (((HS1.out.below hb1).more hw1).upto M (by omega))
  have hM2 : M ≤ 200 := by omega
  have HXM := Lib.hid (show ∀ j, j < M → -9223372036854775808 ≤ a1 j ∧ a1 j < 9223372036854775808 from fun j hj => HX1.out j (by omega))
  clear hb1 HS0 HS1 hM hn1 HM1 HX1
  go_wp2_with fail
  refine HF.out.mono ?_
  rintro e w2 ⟨rfl, hw2⟩
  subst hw2
  clear HF
  obtain ⟨m, hm⟩ : ∃ m : Int, m = min a2 2000 := ⟨_, rfl⟩
  have HMM := Lib.hid hm.symm
  have hm2 : m ≤ 2000 := by omega
  clear hm
  by_cases hbig : 2000 < n0
  case' pos =>
    have hd : decide (2000 < (n0 : Int)) = true := by simp; omega
    have hup := run_upto sli_u u8_i A0 n0 c0 2000 (by omega)
    rw [show ((2000 : Nat) : Int) = 2000 from rfl] at hup
    have T0 := Lib.hid (S0.out.upto 2000 (by omega))
    have hN : 2000 ≤ 2000 := by omega
    go_wp2_with fail
    clear hup
    obtain ⟨N, hNe⟩ : ∃ N : Nat, N = 2000 := ⟨_, rfl⟩
    rw [← hNe] at T0 ⊢
    have hN2 : N ≤ 2000 := by omega
    clear hN hNe
  case' neg =>
    have hd : decide (2000 < (n0 : Int)) = false := by simp; omega
    have T0 := Lib.hid S0.out
    go_wp2_with fail
    obtain ⟨N, rfl⟩ : ∃ N : Nat, N = n0 := ⟨_, rfl⟩
    have hN2 : N ≤ 2000 := by omega
  all_goals
    have H2 := Lib.hid (putl_any N c0 M c1 A0 A1 a0 a1 w1 T0.out S1.out HXM.out (by omega) (by omega))
    clear hd
    go_wp2_with fail
    refine H2.out.mono ?_
    rintro e w3 (⟨hng, rfl, hb3⟩ | ⟨hng, v3, rfl, ho3, hb3⟩)
    case' inl =>
      have HNG := Lib.hid hng
      have B3 := Lib.hid (onto B1.out hw1 hb3)
      have hw3 : w.heap.size ≤ w3.heap.size := by have := hb3.size; omega
      have T0' := Lib.hid ((T0.out.below hb3).more hb3.size)
      have S1' := Lib.hid ((S1.out.below hb3).more hb3.size)
      have H3 := Lib.hid (rputl_any N c0 M c1 A0 A1 a0 a1 w3 T0'.out S1'.out HXM.out (by omega) (by omega))
      clear H2 hng hb3 B1 hw1
      go_wp2_with fail
      refine H3.out.mono ?_
      rintro e w4 (⟨_, rfl, hb4⟩ | ⟨hng2, v4, rfl, ho4, hb4⟩)
      case' inr => exact absurd HNG.out (fun ⟨i, hi, hx⟩ => by have := hng2 i hi; omega)
      have B1 := Lib.hid (onto B3.out hw3 hb4)
      have hw1 : w.heap.size ≤ w4.heap.size := by have := hb4.size; omega
      have U0 := Lib.hid ((T0'.out.below hb4).more hb4.size)
      obtain ⟨SA, hSA⟩ : ∃ SA, SA = strOf 0 nF := ⟨_, rfl⟩
      have CONE := Lib.hid (show ∀ y : World, Below w4.heap.size w4 y → (convert 22 9 (.slice none 0 0)).run Try.prog y = .ok (.string SA) y ∧ True from fun y hy => ⟨by rw [hSA]; exact conv_nil y, trivial⟩)
      clear H3 hb4 B3 hw3 T0' S1' hSA HNG T0 S1
    case' inr =>
      have HNG := Lib.hid hng
      have O3 := Lib.hid ho3
      have B3 := Lib.hid (onto B1.out hw1 hb3)
      have hw3 : w.heap.size ≤ w3.heap.size := by have := hb3.size; omega
      have T0' := Lib.hid ((T0.out.below hb3).more hb3.size)
      have S1' := Lib.hid ((S1.out.below hb3).more hb3.size)
      have H3 := Lib.hid (rputl_any N c0 M c1 A0 A1 a0 a1 w3 T0'.out S1'.out HXM.out (by omega) (by omega))
      clear H2 hng hb3 ho3 B1 hw1
      go_wp2_with fail
      refine H3.out.mono ?_
      rintro e w4 (⟨⟨i, hi, hx⟩, _, _⟩ | ⟨_, v4, rfl, ho4, hb4⟩)
      case' inl => exact absurd (HNG.out i hi) (by omega)
      have O4 := Lib.hid ho4
      have O3' := Lib.hid (O3.out.below hb4 (Nat.le_refl _))
      have B1 := Lib.hid (onto B3.out hw3 hb4)
      have hw1 : w.heap.size ≤ w4.heap.size := by have := hb4.size; omega
      have U0 := Lib.hid ((T0'.out.below hb4).more hb4.size)
      obtain ⟨SA, hSA⟩ : ∃ SA, SA = strOf (N + lsL (natS a1) M M) (catF N a0 (lsF (natS a1) M M)) := ⟨_, rfl⟩
      have HSA := Lib.hid hSA
      have CONE := Lib.hid (show ∀ y : World, Below w4.heap.size w4 y → (convert 22 9 v3).run Try.prog y = .ok (.string SA) y ∧ (convert 22 9 v4).run Try.prog y = .ok (.string SA) y from fun y hy =>
        ⟨by rw [HSA.out]; exact conv_own (O3'.out.below hy (Nat.le_refl _)), by rw [HSA.out]; exact conv_own (O4.out.below hy (Nat.le_refl _))⟩)
      clear H3 hb4 ho4 B3 hw3 T0' S1' hSA HNG T0 S1 O3' O4 HSA O3
    all_goals
      have H4 := Lib.hid (takel_any N c0 m A0 a0 w4 U0.out (by omega) hm2)
      by_cases hle : a2 ≤ 2000
      case' pos =>
        obtain rfl : m = a2 := by have := HMM.out; omega
        clear HMM
        go_wp2_with fail
        have HZ0 := Lib.hid (Decidable.em (tllE N m a0 = 0))
        refine H4.out.mono ?_
        intro e w5 h5
        have HZ := HZ0.out
        clear HZ0
        rcases HZ with hz | hz
        case' inr =>
          obtain ⟨rfl, hb5⟩ := h5.bad rfl hz
          have HZ := Lib.hid hz
          have B5 := Lib.hid (onto B1.out hw1 hb5)
          have HX5 := Lib.hid hb5
          have hw5 : w.heap.size ≤ w5.heap.size := by have := hb5.size; omega
          have H5 := Lib.hid (rtakel_any N c0 m A0 a0 w5 ((U0.out.below hb5).more hb5.size) (by omega) (by omega))
          obtain ⟨E, hE⟩ : ∃ E, E = tllE N m a0 := ⟨_, rfl⟩
          rw [← hE] at h5 ⊢
          have HE := Lib.hid hE
          clear H4 h5 hb5 hE hz
          go_wp2_with fail
          refine H5.out.mono ?_
          intro e w6 h6
          obtain ⟨rfl, hb6⟩ := h6.bad (E := E) HE.out.symm (by have := HZ.out; rw [← HE.out] at this; exact this)
          have B6 := Lib.hid (onto B5.out hw5 hb6)
          have HX6 := Lib.hid (onto HX5.out HX5.out.size hb6)
          have hw6 : w.heap.size ≤ w6.heap.size := by have := hb6.size; omega
          have H6 := Lib.hid (ints_any 0 0 0 none none (fun _ => 0) w6 ⟨Nat.le_refl _, fun e => by omega⟩ ⟨Nat.le_refl _, fun e => by omega⟩ (by omega))
          clear H5 h6 hb6 B5 HX5 HE HZ
          go_wp2_with fail
          refine H6.out.mono ?_
          rintro e w7 ⟨rfl, hb7⟩
          have B7 := Lib.hid (onto B6.out hw6 hb7)
          have hx7 := onto HX6.out HX6.out.size hb7
          obtain ⟨k1, k2⟩ := CONE.out w7 hx7
          have k3 := conv_nil w7
          obtain ⟨SN, hSN⟩ : ∃ SN, SN = strOf 0 nF := ⟨_, rfl⟩
          rw [← hSN] at k3
          clear H6 hb7 hx7 B6 HX6 hSN
          first | rw [k1] at k3; obtain ⟨rfl⟩ : SA = SN := by injection k3 with e1 e2; injection e1 | skip
          go_wp2_with fail
          go_ret
          exact ⟨rfl, B7.out⟩
        case' inl =>
          obtain ⟨A5, c5, v5, rfl, hl5, -, ho5, hb5⟩ := h5.ok hz
          have HZ := Lib.hid hz
          have O5 := Lib.hid ho5
          have L5 := Lib.hid hl5
          have B5 := Lib.hid (onto B1.out hw1 hb5)
          have HX5 := Lib.hid hb5
          have hw5 : w.heap.size ≤ w5.heap.size := by have := hb5.size; omega
          have H5 := Lib.hid (rtakel_any N c0 m A0 a0 w5 ((U0.out.below hb5).more hb5.size) (by omega) (by omega))
          obtain ⟨V, hV⟩ : ∃ V, V = tkV a0 := ⟨_, rfl⟩
          have HV2 := Lib.hid (show V ≤ 2000 by rw [hV]; exact tll_le hz (by omega))
          rw [← hV] at O5 L5 ⊢
          have HV := Lib.hid hV
          clear H4 h5 hb5 hV hz ho5 hl5
          go_wp2_with fail
          refine H5.out.mono ?_
          intro e w6 h6
          obtain ⟨A6, c6, v6, rfl, hl6, -, ho6, hb6⟩ := h6.ok HZ.out
          rw [← HV.out] at hl6 ho6 ⊢
          have O6 := Lib.hid ho6
          have O5' := Lib.hid (O5.out.below hb6 (Nat.le_refl _))
          have B6 := Lib.hid (onto B5.out hw5 hb6)
          have HX6 := Lib.hid (onto HX5.out HX5.out.size hb6)
          have hw6 : w.heap.size ≤ w6.heap.size := by have := hb6.size; omega
          have H6 := Lib.hid (ints_any V c5 c6 A5 A6 (fun i => tlX a0 i) w6 ((L5.out.below hb6).more hb6.size) hl6 (by have := HV2.out; omega))
          clear H5 h6 hb6 B5 HX5 HZ O5 ho6 hl6 L5
          go_wp2_with fail
          refine H6.out.mono ?_
          rintro e w7 ⟨rfl, hb7⟩
          have B7 := Lib.hid (onto B6.out hw6 hb7)
          have hx7 := onto HX6.out HX6.out.size hb7
          obtain ⟨k1, k2⟩ := CONE.out w7 hx7
          have k4 := conv_own (O5'.out.below hb7 (Nat.le_refl _))
          have k5 := conv_own (O6.out.below hb7 (Nat.le_refl _))
          obtain ⟨SR, hSR⟩ : ∃ SR, SR = strOf (N - tlO a0 V) (offF a0 (tlO a0 V)) := ⟨_, rfl⟩
          rw [← hSR] at k4 k5
          clear H6 hb7 hx7 B6 HX6 O6 O5' hSR HV HV2
          go_wp2_with fail
          go_ret
          exact ⟨rfl, B7.out⟩
      case' neg =>
        obtain rfl : m = 2000 := by have := HMM.out; omega
        have hgt : ¬ a2 ≤ 2000 := hle
        clear HMM
        go_wp2_with fail
        have HZ0 := Lib.hid (Decidable.em (tllE N 2000 a0 = 0))
        refine H4.out.mono ?_
        intro e w5 h5
        have HZ := HZ0.out
        clear HZ0
        rcases HZ with hz | hz
        case' inr =>
          obtain ⟨rfl, hb5⟩ := h5.bad rfl hz
          have HZ := Lib.hid hz
          have B5 := Lib.hid (onto B1.out hw1 hb5)
          have HX5 := Lib.hid hb5
          have hw5 : w.heap.size ≤ w5.heap.size := by have := hb5.size; omega
          have H5 := Lib.hid (rtakel_any N c0 2000 A0 a0 w5 ((U0.out.below hb5).more hb5.size) (by omega) (by omega))
          obtain ⟨E, hE⟩ : ∃ E, E = tllE N 2000 a0 := ⟨_, rfl⟩
          rw [← hE] at h5 ⊢
          have HE := Lib.hid hE
          clear H4 h5 hb5 hE hz
          go_wp2_with fail
          refine H5.out.mono ?_
          intro e w6 h6
          obtain ⟨rfl, hb6⟩ := h6.bad (E := E) HE.out.symm (by have := HZ.out; rw [← HE.out] at this; exact this)
          have B6 := Lib.hid (onto B5.out hw5 hb6)
          have HX6 := Lib.hid (onto HX5.out HX5.out.size hb6)
          have hw6 : w.heap.size ≤ w6.heap.size := by have := hb6.size; omega
          have H6 := Lib.hid (ints_any 0 0 0 none none (fun _ => 0) w6 ⟨Nat.le_refl _, fun e => by omega⟩ ⟨Nat.le_refl _, fun e => by omega⟩ (by omega))
          clear H5 h6 hb6 B5 HX5 HE HZ
          go_wp2_with fail
          refine H6.out.mono ?_
          rintro e w7 ⟨rfl, hb7⟩
          have B7 := Lib.hid (onto B6.out hw6 hb7)
          have hx7 := onto HX6.out HX6.out.size hb7
          obtain ⟨k1, k2⟩ := CONE.out w7 hx7
          have k3 := conv_nil w7
          obtain ⟨SN, hSN⟩ : ∃ SN, SN = strOf 0 nF := ⟨_, rfl⟩
          rw [← hSN] at k3
          clear H6 hb7 hx7 B6 HX6 hSN
          first | rw [k1] at k3; obtain ⟨rfl⟩ : SA = SN := by injection k3 with e1 e2; injection e1 | skip
          go_wp2_with fail
          go_ret
          exact ⟨rfl, B7.out⟩
        case' inl =>
          obtain ⟨A5, c5, v5, rfl, hl5, -, ho5, hb5⟩ := h5.ok hz
          have HZ := Lib.hid hz
          have O5 := Lib.hid ho5
          have L5 := Lib.hid hl5
          have B5 := Lib.hid (onto B1.out hw1 hb5)
          have HX5 := Lib.hid hb5
          have hw5 : w.heap.size ≤ w5.heap.size := by have := hb5.size; omega
          have H5 := Lib.hid (rtakel_any N c0 2000 A0 a0 w5 ((U0.out.below hb5).more hb5.size) (by omega) (by omega))
          obtain ⟨V, hV⟩ : ∃ V, V = tkV a0 := ⟨_, rfl⟩
          have HV2 := Lib.hid (show V ≤ 2000 by rw [hV]; exact tll_le hz (by omega))
          rw [← hV] at O5 L5 ⊢
          have HV := Lib.hid hV
          clear H4 h5 hb5 hV hz ho5 hl5
          go_wp2_with fail
          refine H5.out.mono ?_
          intro e w6 h6
          obtain ⟨A6, c6, v6, rfl, hl6, -, ho6, hb6⟩ := h6.ok HZ.out
          rw [← HV.out] at hl6 ho6 ⊢
          have O6 := Lib.hid ho6
          have O5' := Lib.hid (O5.out.below hb6 (Nat.le_refl _))
          have B6 := Lib.hid (onto B5.out hw5 hb6)
          have HX6 := Lib.hid (onto HX5.out HX5.out.size hb6)
          have hw6 : w.heap.size ≤ w6.heap.size := by have := hb6.size; omega
          have H6 := Lib.hid (ints_any V c5 c6 A5 A6 (fun i => tlX a0 i) w6 ((L5.out.below hb6).more hb6.size) hl6 (by have := HV2.out; omega))
          clear H5 h6 hb6 B5 HX5 HZ O5 ho6 hl6 L5
          go_wp2_with fail
          refine H6.out.mono ?_
          rintro e w7 ⟨rfl, hb7⟩
          have B7 := Lib.hid (onto B6.out hw6 hb7)
          have hx7 := onto HX6.out HX6.out.size hb7
          obtain ⟨k1, k2⟩ := CONE.out w7 hx7
          have k4 := conv_own (O5'.out.below hb7 (Nat.le_refl _))
          have k5 := conv_own (O6.out.below hb7 (Nat.le_refl _))
          obtain ⟨SR, hSR⟩ : ∃ SR, SR = strOf (N - tlO a0 V) (offF a0 (tlO a0 V)) := ⟨_, rfl⟩
          rw [← hSR] at k4 k5
          clear H6 hb7 hx7 B6 HX6 O6 O5' hSR HV HV2
          go_wp2_with fail
          go_ret
          exact ⟨rfl, B7.out⟩

set_option maxRecDepth 100000 in
theorem lifted (os : Os) (started : os.Started) (H : Type) (enc : TypeId × Value → H) :
    ReturnsInHanded {} Try.checked os 5 .any (Rows.packListsSpec.pre6 enc Try.prog Try.f5 Rows.packListsRow.domain false) (Rows.packListsSpec.post enc Try.prog Try.f5 false true false false) := by
  refine returnsInHanded_of_change (C := Try.checked) own started (by kernel_rfl) Try.func5
    (ChangeSpec.witness6 (enc := enc) (C := Try.checked) false ⟨#[], #[.slice none 0 0, .slice none 0 0, .int .i64 0], []⟩ 8 (by kernel_rfl) (by kernel_rfl) (by kernel_rfl) (by kernel_rfl)) ?_
  intro W base args ds gs before hval0 hW hcnd _
  have hval : ∀ (j : Nat) t v, Try.f5.params[j]? = some t → args[j]? = some v → Value.okWide Try.prog W .any base t v := hval0
  have hW' := hW
  obtain ⟨p, q, hA0, hV, rfl, hfz, hnd⟩ := hW
  have hA : DataW.TrodAll enc Try.prog W 0 (fun _ => true) true Try.f5.params.toList args.toList ds p := hA0
  rw [Try.params5] at hA hval
  obtain ⟨v0, vs0, d0, ds0, p0, q0, hargs, rfl, rfl, h0, r0⟩ := trodAll_cons hA
  obtain ⟨v1, vs1, d1, ds1, p1, q1, rfl, rfl, rfl, h1, r1⟩ := trodAll_cons r0
  obtain ⟨v2, vs2, d2, ds2, p2, q2, rfl, rfl, rfl, h2, r2⟩ := trodAll_cons r1
  obtain ⟨rfl, rfl, rfl⟩ := trodAll_nil r2
  obtain rfl : args = #[v0, v1, v2] := by cases args; simp_all
  obtain ⟨rfl, rfl⟩ := trodVars_none hV
  have k0 := h0
  have lt0 : ∀ x ∈ p0, x.block < W.heap.size := by obtain ⟨m, hm⟩ := k0; exact DataW.trod_lt m _ _ _ hm
  obtain ⟨A0, n0, c0, a0, rfl, hs0, hm0⟩ := open_sl Try.underlying22 Try.underlying5 (by kernel_rfl) (hval 0 22 v0 rfl rfl) h0
  have k1 := h1
  have lt1 : ∀ x ∈ p1, x.block < W.heap.size := by obtain ⟨m, hm⟩ := k1; exact DataW.trod_lt m _ _ _ hm
  obtain ⟨A1, n1, c1, a1, rfl, hs1, hm1, hx1⟩ := open_ints Try.underlying34 Try.underlying3 (by kernel_rfl) (hval 1 34 v1 rfl rfl) h1
  obtain ⟨a2, rfl, rfl, rfl, w2⟩ := open_int Try.underlying3 (hval 2 3 v2 rfl rfl) h2
  clear hA0 hval0
  refine (walk a0 n0 c0 A0 a1 n1 c1 A1 a2 W hs0 hm0 hs1 hm1 hx1 w2).mono fun e W' ⟨he, bel⟩ => ?_
  subst he
  exact ⟨_, rfl, _, _, _, [], _, [], hW', trodAll_mk1 (shut_bool Try.underlying4 _), (trodAll_cons_mk (Below.trod laidOut (by kernel_rfl) (of_decide_eq_true (by kernel_rfl)) k0 bel lt0) (trodAll_cons_mk (Below.trod laidOut (by kernel_rfl) (of_decide_eq_true (by kernel_rfl)) k1 bel lt1) (trodAll_cons_mk (shut_int Try.underlying3 w2) trodAll_mk0))), rfl, bel.frame _, fun h => by cases h⟩

theorem over : Rows.packListsRow.holds Try.pinned (OpenSpec.ofChange Rows.packListsSpec) :=
  OpenClaim.holds_of_wide 5 Try.f5 rfl rfl rfl rfl rfl rfl rfl ⟨rfl, rfl, rfl, rfl, rfl⟩ rfl rfl rfl rfl rfl (by kernel_rfl) Try.func5 (by kernel_rfl)
    (of_decide_eq_true (by kernel_rfl)) (by unfold Func.isWrapper; first | (rw [if_pos (by decide +kernel)]; kernel_rfl) | (rw [if_neg (by decide +kernel)]; exact ⟨rfl, rfl⟩))
    (fun os started H enc _ => lifted os started H enc)

theorem proved : Rows.PackListsSaid := over
#print axioms proved
end Go.Proofs.Ytbdnokccipoibaa.packLists
