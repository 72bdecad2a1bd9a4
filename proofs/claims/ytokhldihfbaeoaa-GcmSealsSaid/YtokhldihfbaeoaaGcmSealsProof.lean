/- The statement GcmSeals: the law strongroomlaw04.GcmSeals answers true for every input, and leaves its arguments as they were. No further condition. -/
import Derived.Test.YtokhldihfbaeoaaRows
import Derived.Test.YtokhldihfbaeoaaOpen
import Derived.Test.YtokhldihfbaeoaaBox
import Derived.Test.YtokhldihfbaeoaaFlowF
namespace Go.Proofs.Ytokhldihfbaeoaa.gcmSeals
open Go.ChangeShapes Go.WideShapes Go.ChangeAt Go.RowKit
open Go.Proofs.Ytokhldihfbaeoaa.Oct
set_option linter.unusedVariables false

theorem own : ownKnob Try.prog.godebug = none := by kernel_rfl
theorem laidOut : laidOutB Try.prog = true := by kernel_rfl

set_option maxRecDepth 20000 in
set_option maxHeartbeats 2000000 in
theorem walk (k0 m0 f0 : Nat → BitVec 8) (n0 c0 : Nat) (A0 : Option Addr) (a1 : Nat → BitVec 8) (n1 c1 : Nat) (A1 : Option Addr) (a2 : Nat → BitVec 8) (n2 c2 : Nat) (A2 : Option Addr) (w : World) (hs0 : Sl w w.heap.size A0 n0 c0 f0) (hm0 : c0 ≤ maxLen) (hs1 : Sl w w.heap.size A1 n1 c1 a1) (hm1 : c1 ≤ maxLen) (hs2 : Sl w w.heap.size A2 n2 c2 a2) (hm2 : c2 ≤ maxLen) :
    Calls Try.prog 5 #[.agg (boxC k0 m0 (.slice A0 n0 c0)), .slice A1 n1 c1, .slice A2 n2 c2] w fun e w' => e = .returned (.bool true) ∧ Below w.heap.size w w' := by
  have B0 := Lib.hid ((Below.refl w.heap.size w).alloc (by simp) (.cells (boxC k0 m0 (.slice A0 n0 c0)) 28))
  have q0 : row (w.alloc (.cells (boxC k0 m0 (.slice A0 n0 c0)) 28)) w.heap.size = some (boxC k0 m0 (.slice A0 n0 c0)) := row_alloc_at _ _ _ _ rfl
  obtain ⟨L, hL⟩ : ∃ L, L = min n1 1000 := ⟨_, rfl⟩
  obtain ⟨M, hM⟩ : ∃ M, M = min n0 1000 := ⟨_, rfl⟩
  obtain ⟨K, hK⟩ : ∃ K, K = min n2 1000 := ⟨_, rfl⟩
  have HF := Lib.hid (fun w : World => few_any A0 n0 c0 hs0.le hm0 w)
  have HFL := Lib.hid (fun w : World => few_any A1 n1 c1 hs1.le hm1 w)
  have HFK := Lib.hid (fun w : World => few_any A2 n2 c2 hs2.le hm2 w)
  rw [← hM] at HF
  rw [← hL] at HFL
  rw [← hK] at HFK
  have HSL := Lib.hid (hs1.upto L (by omega))
  have HSM := Lib.hid (hs0.upto M (by omega))
  have HSK := Lib.hid (hs2.upto K (by omega))
  have hL0 : L ≤ 1000 := by omega
  have hM0 : M ≤ 1000 := by omega
  have hK0 : K ≤ 1000 := by omega
  have HLM := Lib.hid (show M ≤ 1099511627776 ∧ K ≤ 1099511627776 ∧ L ≤ 1099511627776 by omega)
  clear hL hM hK hs0 hs1 hs2 hm0 hm1 hm2
  go_enter Try.func5, Try.ntmps5
  go_wp2_with fail
  refine (shown_any _).mono ?_
  rintro e w1 ⟨rfl, hb1⟩
  have r0 := carry hb1 q0
  have B1 := Lib.hid (onto B0.out (by simp) hb1)
  clear hb1 B0 q0
  go_wp2_with fail
  refine (HFL.out _).mono ?_
  rintro e w2 ⟨rfl, rfl⟩
  go_wp2_with fail
  refine (HFK.out _).mono ?_
  rintro e w2 ⟨rfl, rfl⟩
  have HOE := Lib.hid (Own.empty w1 w1.heap.size 5 nF (Nat.le_refl _))
  have HSA := Lib.hid ((HSL.out.below B1.out).below ((Below.refl w.heap.size w1).alloc (by have := B1.out.size; omega) (.cells #[] 5)))
  go_wp2_with (at_builtin; refine wpl_appB rfl (.tmp 20) (.tmp 21) rfl sli_u u8_info HOE.out HSA.out (by omega) (by simp) rfl rfl ?_; intro v8 w3 ho hg ht; have hb3 := HOE.out.after hg ((Below.refl w1.heap.size w1).alloc (Nat.le_refl _) _) (by simp) (Nat.le_refl _); have hCC := box_cell (row_alloc (carry hb3 r0) (.cells #[] 5)))
  rw [catF_zero, Nat.zero_add] at ho
  obtain ⟨A8, c8, rfl, h8, -, -⟩ := ho.sl
  have B3 := Lib.hid (onto B1.out B1.out.size hb3)
  have r3 := carry hb3 r0
  have HE8 := Lib.hid h8
  clear ho hg ht hb3 r0 HOE HSA h8 hCC B1
  refine (HF.out _).mono ?_
  rintro e w2 ⟨rfl, rfl⟩
  have HOE := Lib.hid (Own.empty w3 w3.heap.size 5 nF (Nat.le_refl _))
  have HSA := Lib.hid ((HSM.out.below B3.out).below ((Below.refl w.heap.size w3).alloc (by have := B3.out.size; omega) (.cells #[] 5)))
  go_wp2_with (at_builtin; refine wpl_appB rfl (.tmp 23) (.tmp 26) rfl sli_u u8_info HOE.out HSA.out (by omega) (by simp) rfl rfl ?_; intro v9 w4 ho hg ht; have hb4 := HOE.out.after hg ((Below.refl w3.heap.size w3).alloc (Nat.le_refl _) _) (by simp) (Nat.le_refl _); have hK := box_ld_key (carry hb4 r3); have hN := box_ld_non (carry hb4 r3))
  rw [catF_zero, Nat.zero_add] at ho
  obtain ⟨A9, c9, rfl, h9, -, -⟩ := ho.sl
  have B4 := Lib.hid (onto B3.out B3.out.size hb4)
  have r4 := carry hb4 r3
  have HG8 := Lib.hid ((HE8.out.below hb4).more hb4.size)
  have HG9 := Lib.hid h9
  clear ho hg ht hb4 hK hN r3 HOE HSA h9 B3 HE8
  refine (gseal_any k0 m0 f0 M c9 A9 a1 L c8 A8 _ HG9.out HG8.out HLM.out.1 HLM.out.2.2).mono ?_
  rintro e w5 ⟨v10, rfl, ho, hb5⟩
  obtain ⟨N6, hN6⟩ : ∃ N6, N6 = L + 16 := ⟨_, rfl⟩
  obtain ⟨W, hW⟩ : ∃ W, W = sealF k0 m0 f0 M a1 L := ⟨_, rfl⟩
  rw [← hN6, ← hW] at ho
  have HN6 := Lib.hid hN6
  have HWW := Lib.hid hW
  clear hN6 hW
  obtain ⟨A10, c10, rfl, h10, -, -⟩ := ho.sl
  have B5 := Lib.hid (onto B4.out B4.out.size hb5)
  have r5 := carry hb5 r4
  have HH8 := Lib.hid ((HG8.out.below hb5).more hb5.size)
  have HH9 := Lib.hid ((HG9.out.below hb5).more hb5.size)
  have HH10 := Lib.hid h10
  clear ho h10 hb5 r4 B4 HG8 HG9
  have hK := box_ld_key r5
  have hN := box_ld_non r5
  have HR5 := Lib.hid r5
  clear r5
  go_wp2_with fail
  refine (gopen_any k0 m0 f0 M c9 A9 a2 K c2 A2 _ HH9.out ((HSK.out.below B5.out).more B5.out.size) HLM.out.1 HLM.out.2.1).mono ?_
  rintro e w6 ⟨v11, rfl, ho, hb6⟩
  obtain ⟨E, hE⟩ : ∃ E, E = opC k0 m0 f0 M a2 K := ⟨_, rfl⟩
  obtain ⟨O, hO⟩ : ∃ O, O = opL k0 m0 f0 M a2 K := ⟨_, rfl⟩
  rw [← hO] at ho
  rw [← hE]
  have HEE := Lib.hid hE
  have HOO := Lib.hid hO
  clear hE hO
  obtain ⟨A11, c11, rfl, h11, -, -⟩ := ho.sl
  have B6 := Lib.hid (onto B5.out B5.out.size hb6)
  have r6 := carry hb6 HR5.out
  have HI8 := Lib.hid ((HH8.out.below hb6).more hb6.size)
  have HI9 := Lib.hid ((HH9.out.below hb6).more hb6.size)
  have HI10 := Lib.hid ((HH10.out.below hb6).more hb6.size)
  have HI11 := Lib.hid h11
  clear ho h11 hb6 HR5 B5 HH8 HH9 HH10 hK hN
  go_wp2_with fail
  refine flow_seen [([0, 1, 2, 3, 4, 5, 7], 6, false), ([], 8, false)] [9, 10, 11, 12, 13] (by kernel_rfl) (by kernel_rfl) (fun _ _ _ _ _ h => h) fun Z => ?_
  have t6 := carry Z.below r6
  have B7 := Lib.hid (onto B6.out B6.out.size Z.below)
  have HJ8 := Lib.hid ((HI8.out.below Z.below).more Z.below.size)
  have HJ9 := Lib.hid ((HI9.out.below Z.below).more Z.below.size)
  have HJ10 := Lib.hid ((HI10.out.below Z.below).more Z.below.size)
  have HJ11 := Lib.hid ((HI11.out.below Z.below).more Z.below.size)
  clear r6 B6 HI8 HI9 HI10 HI11
  generalize Z.val = w7 at t6 B7 HJ8 HJ9 HJ10 HJ11 ⊢
  clear Z
  have hK := fun x : After w7 => box_ld_key (After.row t6 x)
  have hN := fun x : After w7 => box_ld_non (After.row t6 x)
  have hC := fun x : After w7 => box_cell (After.row t6 x)
  simp only [wpFs, pk, List.getElem?_cons_zero, List.getElem?_cons_succ]
  repeat (go_big_quiet_step (fail))
  refine wpQuiet_nil ?_
  clear hK hN hC
  go_wp2_with fail
  refine (HF.out _).mono ?_
  rintro e w3 ⟨rfl, rfl⟩
  go_wp2_with fail
  refine ⟨.inr (Below.refl _ _), ?_⟩
  show wpQuiet _ _ _ _ _ _
  refine wpQuiet_nil ?_
  go_wp2_with fail
  refine (rgopen_any k0 m0 f0 M c0 A0 a2 K c2 A2 _ ((HSM.out.below B7.out).more B7.out.size) ((HSK.out.below B7.out).more B7.out.size) HLM.out.1 HLM.out.2.1).mono ?_
  rintro e w8 ⟨v13, rfl, ho, hb8⟩
  rw [← HOO.out] at ho
  rw [← HEE.out]
  obtain ⟨A13, c13, rfl, h13, -, -⟩ := ho.sl
  have B8 := Lib.hid (onto B7.out B7.out.size hb8)
  have r8 := carry hb8 t6
  have HK8 := Lib.hid ((HJ8.out.below hb8).more hb8.size)
  have HK9 := Lib.hid ((HJ9.out.below hb8).more hb8.size)
  have HK10 := Lib.hid ((HJ10.out.below hb8).more hb8.size)
  have HK11 := Lib.hid ((HJ11.out.below hb8).more hb8.size)
  have HK13 := Lib.hid h13
  go_wp2_with fail
  refine ⟨.inr hb8, ?_⟩
  clear ho h13 hb8 t6 B7 HJ8 HJ9 HJ10 HJ11
  show wpQuiet _ _ _ _ _ _
  repeat (go_big_quiet_step (fail))
  refine wpQuiet_nil ?_
  go_wp2_with fail
  obtain ⟨Y, hY⟩ : ∃ Y, Y = xorS k0 m0 2 a2 := ⟨_, rfl⟩
  rw [← hY] at HK11 HK13
  clear hY
  obtain ⟨SW, hSW⟩ : ∃ SW, SW = Oct.strOf N6 W := ⟨_, rfl⟩
  obtain ⟨SO, hSO⟩ : ∃ SO, SO = Oct.strOf O Y := ⟨_, rfl⟩
  obtain ⟨SA, hSA⟩ : ∃ SA, SA = Oct.strOf L a1 := ⟨_, rfl⟩
  obtain ⟨SB, hSB⟩ : ∃ SB, SB = Oct.strOf M f0 := ⟨_, rfl⟩
  have HSW := Lib.hid hSW
  have HSO := Lib.hid hSO
  have HSA := Lib.hid hSA
  have HSB := Lib.hid hSB
  clear hSW hSO hSA hSB
  refine flow_seen [([0, 1, 2, 3, 4, 5, 6, 7, 8, 9, 11], 10, false), ([], 12, false), ([13, 14, 15, 16, 17, 18, 19, 20, 21, 22, 23, 24, 25, 26, 27, 28, 29, 30, 31, 32, 33, 34, 35, 36, 37, 38, 39], 40, false)] [41, 42, 43, 44] (by kernel_rfl) (by kernel_rfl) (fun _ _ _ _ _ h => h) fun Z => ?_
  have t8 := carry Z.below r8
  have B9 := Lib.hid (onto B8.out B8.out.size Z.below)
  have HL8 := Lib.hid ((HK8.out.below Z.below).more Z.below.size)
  have HL9 := Lib.hid ((HK9.out.below Z.below).more Z.below.size)
  have HL10 := Lib.hid ((HK10.out.below Z.below).more Z.below.size)
  have HL11 := Lib.hid ((HK11.out.below Z.below).more Z.below.size)
  have HL13 := Lib.hid ((HK13.out.below Z.below).more Z.below.size)
  clear r8 B8 HK8 HK9 HK10 HK11 HK13
  generalize Z.val = w9 at t8 B9 HL8 HL9 HL10 HL11 HL13 ⊢
  clear Z
  have hK := fun x : After w9 => box_ld_key (After.row t8 x)
  have hN := fun x : After w9 => box_ld_non (After.row t8 x)
  have hC := fun x : After w9 => box_cell (After.row t8 x)
  have cv10 : ∀ x : After w9, (convert 26 9 (.slice A10 N6 c10)).run Try.prog x.val = .ok (.string SW) x.val := fun x => by
    rw [HSW.out]; exact run_str sli_u u8_u str_u (After.sl HL10.out x)
  simp only [wpFs, pk, List.getElem?_cons_zero, List.getElem?_cons_succ]
  repeat (go_big_quiet_step (fail))
  refine wpQuiet_nil ?_
  clear hK hN hC cv10
  go_wp2_with fail
  refine (HF.out _).mono ?_
  rintro e w3 ⟨rfl, rfl⟩
  go_wp2_with fail
  refine ⟨.inr (Below.refl _ _), ?_⟩
  show wpQuiet _ _ _ _ _ _
  refine wpQuiet_nil ?_
  go_wp2_with fail
  refine (rgseal_any k0 m0 f0 M c0 A0 a1 L c1 A1 _ ((HSM.out.below B9.out).more B9.out.size) ((HSL.out.below B9.out).more B9.out.size) HLM.out.1 HLM.out.2.2).mono ?_
  rintro e wa ⟨v69, rfl, ho, hba⟩
  rw [← HN6.out, ← HWW.out] at ho
  obtain ⟨A69, c69, rfl, h69, -, -⟩ := ho.sl
  have Ba := Lib.hid (onto B9.out B9.out.size hba)
  have ra := carry hba t8
  have HM8 := Lib.hid ((HL8.out.below hba).more hba.size)
  have HM9 := Lib.hid ((HL9.out.below hba).more hba.size)
  have HM11 := Lib.hid ((HL11.out.below hba).more hba.size)
  have HM13 := Lib.hid ((HL13.out.below hba).more hba.size)
  have HM69 := Lib.hid h69
  go_wp2_with fail
  refine ⟨.inr hba, ?_⟩
  clear ho h69 hba t8 B9 HL8 HL9 HL10 HL11 HL13
  have hC := fun x : After wa => box_cell (After.row ra x)
  have cv69 : ∀ x : After wa, (convert 26 9 (.slice A69 N6 c69)).run Try.prog x.val = .ok (.string SW) x.val := fun x => by
    rw [HSW.out]; exact run_str sli_u u8_u str_u (After.sl HM69.out x)
  have cv11 : ∀ x : After wa, (convert 26 9 (.slice A11 O c11)).run Try.prog x.val = .ok (.string SO) x.val := fun x => by
    rw [HSO.out]; exact run_str sli_u u8_u str_u (After.sl HM11.out x)
  have cv13 : ∀ x : After wa, (convert 26 9 (.slice A13 O c13)).run Try.prog x.val = .ok (.string SO) x.val := fun x => by
    rw [HSO.out]; exact run_str sli_u u8_u str_u (After.sl HM13.out x)
  have cv8 : ∀ x : After wa, (convert 26 9 (.slice A8 L c8)).run Try.prog x.val = .ok (.string SA) x.val := fun x => by
    rw [HSA.out]; exact run_str sli_u u8_u str_u (After.sl HM8.out x)
  have cv1 : ∀ x : After wa, (convert 26 9 (.slice A1 L c1)).run Try.prog x.val = .ok (.string SA) x.val := fun x => by
    rw [HSA.out]; exact run_str sli_u u8_u str_u (HSL.out.below (onto Ba.out Ba.out.size x.below))
  have cv9 : ∀ x : After wa, (convert 26 9 (.slice A9 M c9)).run Try.prog x.val = .ok (.string SB) x.val := fun x => by
    rw [HSB.out]; exact run_str sli_u u8_u str_u (After.sl HM9.out x)
  show wpQuiet _ _ _ _ _ _
  repeat (go_big_quiet_step (fail))
  refine wpQuiet_nil ?_
  clear hC cv69 cv11 cv13 cv8 cv1 cv9
  go_wp2_with fail
  refine (HF.out _).mono ?_
  rintro e w3 ⟨rfl, rfl⟩
  go_wp2_with fail
  refine ⟨.inr (Below.refl _ _), ?_⟩
  have cv0 : ∀ x : After wa, (convert 26 9 (.slice A0 M c0)).run Try.prog x.val = .ok (.string SB) x.val := fun x => by
    rw [HSB.out]; exact run_str sli_u u8_u str_u (HSM.out.below (onto Ba.out Ba.out.size x.below))
  show wpQuiet _ _ _ _ _ _
  repeat (go_big_quiet_step (fail))
  refine wpQuiet_nil ?_
  clear cv0
  go_wp2
  go_ret
  exact ⟨rfl, Ba.out⟩

set_option maxRecDepth 100000 in
theorem lifted (os : Os) (started : os.Started) (H : Type) (enc : TypeId × Value → H) :
    ReturnsInHanded {} Try.checked os 5 .any (Rows.gcmSealsSpec.pre6 enc Try.prog Try.f5 Rows.gcmSealsRow.domain false) (Rows.gcmSealsSpec.post enc Try.prog Try.f5 false true false false) := by
  refine returnsInHanded_of_change (C := Try.checked) own started (by kernel_rfl) Try.func5
    (ChangeSpec.witness6 (enc := enc) (C := Try.checked) false ⟨#[], #[.agg (Array.replicate 32 (.int .u8 0) ++ Array.replicate 12 (.int .u8 0) ++ #[.slice none 0 0]), .slice none 0 0, .slice none 0 0], []⟩ 8 (by kernel_rfl) (by kernel_rfl) (by kernel_rfl) (by kernel_rfl)) ?_
  intro W base args ds gs before hval0 hW hcnd _
  have hval : ∀ (j : Nat) t v, Try.f5.params[j]? = some t → args[j]? = some v → Value.okWide Try.prog W .any base t v := hval0
  have hW' := hW
  obtain ⟨p, q, hA0, hV, rfl, hfz, hnd⟩ := hW
  have hA : DataW.TrodAll enc Try.prog W 0 (fun _ => true) true Try.f5.params.toList args.toList ds p := hA0
  rw [Try.params5] at hA hval
  obtain ⟨v0, vs0, d0, ds0, p0, q0, hargs, rfl, rfl, h0, r0⟩ := trodAll_cons hA
  obtain ⟨v1, vs1, d1, ds1, p1, q1, rfl, rfl, rfl, h1, r1⟩ := trodAll_cons r0
  obtain ⟨v2, vs2, d2, ds2, p2, q2, rfl, rfl, rfl, h2, r2⟩ := trodAll_cons r1
  obtain ⟨rfl, rfl, rfl⟩ := trodAll_nil r2
  obtain rfl : args = #[v0, v1, v2] := by cases args; simp_all
  obtain ⟨rfl, rfl⟩ := trodVars_none hV
  have k0 := h0
  have lt0 : ∀ x ∈ p0, x.block < W.heap.size := by obtain ⟨m, hm⟩ := k0; exact DataW.trod_lt m _ _ _ hm
  obtain ⟨kb0, mb0, A0, n0, c0, fb0, rfl, hs0, hm0⟩ := open_box (hval 0 28 v0 rfl rfl) h0
  have k1 := h1
  have lt1 : ∀ x ∈ p1, x.block < W.heap.size := by obtain ⟨m, hm⟩ := k1; exact DataW.trod_lt m _ _ _ hm
  obtain ⟨A1, n1, c1, a1, rfl, hs1, hm1⟩ := open_sl Try.underlying26 Try.underlying5 (by kernel_rfl) (hval 1 26 v1 rfl rfl) h1
  have k2 := h2
  have lt2 : ∀ x ∈ p2, x.block < W.heap.size := by obtain ⟨m, hm⟩ := k2; exact DataW.trod_lt m _ _ _ hm
  obtain ⟨A2, n2, c2, a2, rfl, hs2, hm2⟩ := open_sl Try.underlying26 Try.underlying5 (by kernel_rfl) (hval 2 26 v2 rfl rfl) h2
  clear hA0 hval0
  refine (walk kb0 mb0 fb0 n0 c0 A0 a1 n1 c1 A1 a2 n2 c2 A2 W hs0 hm0 hs1 hm1 hs2 hm2).mono fun e W' ⟨he, bel⟩ => ?_
  subst he
  exact ⟨_, rfl, _, _, _, [], _, [], hW', trodAll_mk1 (shut_bool Try.underlying4 _), (trodAll_cons_mk (Below.trod laidOut (by kernel_rfl) (of_decide_eq_true (by kernel_rfl)) k0 bel lt0) (trodAll_cons_mk (Below.trod laidOut (by kernel_rfl) (of_decide_eq_true (by kernel_rfl)) k1 bel lt1) (trodAll_cons_mk (Below.trod laidOut (by kernel_rfl) (of_decide_eq_true (by kernel_rfl)) k2 bel lt2) trodAll_mk0))), rfl, bel.frame _, fun h => by cases h⟩

theorem over : Rows.gcmSealsRow.holds Try.pinned (OpenSpec.ofChange Rows.gcmSealsSpec) :=
  OpenClaim.holds_of_wide 5 Try.f5 rfl rfl rfl rfl rfl rfl rfl ⟨rfl, rfl, rfl, rfl, rfl⟩ rfl rfl rfl rfl rfl (by kernel_rfl) Try.func5 (by kernel_rfl)
    (of_decide_eq_true (by kernel_rfl)) (by unfold Func.isWrapper; first | (rw [if_pos (by decide +kernel)]; kernel_rfl) | (rw [if_neg (by decide +kernel)]; exact ⟨rfl, rfl⟩))
    (fun os started H enc _ => lifted os started H enc)

theorem proved : Rows.GcmSealsSaid := over
#print axioms proved
end Go.Proofs.Ytokhldihfbaeoaa.gcmSeals
