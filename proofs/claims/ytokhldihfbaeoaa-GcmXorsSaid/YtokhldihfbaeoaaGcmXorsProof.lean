/- The statement GcmXors: the law strongroomlaw04.GcmXors answers true for every input, and leaves its arguments as they were. No further condition. -/
import Derived.Test.YtokhldihfbaeoaaRows
import Derived.Test.YtokhldihfbaeoaaOpen
import Derived.Test.YtokhldihfbaeoaaBox
import Derived.Test.YtokhldihfbaeoaaFlowF
namespace Go.Proofs.Ytokhldihfbaeoaa.gcmXors
open Go.ChangeShapes Go.WideShapes Go.ChangeAt Go.RowKit
open Go.Proofs.Ytokhldihfbaeoaa.Oct
set_option linter.unusedVariables false

theorem own : ownKnob Try.prog.godebug = none := by kernel_rfl
theorem laidOut : laidOutB Try.prog = true := by kernel_rfl

set_option maxRecDepth 20000 in
set_option maxHeartbeats 4000000 in
theorem walk (k0 m0 f0 : Nat → BitVec 8) (n0 c0 : Nat) (A0 : Option Addr) (a1 : Int) (a2 : Nat → BitVec 8) (n2 c2 : Nat) (A2 : Option Addr) (w : World) (hs0 : Sl w w.heap.size A0 n0 c0 f0) (hm0 : c0 ≤ maxLen) (w1 : (Lit.int .u32 a1).wf = true) (hs2 : Sl w w.heap.size A2 n2 c2 a2) (hm2 : c2 ≤ maxLen) :
    Calls Try.prog 3 #[.agg (boxC k0 m0 (.slice A0 n0 c0)), .int .u32 a1, .slice A2 n2 c2] w fun e w' => e = .returned (.bool true) ∧ Below w.heap.size w w' := by
  have B0 := Lib.hid ((Below.refl w.heap.size w).alloc (by simp) (.cells (boxC k0 m0 (.slice A0 n0 c0)) 28))
  have q0 : row (w.alloc (.cells (boxC k0 m0 (.slice A0 n0 c0)) 28)) w.heap.size = some (boxC k0 m0 (.slice A0 n0 c0)) := row_alloc_at _ _ _ _ rfl
  have HS2 := Lib.hid hs2
  have hn2 := hs2.le
  have hw1 : 0 ≤ a1 ∧ a1 ≤ 4294967295 := bounds_u32 w1
  obtain ⟨fr, rfl⟩ : ∃ fr : Nat, a1 = (fr : Int) := ⟨a1.toNat, by omega⟩
  have hfr : fr < 4294967296 := by omega
  clear hs2 hs0 w1 hw1
  go_enter Try.func3, Try.ntmps3
  go_wp2_with fail
  refine (shown_any _).mono ?_
  rintro e w1 ⟨rfl, hb1⟩
  have r0 := carry hb1 q0
  have B1 := Lib.hid (onto B0.out (by simp) hb1)
  have HW1 := Lib.hid (show w.heap.size + 1 ≤ w1.heap.size by have := hb1.size; simp at this; omega)
  clear hb1 B0 q0
  go_wp2_with fail
  refine (few_any A2 n2 c2 hn2 hm2 _).mono ?_
  rintro e w2 ⟨rfl, rfl⟩
  obtain ⟨L, hL⟩ : ∃ L, L = min n2 1000 := ⟨_, rfl⟩
  rw [← hL]
  have HSL := Lib.hid (HS2.out.upto L (by omega))
  have hL0 : L ≤ 1000 := by omega
  have HLE := Lib.hid hL0
  clear hL hn2 hm2 HS2
  have HOE := Lib.hid (Own.empty w1 w1.heap.size 5 nF (Nat.le_refl _))
  have HSA := Lib.hid ((HSL.out.below B1.out).below ((Below.refl w.heap.size w1).alloc (by have := B1.out.size; omega) (.cells #[] 5)))
  go_wp2_with (at_builtin; refine wpl_appB rfl (.tmp 13) (.tmp 14) rfl sli_u u8_info HOE.out HSA.out (by omega) (by simp) rfl rfl ?_; intro v8 w3 ho hg ht; have hb3 := HOE.out.after hg ((Below.refl w1.heap.size w1).alloc (Nat.le_refl _) _) (by simp) (Nat.le_refl _); have hK := box_ld_key (carry hb3 r0); have hN := box_ld_non (carry hb3 r0))
  rw [catF_zero, Nat.zero_add] at ho
  obtain ⟨A8, c8, rfl, h8, -, -⟩ := ho.sl
  have HB3 := Lib.hid (onto B1.out B1.out.size hb3)
  have r3 := carry hb3 r0
  clear ho hg ht hb3 hK hN r0 HOE HSA
  refine (gxor_any k0 m0 fr hfr a2 L c8 A8 _ h8 (by omega)).mono ?_
  rintro e w4 ⟨v9, rfl, ho9, hb4⟩
  obtain ⟨A9, c9, rfl, h9, -, -⟩ := ho9.sl
  have B4 := Lib.hid (onto HB3.out HB3.out.size hb4)
  have r4 := carry hb4 r3
  have HS8 := Lib.hid ((h8.below hb4).more hb4.size)
  have HS9 := Lib.hid h9
  clear h8 ho9 h9 hb4 r3 HB3
  go_wp2_with fail
  have HST := Lib.hid (show ∀ (n : Nat) (b b' : Bf), (∀ i, i < n → b i = b' i) → strOf n b = strOf n b' from fun _ _ _ h => str_congr h)
  refine flow_seen [([0, 1, 2, 3, 4, 5, 6, 7, 8, 9], 10, false), ([11, 12, 13, 14, 15, 16, 17, 18, 19, 20, 23, 24], 21, false)] [22, 25, 26, 27, 28, 29, 30, 31, 32, 33, 34] (by kernel_rfl) (by kernel_rfl) (fun _ _ _ _ _ h => h) fun X => ?_
  have t0 := carry X.below r4
  have B5 := Lib.hid (onto B4.out B4.out.size X.below)
  have HT8 := Lib.hid ((HS8.out.below X.below).more X.below.size)
  have HT9 := Lib.hid ((HS9.out.below X.below).more X.below.size)
  clear r4 B4 HS8 HS9
  generalize X.val = w5 at t0 B5 HT8 HT9 ⊢
  clear X
  have hK := fun x : After w5 => box_ld_key (After.row t0 x)
  have hN := fun x : After w5 => box_ld_non (After.row t0 x)
  obtain ⟨Y, hY⟩ : ∃ Y, Y = xorS k0 m0 fr a2 := ⟨_, rfl⟩
  have HY := Lib.hid hY
  rw [← hY] at HT9
  obtain ⟨SY, hSY⟩ : ∃ SY, SY = strOf L Y := ⟨_, rfl⟩
  obtain ⟨SA, hSA⟩ : ∃ SA, SA = strOf L a2 := ⟨_, rfl⟩
  have HSY := Lib.hid hSY
  have HSA := Lib.hid hSA
  have cv9 : ∀ x : After w5, (convert 26 9 (.slice A9 L c9)).run Try.prog x.val = .ok (.string SY) x.val := fun x => by
    rw [hSY]; exact run_str sli_u u8_u str_u (After.sl HT9.out x)
  clear hY hSY hSA
  simp only [wpFs, pk, List.getElem?_cons_zero, List.getElem?_cons_succ]
  repeat (go_big_quiet_step (fail))
  refine wpQuiet_nil ?_
  clear hK hN cv9
  go_wp2_with fail
  refine (rgxor_any k0 m0 fr hfr a2 L c2 A2 _ ((HSL.out.below B5.out).more B5.out.size) (by omega)).mono ?_
  rintro e w6 ⟨v33, rfl, ho, hb6⟩
  rw [← HY.out] at ho
  obtain ⟨A33, c33, rfl, h33, -, -⟩ := ho.sl
  have H33 := Lib.hid h33
  have B6 := Lib.hid (onto B5.out B5.out.size hb6)
  have HU8 := Lib.hid ((HT8.out.below hb6).more hb6.size)
  have HU9 := Lib.hid ((HT9.out.below hb6).more hb6.size)
  have r6 := carry hb6 t0
  go_wp2_with fail
  refine ⟨.inr hb6, ?_⟩
  clear ho h33 hb6 t0 B5 HT8 HT9
  have hK := fun x : After w6 => box_ld_key (After.row r6 x)
  have hN := fun x : After w6 => box_ld_non (After.row r6 x)
  have cv33 : ∀ x : After w6, (convert 26 9 (.slice A33 L c33)).run Try.prog x.val = .ok (.string SY) x.val := fun x => by
    rw [HSY.out]; exact run_str sli_u u8_u str_u (After.sl H33.out x)
  have cv2 : ∀ x : After w6, (convert 26 9 (.slice A2 L c2)).run Try.prog x.val = .ok (.string SA) x.val := fun x => by
    rw [HSA.out]; exact run_str sli_u u8_u str_u (HSL.out.below (onto B6.out B6.out.size x.below))
  show wpQuiet _ _ _ _ _ _
  repeat (go_big_quiet_step (fail))
  refine wpQuiet_nil ?_
  clear hK hN cv33 cv2
  go_wp2_with fail
  refine (gxor_any k0 m0 fr hfr Y L c9 A9 _ HU9.out (by omega)).mono ?_
  rintro e w7 ⟨v44, rfl, ho, hb7⟩
  rw [HY.out, xorS_back] at ho
  obtain ⟨A44, c44, rfl, h44, -, -⟩ := ho.sl
  have H44 := Lib.hid h44
  have B7 := Lib.hid (onto B6.out B6.out.size hb7)
  have HV8 := Lib.hid ((HU8.out.below hb7).more hb7.size)
  go_wp2_with fail
  refine ⟨.inr hb7, ?_⟩
  clear ho h44 hb7 r6 B6 HU8 HU9
  have cv44 : ∀ x : After w7, (convert 26 9 (.slice A44 L c44)).run Try.prog x.val = .ok (.string SA) x.val := fun x => by
    rw [HSA.out]; exact run_str sli_u u8_u str_u (After.sl H44.out x)
  have cv8 : ∀ x : After w7, (convert 26 9 (.slice A8 L c8)).run Try.prog x.val = .ok (.string SA) x.val := fun x => by
    rw [HSA.out]; exact run_str sli_u u8_u str_u (After.sl HV8.out x)
  have cv2 : ∀ x : After w7, (convert 26 9 (.slice A2 L c2)).run Try.prog x.val = .ok (.string SA) x.val := fun x => by
    rw [HSA.out]; exact run_str sli_u u8_u str_u (HSL.out.below (onto B7.out B7.out.size x.below))
  show wpQuiet _ _ _ _ _ _
  repeat (go_big_quiet_step (fail))
  refine wpQuiet_nil ?_
  clear cv44 cv8 cv2
  go_wp2
  go_ret
  exact ⟨rfl, B7.out⟩

set_option maxRecDepth 100000 in
theorem lifted (os : Os) (started : os.Started) (H : Type) (enc : TypeId × Value → H) :
    ReturnsInHanded {} Try.checked os 3 .any (Rows.gcmXorsSpec.pre6 enc Try.prog Try.f3 Rows.gcmXorsRow.domain false) (Rows.gcmXorsSpec.post enc Try.prog Try.f3 false true false false) := by
  refine returnsInHanded_of_change (C := Try.checked) own started (by kernel_rfl) Try.func3
    (ChangeSpec.witness6 (enc := enc) (C := Try.checked) false ⟨#[], #[.agg (Array.replicate 32 (.int .u8 0) ++ Array.replicate 12 (.int .u8 0) ++ #[.slice none 0 0]), .int .u32 0, .slice none 0 0], []⟩ 8 (by kernel_rfl) (by kernel_rfl) (by kernel_rfl) (by kernel_rfl)) ?_
  intro W base args ds gs before hval0 hW hcnd _
  have hval : ∀ (j : Nat) t v, Try.f3.params[j]? = some t → args[j]? = some v → Value.okWide Try.prog W .any base t v := hval0
  have hW' := hW
  obtain ⟨p, q, hA0, hV, rfl, hfz, hnd⟩ := hW
  have hA : DataW.TrodAll enc Try.prog W 0 (fun _ => true) true Try.f3.params.toList args.toList ds p := hA0
  rw [Try.params3] at hA hval
  obtain ⟨v0, vs0, d0, ds0, p0, q0, hargs, rfl, rfl, h0, r0⟩ := trodAll_cons hA
  obtain ⟨v1, vs1, d1, ds1, p1, q1, rfl, rfl, rfl, h1, r1⟩ := trodAll_cons r0
  obtain ⟨v2, vs2, d2, ds2, p2, q2, rfl, rfl, rfl, h2, r2⟩ := trodAll_cons r1
  obtain ⟨rfl, rfl, rfl⟩ := trodAll_nil r2
  obtain rfl : args = #[v0, v1, v2] := by cases args; simp_all
  obtain ⟨rfl, rfl⟩ := trodVars_none hV
  have k0 := h0
  have lt0 : ∀ x ∈ p0, x.block < W.heap.size := by obtain ⟨m, hm⟩ := k0; exact DataW.trod_lt m _ _ _ hm
  obtain ⟨kb0, mb0, A0, n0, c0, fb0, rfl, hs0, hm0⟩ := open_box (hval 0 28 v0 rfl rfl) h0
  obtain ⟨a1, rfl, rfl, rfl, w1⟩ := open_int Try.underlying29 (hval 1 29 v1 rfl rfl) h1
  have k2 := h2
  have lt2 : ∀ x ∈ p2, x.block < W.heap.size := by obtain ⟨m, hm⟩ := k2; exact DataW.trod_lt m _ _ _ hm
  obtain ⟨A2, n2, c2, a2, rfl, hs2, hm2⟩ := open_sl Try.underlying26 Try.underlying5 (by kernel_rfl) (hval 2 26 v2 rfl rfl) h2
  clear hA0 hval0
  refine (walk kb0 mb0 fb0 n0 c0 A0 a1 a2 n2 c2 A2 W hs0 hm0 w1 hs2 hm2).mono fun e W' ⟨he, bel⟩ => ?_
  subst he
  exact ⟨_, rfl, _, _, _, [], _, [], hW', trodAll_mk1 (shut_bool Try.underlying4 _), (trodAll_cons_mk (Below.trod laidOut (by kernel_rfl) (of_decide_eq_true (by kernel_rfl)) k0 bel lt0) (trodAll_cons_mk (shut_int Try.underlying29 w1) (trodAll_cons_mk (Below.trod laidOut (by kernel_rfl) (of_decide_eq_true (by kernel_rfl)) k2 bel lt2) trodAll_mk0))), rfl, bel.frame _, fun h => by cases h⟩

theorem over : Rows.gcmXorsRow.holds Try.pinned (OpenSpec.ofChange Rows.gcmXorsSpec) :=
  OpenClaim.holds_of_wide 3 Try.f3 rfl rfl rfl rfl rfl rfl rfl ⟨rfl, rfl, rfl, rfl, rfl⟩ rfl rfl rfl rfl rfl (by kernel_rfl) Try.func3 (by kernel_rfl)
    (of_decide_eq_true (by kernel_rfl)) (by unfold Func.isWrapper; first | (rw [if_pos (by decide +kernel)]; kernel_rfl) | (rw [if_neg (by decide +kernel)]; exact ⟨rfl, rfl⟩))
    (fun os started H enc _ => lifted os started H enc)

theorem proved : Rows.GcmXorsSaid := over
#print axioms proved
end Go.Proofs.Ytokhldihfbaeoaa.gcmXors
