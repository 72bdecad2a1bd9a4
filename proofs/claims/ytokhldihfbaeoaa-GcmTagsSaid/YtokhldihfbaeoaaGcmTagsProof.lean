/- The statement GcmTags: the law strongroomlaw04.GcmTags answers true for every input, and leaves its arguments as they were. No further condition. -/
import Derived.Test.YtokhldihfbaeoaaRows
import Derived.Test.YtokhldihfbaeoaaOpen
import Derived.Test.YtokhldihfbaeoaaBox
import Derived.Test.YtokhldihfbaeoaaFlowF
namespace Go.Proofs.Ytokhldihfbaeoaa.gcmTags
open Go.ChangeShapes Go.WideShapes Go.ChangeAt Go.RowKit
open Go.Proofs.Ytokhldihfbaeoaa.Oct
set_option linter.unusedVariables false

theorem own : ownKnob Try.prog.godebug = none := by kernel_rfl
theorem laidOut : laidOutB Try.prog = true := by kernel_rfl

set_option maxRecDepth 20000 in
set_option maxHeartbeats 4000000 in
theorem walk (k0 m0 f0 : Nat → BitVec 8) (n0 c0 : Nat) (A0 : Option Addr) (a1 : Nat → BitVec 8) (n1 c1 : Nat) (A1 : Option Addr) (w : World) (hs0 : Sl w w.heap.size A0 n0 c0 f0) (hm0 : c0 ≤ maxLen) (hs1 : Sl w w.heap.size A1 n1 c1 a1) (hm1 : c1 ≤ maxLen) :
    Calls Try.prog 4 #[.agg (boxC k0 m0 (.slice A0 n0 c0)), .slice A1 n1 c1] w fun e w' => e = .returned (.bool true) ∧ Below w.heap.size w w' := by
  have B0 := Lib.hid ((Below.refl w.heap.size w).alloc (by simp) (.cells (boxC k0 m0 (.slice A0 n0 c0)) 28))
  have q0 : row (w.alloc (.cells (boxC k0 m0 (.slice A0 n0 c0)) 28)) w.heap.size = some (boxC k0 m0 (.slice A0 n0 c0)) := row_alloc_at _ _ _ _ rfl
  have HS0 := Lib.hid hs0
  have HS1 := Lib.hid hs1
  have hn0 := hs0.le
  have hn1 := hs1.le
  clear hs0 hs1
  go_enter Try.func4, Try.ntmps4
  go_wp2_with fail
  refine (shown_any _).mono ?_
  rintro e w1 ⟨rfl, hb1⟩
  have r0 := carry hb1 q0
  have B1 := Lib.hid (onto B0.out (by simp) hb1)
  clear hb1 B0 q0
  go_wp2_with fail
  refine (few_any A1 n1 c1 hn1 hm1 _).mono ?_
  rintro e w2 ⟨rfl, rfl⟩
  go_wp2_with fail
  have hK := fun x : After w1 => box_ld_key (After.row r0 x)
  have hN := fun x : After w1 => box_ld_non (After.row r0 x)
  have hC := fun x : After w1 => box_cell (After.row r0 x)
  obtain ⟨L, hL⟩ : ∃ L, L = min n1 1000 := ⟨_, rfl⟩
  obtain ⟨M, hM⟩ : ∃ M, M = min n0 1000 := ⟨_, rfl⟩
  have HX := Lib.hid (fun x : After w1 => onto B1.out B1.out.size x.below)
  have HSL := Lib.hid (fun x : After w1 => ((HS1.out.upto L (by omega)).below (HX.out x)).more (HX.out x).size)
  have HSM := Lib.hid (fun x : After w1 => ((HS0.out.upto M (by omega)).below (HX.out x)).more (HX.out x).size)
  have HF := Lib.hid (fun x : After w1 => few_any A0 n0 c0 hn0 hm0 x.val)
  rw [← hM] at HF
  rw [← hL]
  obtain ⟨T, hT⟩ : ∃ T, T = tagF k0 m0 f0 M a1 L := ⟨_, rfl⟩
  have HT1 := Lib.hid (fun x : After w1 => gtag_any k0 m0 f0 M c0 A0 a1 L c1 A1 x.val (HSM.out x) (HSL.out x) (by omega) (by omega))
  have HT2 := Lib.hid (fun x : After w1 => rgtag_any k0 m0 f0 M c0 A0 a1 L c1 A1 x.val (HSM.out x) (HSL.out x) (by omega) (by omega))
  rw [← hT] at HT1 HT2
  have hTT : eqB 16 T T = true := eqB_refl _ _
  clear hT hL hM r0 hn0 hn1 hm0 hm1
  refine seen_region (by kernel_rfl) (by kernel_rfl) ?_
  repeat (first | rw [hTT] | go_big_quiet_step ((first | (go_at_call 11; exact After.same _ (HF.out _)) | (go_at_call 14; exact After.call _ (HT1.out _)) | (go_at_call 15; exact After.call _ (HT2.out _)))))
  refine wpQuiet_nil ?_
  rintro _ ⟨x, rfl⟩
  have hfin := HX.out x
  clear hK hN hC
  go_wp2
  go_ret
  exact ⟨rfl, hfin⟩

set_option maxRecDepth 100000 in
theorem lifted (os : Os) (started : os.Started) (H : Type) (enc : TypeId × Value → H) :
    ReturnsInHanded {} Try.checked os 4 .any (Rows.gcmTagsSpec.pre6 enc Try.prog Try.f4 Rows.gcmTagsRow.domain false) (Rows.gcmTagsSpec.post enc Try.prog Try.f4 false true false false) := by
  refine returnsInHanded_of_change (C := Try.checked) own started (by kernel_rfl) Try.func4
    (ChangeSpec.witness6 (enc := enc) (C := Try.checked) false ⟨#[], #[.agg (Array.replicate 32 (.int .u8 0) ++ Array.replicate 12 (.int .u8 0) ++ #[.slice none 0 0]), .slice none 0 0], []⟩ 8 (by kernel_rfl) (by kernel_rfl) (by kernel_rfl) (by kernel_rfl)) ?_
  intro W base args ds gs before hval0 hW hcnd _
  have hval : ∀ (j : Nat) t v, Try.f4.params[j]? = some t → args[j]? = some v → Value.okWide Try.prog W .any base t v := hval0
  have hW' := hW
  obtain ⟨p, q, hA0, hV, rfl, hfz, hnd⟩ := hW
  have hA : DataW.TrodAll enc Try.prog W 0 (fun _ => true) true Try.f4.params.toList args.toList ds p := hA0
  rw [Try.params4] at hA hval
  obtain ⟨v0, vs0, d0, ds0, p0, q0, hargs, rfl, rfl, h0, r0⟩ := trodAll_cons hA
  obtain ⟨v1, vs1, d1, ds1, p1, q1, rfl, rfl, rfl, h1, r1⟩ := trodAll_cons r0
  obtain ⟨rfl, rfl, rfl⟩ := trodAll_nil r1
  obtain rfl : args = #[v0, v1] := by cases args; simp_all
  obtain ⟨rfl, rfl⟩ := trodVars_none hV
  have k0 := h0
  have lt0 : ∀ x ∈ p0, x.block < W.heap.size := by obtain ⟨m, hm⟩ := k0; exact DataW.trod_lt m _ _ _ hm
  obtain ⟨kb0, mb0, A0, n0, c0, fb0, rfl, hs0, hm0⟩ := open_box (hval 0 28 v0 rfl rfl) h0
  have k1 := h1
  have lt1 : ∀ x ∈ p1, x.block < W.heap.size := by obtain ⟨m, hm⟩ := k1; exact DataW.trod_lt m _ _ _ hm
  obtain ⟨A1, n1, c1, a1, rfl, hs1, hm1⟩ := open_sl Try.underlying26 Try.underlying5 (by kernel_rfl) (hval 1 26 v1 rfl rfl) h1
  clear hA0 hval0
  refine (walk kb0 mb0 fb0 n0 c0 A0 a1 n1 c1 A1 W hs0 hm0 hs1 hm1).mono fun e W' ⟨he, bel⟩ => ?_
  subst he
  exact ⟨_, rfl, _, _, _, [], _, [], hW', trodAll_mk1 (shut_bool Try.underlying4 _), (trodAll_cons_mk (Below.trod laidOut (by kernel_rfl) (of_decide_eq_true (by kernel_rfl)) k0 bel lt0) (trodAll_cons_mk (Below.trod laidOut (by kernel_rfl) (of_decide_eq_true (by kernel_rfl)) k1 bel lt1) trodAll_mk0)), rfl, bel.frame _, fun h => by cases h⟩

theorem over : Rows.gcmTagsRow.holds Try.pinned (OpenSpec.ofChange Rows.gcmTagsSpec) :=
  OpenClaim.holds_of_wide 4 Try.f4 rfl rfl rfl rfl rfl rfl rfl ⟨rfl, rfl, rfl, rfl, rfl⟩ rfl rfl rfl rfl rfl (by kernel_rfl) Try.func4 (by kernel_rfl)
    (of_decide_eq_true (by kernel_rfl)) (by unfold Func.isWrapper; first | (rw [if_pos (by decide +kernel)]; kernel_rfl) | (rw [if_neg (by decide +kernel)]; exact ⟨rfl, rfl⟩))
    (fun os started H enc _ => lifted os started H enc)

theorem proved : Rows.GcmTagsSaid := over
#print axioms proved
end Go.Proofs.Ytokhldihfbaeoaa.gcmTags
