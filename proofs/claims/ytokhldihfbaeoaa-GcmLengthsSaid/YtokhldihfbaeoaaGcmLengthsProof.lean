/- The statement GcmLengths: the law strongroomlaw04.GcmLengths answers true for every input, and leaves its arguments as they were. No further condition. -/
import Derived.Test.YtokhldihfbaeoaaRows
import Derived.Test.YtokhldihfbaeoaaOpen
import Derived.Test.YtokhldihfbaeoaaBox
import Derived.Test.YtokhldihfbaeoaaFlowF
namespace Go.Proofs.Ytokhldihfbaeoaa.gcmLengths
open Go.ChangeShapes Go.WideShapes Go.ChangeAt Go.RowKit
open Go.Proofs.Ytokhldihfbaeoaa.Oct
set_option linter.unusedVariables false

theorem own : ownKnob Try.prog.godebug = none := by kernel_rfl
theorem laidOut : laidOutB Try.prog = true := by kernel_rfl

set_option maxRecDepth 20000 in
set_option maxHeartbeats 4000000 in
theorem walk (k0 m0 f0 : Nat → BitVec 8) (n0 c0 : Nat) (A0 : Option Addr) (a1 : Nat → BitVec 8) (n1 c1 : Nat) (A1 : Option Addr) (w : World) (hs0 : Sl w w.heap.size A0 n0 c0 f0) (hm0 : c0 ≤ maxLen) (hs1 : Sl w w.heap.size A1 n1 c1 a1) (hm1 : c1 ≤ maxLen) :
    Calls Try.prog 9 #[.agg (boxC k0 m0 (.slice A0 n0 c0)), .slice A1 n1 c1] w fun e w' => e = .returned (.bool true) ∧ Below w.heap.size w w' := by
  have B0 := Lib.hid ((Below.refl w.heap.size w).alloc (by simp) (.cells (boxC k0 m0 (.slice A0 n0 c0)) 28))
  have q0 : row (w.alloc (.cells (boxC k0 m0 (.slice A0 n0 c0)) 28)) w.heap.size = some (boxC k0 m0 (.slice A0 n0 c0)) := row_alloc_at _ _ _ _ rfl
  have HS0 := Lib.hid hs0
  have HS1 := Lib.hid hs1
  have hn0 := hs0.le
  have hn1 := hs1.le
  clear hs0 hs1
  go_enter Try.func9, Try.ntmps9
  go_wp2_with fail
  refine (shown_any _).mono ?_
  rintro e w1 ⟨rfl, hb1⟩
  have r0 := carry hb1 q0
  have B1 := Lib.hid (onto B0.out (by simp) hb1)
  clear hb1 B0 q0
  go_wp2_with fail
  refine (few_any A1 n1 c1 hn1 hm1 _).mono ?_
  rintro e w2 ⟨rfl, rfl⟩
  obtain ⟨L, hL⟩ : ∃ L, L = min n1 1000 := ⟨_, rfl⟩
  obtain ⟨M, hM⟩ : ∃ M, M = min n0 1000 := ⟨_, rfl⟩
  have HF := Lib.hid (fun w : World => few_any A0 n0 c0 hn0 hm0 w)
  rw [← hM] at HF
  rw [← hL]
  have HSL0 := Lib.hid (HS1.out.upto L (by omega))
  have HSM0 := Lib.hid (HS0.out.upto M (by omega))
  have hLM : L ≤ 1000 ∧ M ≤ 1000 := by omega
  have HLM := Lib.hid hLM
  clear hL hM hn0 hn1 hm0 hm1 hLM HS0 HS1
  go_wp2_with fail
  refine flow_seen [([0, 1, 2, 3, 4, 5, 7], 6, false), ([], 8, false)] [9] (by kernel_rfl) (by kernel_rfl) (fun _ _ _ _ _ h => h) fun X => ?_
  have t0 := carry X.below r0
  have B2 := Lib.hid (onto B1.out B1.out.size X.below)
  clear r0 B1
  generalize X.val = w2 at t0 B2 ⊢
  clear X
  have hK := fun x : After w2 => box_ld_key (After.row t0 x)
  have hN := fun x : After w2 => box_ld_non (After.row t0 x)
  have hC := fun x : After w2 => box_cell (After.row t0 x)
  simp only [wpFs, pk, List.getElem?_cons_zero, List.getElem?_cons_succ]
  repeat (go_big_quiet_step (fail))
  refine wpQuiet_nil ?_
  clear hK hN hC
  go_wp2_with fail
  refine (HF.out _).mono ?_
  rintro e w3 ⟨rfl, rfl⟩
  go_wp2_with fail
  refine ⟨.inr (Below.refl _ _), ?_⟩
  show wpQuiet _ _ _ _ _ _
  refine wpQuiet_nil ?_
  go_wp2_with fail
  refine (gseal_any k0 m0 f0 M c0 A0 a1 L c1 A1 _ ((HSM0.out.below B2.out).more B2.out.size) ((HSL0.out.below B2.out).more B2.out.size) (by have := HLM.out; omega) (by have := HLM.out; omega)).mono ?_
  rintro e w4 ⟨v6, rfl, ho, hb4⟩
  obtain ⟨A6, c6, rfl, h6, -, -⟩ := ho.sl
  obtain ⟨N6, hN6⟩ : ∃ N6, N6 = L + 16 := ⟨_, rfl⟩
  rw [← hN6] at h6 ⊢
  have HN6 := Lib.hid hN6
  have hc6 := h6.le
  have HS6 := Lib.hid h6
  clear hN6
  have B4 := Lib.hid (onto B2.out B2.out.size hb4)
  have r0 := carry hb4 t0
  go_wp2_with fail
  refine ⟨.inr hb4, ?_⟩
  clear t0 B2 ho h6 hb4
  show wpQuiet _ _ _ _ _ _
  repeat (go_big_quiet_step (fail))
  refine wpQuiet_nil ?_
  go_wp2_with fail
  obtain ⟨R, hR⟩ : ∃ R, R = L % 16 := ⟨_, rfl⟩
  have hmod : (L : Int) % 16 = (R : Int) := by omega
  have hlt : R < N6 := by have := HN6.out; omega
  have hmin : min (N6 : Int) (R : Int) = (R : Int) := by have := HN6.out; omega
  have hR16 : R < 16 := by omega
  have hup := run_upto sli_u u8_i A6 N6 c6 R (by have := HN6.out; omega)
  clear hR
  refine flow_seen [([0, 1, 2, 3, 4, 5, 7, 8, 9, 10, 11, 12, 13, 14], 6, false), ([], 15, false)] [16, 17, 18, 19, 20] (by kernel_rfl) (by kernel_rfl) (fun _ _ _ _ _ h => h) fun X => ?_
  have t0 := carry X.below r0
  have HS7 := Lib.hid ((HS6.out.below X.below).more X.below.size)
  have B5 := Lib.hid (onto B4.out B4.out.size X.below)
  clear r0 B4 HS6
  generalize X.val = w5 at t0 B5 HS7 ⊢
  clear X
  have hK := fun x : After w5 => box_ld_key (After.row t0 x)
  have hN := fun x : After w5 => box_ld_non (After.row t0 x)
  have hC := fun x : After w5 => box_cell (After.row t0 x)
  simp only [wpFs, pk, List.getElem?_cons_zero, List.getElem?_cons_succ]
  repeat (go_big_quiet_step (fail))
  refine wpQuiet_nil ?_
  clear hK hN hC
  go_wp2_with fail
  refine (HF.out _).mono ?_
  rintro e w3 ⟨rfl, rfl⟩
  go_wp2_with fail
  refine ⟨.inr (Below.refl _ _), ?_⟩
  show wpQuiet _ _ _ _ _ _
  refine wpQuiet_nil ?_
  go_wp2_with fail
  refine (gopen_any k0 m0 f0 M c0 A0 _ R c6 A6 _ ((HSM0.out.below B5.out).more B5.out.size) (HS7.out.upto R (by have := HN6.out; omega)) (by have := HLM.out; omega) (by omega)).mono ?_
  rintro e w6 ⟨v7, rfl, ho, hb6⟩
  rw [show opC k0 m0 f0 M (sealF k0 m0 f0 M a1 L) R = 3 by unfold opC; rw [if_pos hR16]]
  have B6 := Lib.hid (onto B5.out B5.out.size hb6)
  go_wp2_with fail
  refine ⟨.inr hb6, ?_⟩
  clear ho hb6 t0 B5 HS7 hup hmin hmod hlt
  show wpQuiet _ _ _ _ _ _
  repeat (go_big_quiet_step (fail))
  refine wpQuiet_nil ?_
  have hL0 : L ≤ 1000 := HLM.out.1
  have hEq : ((N6 : Int) == (L : Int) + 16) = true := by have := HN6.out; simp; omega
  go_wp2
  go_ret
  exact ⟨rfl, B6.out⟩

set_option maxRecDepth 100000 in
theorem lifted (os : Os) (started : os.Started) (H : Type) (enc : TypeId × Value → H) :
    ReturnsInHanded {} Try.checked os 9 .any (Rows.gcmLengthsSpec.pre6 enc Try.prog Try.f9 Rows.gcmLengthsRow.domain false) (Rows.gcmLengthsSpec.post enc Try.prog Try.f9 false true false false) := by
  refine returnsInHanded_of_change (C := Try.checked) own started (by kernel_rfl) Try.func9
    (ChangeSpec.witness6 (enc := enc) (C := Try.checked) false ⟨#[], #[.agg (Array.replicate 32 (.int .u8 0) ++ Array.replicate 12 (.int .u8 0) ++ #[.slice none 0 0]), .slice none 0 0], []⟩ 8 (by kernel_rfl) (by kernel_rfl) (by kernel_rfl) (by kernel_rfl)) ?_
  intro W base args ds gs before hval0 hW hcnd _
  have hval : ∀ (j : Nat) t v, Try.f9.params[j]? = some t → args[j]? = some v → Value.okWide Try.prog W .any base t v := hval0
  have hW' := hW
  obtain ⟨p, q, hA0, hV, rfl, hfz, hnd⟩ := hW
  have hA : DataW.TrodAll enc Try.prog W 0 (fun _ => true) true Try.f9.params.toList args.toList ds p := hA0
  rw [Try.params9] at hA hval
  obtain ⟨v0, vs0, d0, ds0, p0, q0, hargs, rfl, rfl, h0, r0⟩ := trodAll_cons hA
  obtain ⟨v1, vs1, d1, ds1, p1, q1, rfl, rfl, rfl, h1, r1⟩ := trodAll_cons r0
  obtain ⟨rfl, rfl, rfl⟩ := trodAll_nil r1
  obtain rfl : args = #[v0, v1] := by cases args; simp_all
  obtain ⟨rfl, rfl⟩ := trodVars_none hV
  have k0 := h0
  have lt0 : ∀ x ∈ p0, x.block < W.heap.size := by obtain ⟨m, hm⟩ := k0; exact DataW.trod_lt m _ _ _ hm
  obtain ⟨kb0, mb0, A0, n0, c0, fb0, rfl, hs0, hm0⟩ := open_box (hval 0 28 v0 rfl rfl) h0
  have k1 := h1
  have lt1 : ∀ x ∈ p1, x.block < W.heap.size := by obtain ⟨m, hm⟩ := k1; exact DataW.trod_lt m _ _ _ hm
  obtain ⟨A1, n1, c1, a1, rfl, hs1, hm1⟩ := open_sl Try.underlying26 Try.underlying5 (by kernel_rfl) (hval 1 26 v1 rfl rfl) h1
  clear hA0 hval0
  refine (walk kb0 mb0 fb0 n0 c0 A0 a1 n1 c1 A1 W hs0 hm0 hs1 hm1).mono fun e W' ⟨he, bel⟩ => ?_
  subst he
  exact ⟨_, rfl, _, _, _, [], _, [], hW', trodAll_mk1 (shut_bool Try.underlying4 _), (trodAll_cons_mk (Below.trod laidOut (by kernel_rfl) (of_decide_eq_true (by kernel_rfl)) k0 bel lt0) (trodAll_cons_mk (Below.trod laidOut (by kernel_rfl) (of_decide_eq_true (by kernel_rfl)) k1 bel lt1) trodAll_mk0)), rfl, bel.frame _, fun h => by cases h⟩

theorem over : Rows.gcmLengthsRow.holds Try.pinned (OpenSpec.ofChange Rows.gcmLengthsSpec) :=
  OpenClaim.holds_of_wide 9 Try.f9 rfl rfl rfl rfl rfl rfl rfl ⟨rfl, rfl, rfl, rfl, rfl⟩ rfl rfl rfl rfl rfl (by kernel_rfl) Try.func9 (by kernel_rfl)
    (of_decide_eq_true (by kernel_rfl)) (by unfold Func.isWrapper; first | (rw [if_pos (by decide +kernel)]; kernel_rfl) | (rw [if_neg (by decide +kernel)]; exact ⟨rfl, rfl⟩))
    (fun os started H enc _ => lifted os started H enc)

theorem proved : Rows.GcmLengthsSaid := over
#print axioms proved
end Go.Proofs.Ytokhldihfbaeoaa.gcmLengths
