/- The statement WireApart: the law strongroomlaw09.WireApart answers true for every input, and leaves its arguments as they were. No further condition. -/
import Derived.Test.YtfpkfbojckgcdaaRows
import Derived.Test.YtfpkfbojckgcdaaLib
import Derived.Test.YtfpkfbojckgcdaaWif
namespace Go.Proofs.Ytfpkfbojckgcdaa.wireApart
open Go.ChangeShapes Go.WideShapes Go.ChangeAt Go.RowKit
open Go.Proofs.Ytfpkfbojckgcdaa.Oct
set_option linter.unusedVariables false

theorem own : ownKnob Try.prog.godebug = none := by kernel_rfl
theorem laidOut : laidOutB Try.prog = true := by kernel_rfl

set_option maxRecDepth 20000 in
set_option maxHeartbeats 8000000 in
theorem walk (k0 s0 q0 i0 n0 : Int) (f0 g0 : Nat → BitVec 8) (T0 c0 U0 e0 : Nat) (A0 B0 : Option Addr) (k1 s1 q1 i1 n1 : Int) (f1 g1 : Nat → BitVec 8) (T1 c1 U1 e1 : Nat) (A1 B1 : Option Addr) (w : World) (hf0 : Sl w w.heap.size A0 T0 c0 f0) (hg0 : Sl w w.heap.size B0 U0 e0 g0) (hk0 : i64B k0) (hs0 : i64B s0) (hq0 : i64B q0) (hi0 : i64B i0) (hn0 : i64B n0) (hf1 : Sl w w.heap.size A1 T1 c1 f1) (hg1 : Sl w w.heap.size B1 U1 e1 g1) (hk1 : i64B k1) (hs1 : i64B s1) (hq1 : i64B q1) (hi1 : i64B i1) (hn1 : i64B n1) :
    Calls Try.prog 9 #[comV k0 s0 q0 i0 n0 (.slice A0 T0 c0) (.slice B0 U0 e0), comV k1 s1 q1 i1 n1 (.slice A1 T1 c1) (.slice B1 U1 e1)] w fun e w' => e = .returned (.bool true) ∧ Below w.heap.size w w' := by
  have HF := Lib.hid hf0
  have HG := Lib.hid hg0
  have HF' := Lib.hid hf1
  have HG' := Lib.hid hg1
  have HB := Lib.hid (comN_bd hk0 hs0 hq0 hi0 hn0)
  have HB' := Lib.hid (comN_bd hk1 hs1 hq1 hi1 hn1)
  obtain ⟨x0, hx0⟩ : ∃ x0, x0 = (w.alloc (.cells #[.int .i64 k0, .int .i64 s0, .int .i64 q0, .int .i64 i0, .int .i64 n0, .slice A0 T0 c0, .slice B0 U0 e0] 24)).alloc (.cells #[.int .i64 k1, .int .i64 s1, .int .i64 q1, .int .i64 i1, .int .i64 n1, .slice A1 T1 c1, .slice B1 U1 e1] 24) := ⟨_, rfl⟩
  have X0 := Lib.hid (show Below w.heap.size w x0 by rw [hx0]; exact ((Below.refl _ _).alloc (by simp) _).alloc (by simp) _)
  have R0 := Lib.hid (show row x0 w.heap.size = some #[.int .i64 k0, .int .i64 s0, .int .i64 q0, .int .i64 i0, .int .i64 n0, .slice A0 T0 c0, .slice B0 U0 e0] by rw [hx0]; exact row_alloc (row_alloc_at _ _ _ _ rfl) _)
  have S0 := Lib.hid (show row x0 (w.heap.size + 1) = some #[.int .i64 k1, .int .i64 s1, .int .i64 q1, .int .i64 i1, .int .i64 n1, .slice A1 T1 c1, .slice B1 U1 e1] by rw [hx0]; exact row_alloc_at _ _ _ _ (by simp))
  clear hf0 hg0 hf1 hg1 hk0 hs0 hq0 hi0 hn0 hk1 hs1 hq1 hi1 hn1
  go_enter Try.func9, Try.ntmps9
  go_upto_region 1 with fail
  rw [← hx0]
  clear hx0
  go_wp2_with fail
  refine (shown_any x0).mono ?_
  rintro e w1 ⟨rfl, hb⟩
  have B1' := Lib.hid (onto X0.out X0.out.size hb)
  have R1 := Lib.hid (carry hb R0.out)
  have S1 := Lib.hid (carry hb S0.out)
  clear hb X0 R0 S0
  obtain ⟨d0, d1, d2, d3, d4, d5, d6⟩ := cells7 R1.out
  have H2 := Lib.hid (command_any k0 s0 q0 i0 n0 T0 U0 c0 e0 A0 B0 f0 g0 w1 ((HF.out.below B1'.out).more B1'.out.size) ((HG.out.below B1'.out).more B1'.out.size) HB.out)
  go_wp2_with fail
  refine H2.out.mono ?_
  intro e w2 h2
  obtain ⟨v2, rfl, hc2, hb⟩ := h2.uni
  have B2 := Lib.hid (onto B1'.out B1'.out.size hb)
  have R2 := Lib.hid (carry hb R1.out)
  have S2 := Lib.hid (carry hb S1.out)
  have C2 := Lib.hid hc2
  clear hb h2 hc2 B1' R1 S1 d0 d1 d2 d3 d4 d5 d6 H2
  obtain ⟨d0, d1, d2, d3, d4, d5, d6⟩ := cells7 S2.out
  have H3 := Lib.hid (command_any k1 s1 q1 i1 n1 T1 U1 c1 e1 A1 B1 f1 g1 w2 ((HF'.out.below B2.out).more B2.out.size) ((HG'.out.below B2.out).more B2.out.size) HB'.out)
  obtain ⟨E, hE⟩ : ∃ E, E = chkE k0 s0 q0 i0 n0 T0 U0 := ⟨_, rfl⟩
  obtain ⟨E', hE'⟩ : ∃ E', E' = chkE k1 s1 q1 i1 n1 T1 U1 := ⟨_, rfl⟩
  obtain ⟨SX, hSX⟩ : ∃ S, S = wrS (chkE k0 s0 q0 i0 n0 T0 U0) (comL k0 s0 q0 i0 n0 T0 U0) (comF k0 s0 q0 i0 n0 T0 U0 f0 g0) := ⟨_, rfl⟩
  obtain ⟨SY, hSY⟩ : ∃ S, S = wrS (chkE k1 s1 q1 i1 n1 T1 U1) (comL k1 s1 q1 i1 n1 T1 U1) (comF k1 s1 q1 i1 n1 T1 U1 f1 g1) := ⟨_, rfl⟩
  have HZ := Lib.hid (show E = 0 → E' = 0 → (SX.toList == SY.toList) = comS k0 s0 q0 i0 n0 k1 s1 q1 i1 n1 T0 U0 T1 U1 f0 g0 f1 g1 from fun h h' => by
    rw [hE] at h
    rw [hE'] at h'
    rw [hSX, hSY, h, h']
    exact com_apart h h' HB.out HB'.out)
  rw [← hSX] at C2
  rw [show ((chkE k0 s0 q0 i0 n0 T0 U0 : Nat) : Int) = (E : Int) by rw [hE]]
  have HSY := Lib.hid hSY
  have HE' := Lib.hid hE'
  clear hE hE' hSX hSY
  go_wp2_with fail
  refine H3.out.mono ?_
  intro e w3 h3
  obtain ⟨v3, rfl, hc3, hb⟩ := h3.uni
  rw [show ((chkE k1 s1 q1 i1 n1 T1 U1 : Nat) : Int) = (E' : Int) by rw [HE'.out]]
  rw [← HSY.out] at hc3
  have B3 := Lib.hid (onto B2.out B2.out.size hb)
  have R3 := Lib.hid (carry hb R2.out)
  have S3 := Lib.hid (carry hb S2.out)
  have C2' := Lib.hid (C2.out.below hb)
  have C3 := Lib.hid hc3
  clear hb h3 hc3 B2 R2 S2 d0 d1 d2 d3 d4 d5 d6 H3 C2 HSY HE' HB HB'
  by_cases e0 : E = 0
  · subst e0
    by_cases e1 : E' = 0
    · subst e1
      have hZ := Lib.hid (HZ.out rfl rfl)
      clear HZ
      obtain ⟨d0, d1, d2, d3, d4, d5, d6⟩ := cells7 R3.out
      obtain ⟨f0', f1', f2', f3', f4', f5', f6'⟩ := cells7 S3.out
      have H4 := Lib.hid (samecom_any k0 s0 q0 i0 n0 k1 s1 q1 i1 n1 T0 U0 T1 U1 c0 e0 c1 e1 A0 B0 A1 B1 f0 g0 f1 g1 w3 ((HF.out.below B3.out).more B3.out.size) ((HG.out.below B3.out).more B3.out.size) ((HF'.out.below B3.out).more B3.out.size) ((HG'.out.below B3.out).more B3.out.size))
      rw [← hZ.out] at H4
      clear hZ HF HG HF' HG'
      go_wp2_with fail
      refine H4.out.mono ?_
      rintro e w4 ⟨rfl, hb⟩
      have B4 := Lib.hid (onto B3.out B3.out.size hb)
      have cv1 := (C2'.out.below hb).self
      have cv2 := (C3.out.below hb).self
      clear hb B3 R3 S3 C2' C3 H4 d0 d1 d2 d3 d4 d5 d6 f0' f1' f2' f3' f4' f5' f6'
      go_wp2_with fail
      go_ret
      exact ⟨by simp, B4.out⟩
    · have hd : ((E' : Int) == 0) = false := by simp; omega
      clear HZ e1 C2' C3 R3 S3 HF HG HF' HG'
      go_wp2_with fail
      go_ret
      exact ⟨rfl, B3.out⟩
  · have hd : ((E : Int) == 0) = false := by simp; omega
    clear HZ e0 C2' C3 R3 S3 HF HG HF' HG'
    go_wp2_with fail
    go_ret
    exact ⟨rfl, B3.out⟩

set_option maxRecDepth 100000 in
theorem lifted (os : Os) (started : os.Started) (H : Type) (enc : TypeId × Value → H) :
    ReturnsInHanded {} Try.checked os 9 .any (Rows.wireApartSpec.pre6 enc Try.prog Try.f9 Rows.wireApartRow.domain false) (Rows.wireApartSpec.post enc Try.prog Try.f9 false true false false) := by
  refine returnsInHanded_of_change_sized (C := Try.checked) own started (by kernel_rfl) Try.func9
    (ChangeSpec.witness6 (enc := enc) (C := Try.checked) false ⟨#[], #[.agg #[.int .i64 0, .int .i64 0, .int .i64 0, .int .i64 0, .int .i64 0, .slice none 0 0, .slice none 0 0], .agg #[.int .i64 0, .int .i64 0, .int .i64 0, .int .i64 0, .int .i64 0, .slice none 0 0, .slice none 0 0]], []⟩ 8 (by kernel_rfl) (by kernel_rfl) (by kernel_rfl) (by kernel_rfl)) ?_
  intro W base args ds gs before hval0 hW hcnd hsz0 _
  have hval : ∀ (j : Nat) t v, Try.f9.params[j]? = some t → args[j]? = some v → Value.okWide Try.prog W .any base t v := hval0
  have hW' := hW
  obtain ⟨p, q, hA0, hV, rfl, hfz, hnd⟩ := hW
  have hA : DataW.TrodAll enc Try.prog W 0 (fun _ => true) true Try.f9.params.toList args.toList ds p := hA0
  rw [Try.params9] at hA hval
  have hsz : (DataW.weightsEach Try.prog (Try.f9.params.toList ++ Rows.wireApartSpec.plain.varTypes Try.prog) (ds ++ gs)).all (· ≤ reachBytes) = true := hsz0
  rw [Try.params9] at hsz
  clear hsz0
  obtain ⟨v0, vs0, d0, ds0, p0, q0, hargs, rfl, rfl, h0, r0⟩ := trodAll_cons hA
  obtain ⟨v1, vs1, d1, ds1, p1, q1, rfl, rfl, rfl, h1, r1⟩ := trodAll_cons r0
  obtain ⟨rfl, rfl, rfl⟩ := trodAll_nil r1
  obtain rfl : args = #[v0, v1] := by cases args; simp_all
  obtain ⟨rfl, rfl⟩ := trodVars_none hV
  have k0 := h0
  have lt0 : ∀ x ∈ p0, x.block < W.heap.size := by obtain ⟨m, hm⟩ := k0; exact DataW.trod_lt m _ _ _ hm
  obtain ⟨ka0, sa0, qa0, ia0, na0, Aa0, Ta0, ca0, fa0, Ba0, Ua0, ea0, ga0, rfl, hfa0, -, hga0, -, hka0, hsa0, hqa0, hia0, hna0⟩ := open_com (hval 0 24 v0 rfl rfl) h0
  have k1 := h1
  have lt1 : ∀ x ∈ p1, x.block < W.heap.size := by obtain ⟨m, hm⟩ := k1; exact DataW.trod_lt m _ _ _ hm
  obtain ⟨ka1, sa1, qa1, ia1, na1, Aa1, Ta1, ca1, fa1, Ba1, Ua1, ea1, ga1, rfl, hfa1, -, hga1, -, hka1, hsa1, hqa1, hia1, hna1⟩ := open_com (hval 1 24 v1 rfl rfl) h1
  clear hA0 hval0
  refine (walk ka0 sa0 qa0 ia0 na0 fa0 ga0 Ta0 ca0 Ua0 ea0 Aa0 Ba0 ka1 sa1 qa1 ia1 na1 fa1 ga1 Ta1 ca1 Ua1 ea1 Aa1 Ba1 W hfa0 hga0 hka0 hsa0 hqa0 hia0 hna0 hfa1 hga1 hka1 hsa1 hqa1 hia1 hna1).mono fun e W' ⟨he, bel⟩ => ?_
  subst he
  exact ⟨_, rfl, _, _, _, [], _, [], hW', trodAll_mk1 (shut_bool Try.underlying4 _), (trodAll_cons_mk (Below.trod laidOut (by kernel_rfl) (of_decide_eq_true (by kernel_rfl)) k0 bel lt0) (trodAll_cons_mk (Below.trod laidOut (by kernel_rfl) (of_decide_eq_true (by kernel_rfl)) k1 bel lt1) trodAll_mk0)), rfl, bel.frame _, fun h => by cases h⟩

theorem over : Rows.wireApartRow.holds Try.pinned (OpenSpec.ofChange Rows.wireApartSpec) :=
  OpenClaim.holds_of_wide 9 Try.f9 rfl rfl rfl rfl rfl rfl rfl ⟨rfl, rfl, rfl, rfl, rfl⟩ rfl rfl rfl rfl rfl (by kernel_rfl) Try.func9 (by kernel_rfl)
    (of_decide_eq_true (by kernel_rfl)) (by unfold Func.isWrapper; first | (rw [if_pos (by decide +kernel)]; kernel_rfl) | (rw [if_neg (by decide +kernel)]; exact ⟨rfl, rfl⟩))
    (fun os started H enc _ => lifted os started H enc)

theorem proved : Rows.WireApartSaid := over
#print axioms proved
end Go.Proofs.Ytfpkfbojckgcdaa.wireApart
