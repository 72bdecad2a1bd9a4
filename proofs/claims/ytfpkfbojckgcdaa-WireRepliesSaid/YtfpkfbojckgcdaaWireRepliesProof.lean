/- The statement WireReplies: the law strongroomlaw09.WireReplies answers true for every input, and leaves its arguments as they were. No further condition. -/
import Derived.Test.YtfpkfbojckgcdaaRows
import Derived.Test.YtfpkfbojckgcdaaLib
import Derived.Test.YtfpkfbojckgcdaaWie
namespace Go.Proofs.Ytfpkfbojckgcdaa.wireReplies
open Go.ChangeShapes Go.WideShapes Go.ChangeAt Go.RowKit
open Go.Proofs.Ytfpkfbojckgcdaa.Oct
set_option linter.unusedVariables false

theorem own : ownKnob Try.prog.godebug = none := by kernel_rfl
theorem laidOut : laidOutB Try.prog = true := by kernel_rfl

set_option maxRecDepth 20000 in
set_option maxHeartbeats 8000000 in
theorem walk (x0 n0 m0 : Int) (f0 : Nat → BitVec 8) (T0 c0 : Nat) (A0 : Option Addr) (a1 : Nat → BitVec 8) (n1 c1 : Nat) (A1 : Option Addr) (w : World) (hf0 : Sl w w.heap.size A0 T0 c0 f0) (hx0 : i64B x0) (hn0 : i64B n0) (hm0 : i64B m0) (hs1 : Sl w w.heap.size A1 n1 c1 a1) (hm1 : c1 ≤ maxLen) (hz1 : n1 ≤ 140737488351232) :
    Calls Try.prog 4 #[repV x0 n0 m0 (.slice A0 T0 c0), .slice A1 n1 c1] w fun e w' => e = .returned (.bool true) ∧ Below w.heap.size w w' := by
  have HF := Lib.hid hf0
  have HS := Lib.hid hs1
  have HB := Lib.hid (repN_bd hx0 hn0 hm0)
  obtain ⟨x0', hx0'⟩ : ∃ x0', x0' = w.alloc (.cells #[.int .i64 x0, .int .i64 n0, .int .i64 m0, .slice A0 T0 c0] 35) := ⟨_, rfl⟩
  have X0 := Lib.hid (show Below w.heap.size w x0' by rw [hx0']; exact (Below.refl _ _).alloc (Nat.le_refl _) _)
  have R0 := Lib.hid (show row x0' w.heap.size = some #[.int .i64 x0, .int .i64 n0, .int .i64 m0, .slice A0 T0 c0] by rw [hx0']; exact row_alloc_at _ _ _ _ rfl)
  clear hf0 hs1 hx0 hn0 hm0 hm1
  go_enter Try.func4, Try.ntmps4
  go_upto_region 1 with fail
  rw [← hx0']
  clear hx0'
  go_wp2_with fail
  refine (shown_any x0').mono ?_
  rintro e w1 ⟨rfl, hb⟩
  have B1 := Lib.hid (onto X0.out X0.out.size hb)
  have R1 := Lib.hid (carry hb R0.out)
  clear hb X0 R0
  obtain ⟨d0, d1, d2, d3⟩ := cells4 R1.out
  have H2 := Lib.hid (reply_any x0 n0 m0 T0 c0 A0 f0 w1 ((HF.out.below B1.out).more B1.out.size) HB.out)
  go_wp2_with fail
  refine H2.out.mono ?_
  intro e w2 h2
  obtain ⟨v2, rfl, hc2, hb⟩ := h2.uni
  have B2 := Lib.hid (onto B1.out B1.out.size hb)
  have R2 := Lib.hid (carry hb R1.out)
  have C2 := Lib.hid hc2
  clear hb h2 hc2 B1 R1 d0 d1 d2 d3 H2
  obtain ⟨d0, d1, d2, d3⟩ := cells4 R2.out
  have H3 := Lib.hid (rreply_any x0 n0 m0 T0 c0 A0 f0 w2 ((HF.out.below B2.out).more B2.out.size) HB.out)
  obtain ⟨E, hE⟩ : ∃ E, E = repE x0 n0 m0 T0 := ⟨_, rfl⟩
  obtain ⟨SX, hSX⟩ : ∃ S, S = wrS (repE x0 n0 m0 T0) (repL x0 n0 m0 T0) (repF x0 n0 m0 T0 f0) := ⟨_, rfl⟩
  rw [← hSX] at C2
  rw [show ((repE x0 n0 m0 T0 : Nat) : Int) = (E : Int) by rw [hE]]
  go_wp2_with fail
  refine H3.out.mono ?_
  intro e w3 h3
  obtain ⟨v3, rfl, hc3, hb⟩ := h3.uni
  rw [show ((repE x0 n0 m0 T0 : Nat) : Int) = (E : Int) by rw [hE]]
  rw [← hSX] at hc3
  have B3 := Lib.hid (onto B2.out B2.out.size hb)
  have C2' := Lib.hid (C2.out.below hb)
  have C3 := Lib.hid hc3
  clear hb h3 hc3 B2 R2 d0 d1 d2 d3 H3 C2 hSX hE HF HB
  obtain ⟨x, a, m, T, M, F, R, E2, hU⟩ := trP_uni n1 a1
  have HU := Lib.hid hU
  have H4 := Lib.hid (takerep_any n1 c1 A1 a1 w3 ((HS.out.below B3.out).more B3.out.size) (by omega))
  clear hU
  go_wp2_with fail
  refine H4.out.mono ?_
  intro e w4 h4
  obtain ⟨Ap, cp, Bp, ep, rfl, hp, hp', hb⟩ := HU.out _ _ _ h4
  obtain ⟨x4, hx4⟩ : ∃ x4, x4 = w4.alloc (.cells #[.int .i64 x, .int .i64 a, .int .i64 m, .slice Ap T cp] 35) := ⟨_, rfl⟩
  have bx : Below w4.heap.size w4 x4 := by rw [hx4]; exact (Below.refl _ _).alloc (Nat.le_refl _) _
  have hb' := onto (Below.refl w3.heap.size w3) (Nat.le_refl _) (onto hb hb.size bx)
  have B4 := Lib.hid (onto B3.out B3.out.size hb')
  have P4 := Lib.hid (show row x4 w4.heap.size = some #[.int .i64 x, .int .i64 a, .int .i64 m, .slice Ap T cp] by rw [hx4]; exact row_alloc_at _ _ _ _ rfl)
  have D4 := Lib.hid ((hp.below bx).more bx.size)
  have E4 := Lib.hid (Cv.sl ((hp'.below bx).more bx.size))
  have C2 := Lib.hid (C2'.out.below hb')
  have C3' := Lib.hid (C3.out.below hb')
  clear h4 hb hp hp' bx hb' B3 C2' C3 H4
  have H5 := Lib.hid (rtakerep_any n1 c1 A1 a1 x4 ((HS.out.below B4.out).more B4.out.size) (by omega))
  go_upto_region 5 with fail
  rw [← hx4]
  clear hx4
  go_wp2_with fail
  refine H5.out.mono ?_
  intro e w5 h5
  obtain ⟨Aq, cq, Bq, eq, rfl, hp, hp', hb⟩ := HU.out _ _ _ h5
  obtain ⟨x5, hx5⟩ : ∃ x5, x5 = w5.alloc (.cells #[.int .i64 x, .int .i64 a, .int .i64 m, .slice Aq T cq] 35) := ⟨_, rfl⟩
  have bx : Below w5.heap.size w5 x5 := by rw [hx5]; exact (Below.refl _ _).alloc (Nat.le_refl _) _
  have hb' := onto (Below.refl x4.heap.size x4) (Nat.le_refl _) (onto hb hb.size bx)
  have B5 := Lib.hid (onto B4.out B4.out.size hb')
  have P5 := Lib.hid (carry hb' P4.out)
  have Q5 := Lib.hid (show row x5 w5.heap.size = some #[.int .i64 x, .int .i64 a, .int .i64 m, .slice Aq T cq] by rw [hx5]; exact row_alloc_at _ _ _ _ rfl)
  have D5 := Lib.hid ((D4.out.below hb').more hb'.size)
  have E5 := Lib.hid (E4.out.below hb')
  have F5 := Lib.hid ((hp.below bx).more bx.size)
  have G5 := Lib.hid (Cv.sl ((hp'.below bx).more bx.size))
  have C2' := Lib.hid (C2.out.below hb')
  have C3 := Lib.hid (C3'.out.below hb')
  clear h5 hb hp hp' bx hb' B4 P4 D4 E4 C2 C3' H5 HS HU
  go_upto_region 6 with fail
  rw [← hx5]
  clear hx5
  obtain ⟨y0, y1, y2, y3⟩ := cells4 P5.out
  obtain ⟨z0, z1, z2, z3⟩ := cells4 Q5.out
  have H6 := samerep_any x a m x a m T T cp cq Ap Aq F F x5 D5.out F5.out
  rw [repS_refl] at H6
  have H6' := Lib.hid H6
  clear H6
  go_wp2_with fail
  refine H6'.out.mono ?_
  rintro e w6 ⟨rfl, hb⟩
  have B6 := Lib.hid (onto B5.out B5.out.size hb)
  have cv1 := (C2'.out.below hb).self
  have cv2 := (C3.out.below hb).self
  have cv3 := (E5.out.below hb).self
  have cv4 := (G5.out.below hb).self
  clear hb B5 P5 Q5 D5 E5 F5 G5 C2' C3 H6' y0 y1 y2 y3 z0 z1 z2 z3
  have hE : ((E : Int) == (E : Int)) = true := by simp
  have hE2 : ((E2 : Int) == (E2 : Int)) = true := by simp
  obtain ⟨SR, hSR⟩ : ∃ S, S = strOf M R := ⟨_, rfl⟩
  rw [← hSR] at cv3 cv4
  clear hSR
  go_wp2_with fail
  go_ret
  exact ⟨rfl, B6.out⟩

set_option maxRecDepth 100000 in
theorem lifted (os : Os) (started : os.Started) (H : Type) (enc : TypeId × Value → H) :
    ReturnsInHanded {} Try.checked os 4 .any (Rows.wireRepliesSpec.pre6 enc Try.prog Try.f4 Rows.wireRepliesRow.domain false) (Rows.wireRepliesSpec.post enc Try.prog Try.f4 false true false false) := by
  refine returnsInHanded_of_change_sized (C := Try.checked) own started (by kernel_rfl) Try.func4
    (ChangeSpec.witness6 (enc := enc) (C := Try.checked) false ⟨#[], #[.agg #[.int .i64 0, .int .i64 0, .int .i64 0, .slice none 0 0], .slice none 0 0], []⟩ 8 (by kernel_rfl) (by kernel_rfl) (by kernel_rfl) (by kernel_rfl)) ?_
  intro W base args ds gs before hval0 hW hcnd hsz0 _
  have hval : ∀ (j : Nat) t v, Try.f4.params[j]? = some t → args[j]? = some v → Value.okWide Try.prog W .any base t v := hval0
  have hW' := hW
  obtain ⟨p, q, hA0, hV, rfl, hfz, hnd⟩ := hW
  have hA : DataW.TrodAll enc Try.prog W 0 (fun _ => true) true Try.f4.params.toList args.toList ds p := hA0
  rw [Try.params4] at hA hval
  have hsz : (DataW.weightsEach Try.prog (Try.f4.params.toList ++ Rows.wireRepliesSpec.plain.varTypes Try.prog) (ds ++ gs)).all (· ≤ reachBytes) = true := hsz0
  rw [Try.params4] at hsz
  clear hsz0
  obtain ⟨v0, vs0, d0, ds0, p0, q0, hargs, rfl, rfl, h0, r0⟩ := trodAll_cons hA
  obtain ⟨v1, vs1, d1, ds1, p1, q1, rfl, rfl, rfl, h1, r1⟩ := trodAll_cons r0
  obtain ⟨rfl, rfl, rfl⟩ := trodAll_nil r1
  obtain rfl : args = #[v0, v1] := by cases args; simp_all
  obtain ⟨rfl, rfl⟩ := trodVars_none hV
  have k0 := h0
  have lt0 : ∀ x ∈ p0, x.block < W.heap.size := by obtain ⟨m, hm⟩ := k0; exact DataW.trod_lt m _ _ _ hm
  obtain ⟨xa0, na0, ma0, Aa0, Ta0, ca0, fa0, rfl, hfa0, -, hxa0, hna0, hma0⟩ := open_rep (hval 0 35 v0 rfl rfl) h0
  have k1 := h1
  have lt1 : ∀ x ∈ p1, x.block < W.heap.size := by obtain ⟨m, hm⟩ := k1; exact DataW.trod_lt m _ _ _ hm
  obtain ⟨A1, n1, c1, a1, rfl, hs1, hm1⟩ := open_sl Try.underlying22 Try.underlying5 (by kernel_rfl) (hval 1 22 v1 rfl rfl) h1
  have hz1 : n1 ≤ 140737488351232 := by have := reach_sl Try.underlying22 k1 hsz (j := 1) rfl rfl; rw [show Try.prog.bytesOf 5 = 1 by kernel_rfl] at this; omega
  clear hA0 hval0
  refine (walk xa0 na0 ma0 fa0 Ta0 ca0 Aa0 a1 n1 c1 A1 W hfa0 hxa0 hna0 hma0 hs1 hm1 hz1).mono fun e W' ⟨he, bel⟩ => ?_
  subst he
  exact ⟨_, rfl, _, _, _, [], _, [], hW', trodAll_mk1 (shut_bool Try.underlying4 _), (trodAll_cons_mk (Below.trod laidOut (by kernel_rfl) (of_decide_eq_true (by kernel_rfl)) k0 bel lt0) (trodAll_cons_mk (Below.trod laidOut (by kernel_rfl) (of_decide_eq_true (by kernel_rfl)) k1 bel lt1) trodAll_mk0)), rfl, bel.frame _, fun h => by cases h⟩

theorem over : Rows.wireRepliesRow.holds Try.pinned (OpenSpec.ofChange Rows.wireRepliesSpec) :=
  OpenClaim.holds_of_wide 4 Try.f4 rfl rfl rfl rfl rfl rfl rfl ⟨rfl, rfl, rfl, rfl, rfl⟩ rfl rfl rfl rfl rfl (by kernel_rfl) Try.func4 (by kernel_rfl)
    (of_decide_eq_true (by kernel_rfl)) (by unfold Func.isWrapper; first | (rw [if_pos (by decide +kernel)]; kernel_rfl) | (rw [if_neg (by decide +kernel)]; exact ⟨rfl, rfl⟩))
    (fun os started H enc _ => lifted os started H enc)

theorem proved : Rows.WireRepliesSaid := over
#print axioms proved
end Go.Proofs.Ytfpkfbojckgcdaa.wireReplies
