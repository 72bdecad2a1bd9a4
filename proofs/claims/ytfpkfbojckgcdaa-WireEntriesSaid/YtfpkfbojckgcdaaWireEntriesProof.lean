/- The statement WireEntries: the law strongroomlaw09.WireEntries answers true for every input, and leaves its arguments as they were. No further condition. -/
import Derived.Test.YtfpkfbojckgcdaaRows
import Derived.Test.YtfpkfbojckgcdaaLib
import Derived.Test.YtfpkfbojckgcdaaWie
namespace Go.Proofs.Ytfpkfbojckgcdaa.wireEntries
open Go.ChangeShapes Go.WideShapes Go.ChangeAt Go.RowKit
open Go.Proofs.Ytfpkfbojckgcdaa.Oct
set_option linter.unusedVariables false

theorem own : ownKnob Try.prog.godebug = none := by kernel_rfl
theorem laidOut : laidOutB Try.prog = true := by kernel_rfl

set_option maxRecDepth 20000 in
set_option maxHeartbeats 8000000 in
theorem walk (t0 k0 : Int) (f0 : Nat → BitVec 8) (T0 c0 : Nat) (A0 : Option Addr) (x0 : Nat → Int) (n0 e0 : Nat) (B0 : Option Addr) (a1 : Nat → BitVec 8) (n1 c1 : Nat) (A1 : Option Addr) (w : World) (hf0 : Sl w w.heap.size A0 T0 c0 f0) (hl0 : SlG w w.heap.size B0 n0 e0 (iV x0)) (hm0 : e0 ≤ maxLen) (ht0 : i64B t0) (hk0 : i64B k0) (hx0 : ∀ j, j < n0 → -9223372036854775808 ≤ x0 j ∧ x0 j < 9223372036854775808) (hs1 : Sl w w.heap.size A1 n1 c1 a1) (hm1 : c1 ≤ maxLen) (hz1 : n1 ≤ 140737488351232) :
    Calls Try.prog 5 #[entV t0 k0 (.slice A0 T0 c0) (.slice B0 n0 e0), .slice A1 n1 c1] w fun e w' => e = .returned (.bool true) ∧ Below w.heap.size w w' := by
  have HF := Lib.hid hf0
  have HS := Lib.hid hs1
  have HB := Lib.hid (th2_bd ht0 hk0)
  have HL := Lib.hid hl0
  have HX := Lib.hid hx0
  have hml : maxLen ≤ 9223372036854775807 := by decide
  have hnb : n0 ≤ 9223372036854775807 := by have := hl0.le; omega
  obtain ⟨x0', hx0'⟩ : ∃ x0', x0' = w.alloc (.cells #[.int .i64 t0, .int .i64 k0, .slice A0 T0 c0, .slice B0 n0 e0] 43) := ⟨_, rfl⟩
  have X0 := Lib.hid (show Below w.heap.size w x0' by rw [hx0']; exact (Below.refl _ _).alloc (Nat.le_refl _) _)
  have R0 := Lib.hid (show row x0' w.heap.size = some #[.int .i64 t0, .int .i64 k0, .slice A0 T0 c0, .slice B0 n0 e0] by rw [hx0']; exact row_alloc_at _ _ _ _ rfl)
  clear hml hf0 hs1 hx0 hm0 hm1 ht0 hk0 hl0
  go_enter Try.func5, Try.ntmps5
  go_upto_region 1 with fail
  rw [← hx0']
  clear hx0'
  go_wp2_with fail
  refine (shown_any x0').mono ?_
  rintro e w1 ⟨rfl, hb⟩
  have B1 := Lib.hid (onto X0.out X0.out.size hb)
  have R1 := Lib.hid (carry hb R0.out)
  clear hb X0 R0
  obtain ⟨d0, d1, d2, d3⟩ := cells4 R1.out
  have H2 := Lib.hid (entry_any t0 k0 x0 T0 n0 c0 e0 A0 B0 f0 w1 ((HF.out.below B1.out).more B1.out.size) ((HL.out.below B1.out).more B1.out.size) HB.out HX.out hnb)
  go_wp2_with fail
  refine H2.out.mono ?_
  intro e w2 h2
  obtain ⟨v2, rfl, hc2, hb⟩ := h2.uni
  have B2 := Lib.hid (onto B1.out B1.out.size hb)
  have R2 := Lib.hid (carry hb R1.out)
  have C2 := Lib.hid hc2
  clear hb h2 hc2 B1 R1 d0 d1 d2 d3 H2
  obtain ⟨d0, d1, d2, d3⟩ := cells4 R2.out
  have H3 := Lib.hid (rentry_any t0 k0 x0 T0 n0 c0 e0 A0 B0 f0 w2 ((HF.out.below B2.out).more B2.out.size) ((HL.out.below B2.out).more B2.out.size) HB.out HX.out hnb)
  obtain ⟨E, hE⟩ : ∃ E, E = enE t0 k0 x0 T0 n0 := ⟨_, rfl⟩
  obtain ⟨SX, hSX⟩ : ∃ S, S = wrS (enE t0 k0 x0 T0 n0) (entL t0 k0 x0 T0 n0) (entF t0 k0 x0 T0 n0 f0) := ⟨_, rfl⟩
  rw [← hSX] at C2
  rw [show ((enE t0 k0 x0 T0 n0 : Nat) : Int) = (E : Int) by rw [hE]]
  go_wp2_with fail
  refine H3.out.mono ?_
  intro e w3 h3
  obtain ⟨v3, rfl, hc3, hb⟩ := h3.uni
  rw [show ((enE t0 k0 x0 T0 n0 : Nat) : Int) = (E : Int) by rw [hE]]
  rw [← hSX] at hc3
  have B3 := Lib.hid (onto B2.out B2.out.size hb)
  have C2' := Lib.hid (C2.out.below hb)
  have C3 := Lib.hid hc3
  clear hb h3 hc3 B2 R2 d0 d1 d2 d3 H3 C2 hSX hE HF HB HL HX hnb
  obtain ⟨t, k, T, M, F, x, E2, hM, hU⟩ := teP_uni n1 a1
  have HU := Lib.hid hU
  have H4 := Lib.hid (takeent_any n1 c1 A1 a1 w3 ((HS.out.below B3.out).more B3.out.size) (by omega))
  clear hU
  go_wp2_with fail
  refine H4.out.mono ?_
  intro e w4 h4
  obtain ⟨Ap, cp, Bp, ep, rfl, hp, hp', hb⟩ := HU.out _ _ _ h4
  obtain ⟨x4, hx4⟩ : ∃ x4, x4 = w4.alloc (.cells #[.int .i64 t, .int .i64 k, .slice Ap T cp, .slice Bp M ep] 43) := ⟨_, rfl⟩
  have bx : Below w4.heap.size w4 x4 := by rw [hx4]; exact (Below.refl _ _).alloc (Nat.le_refl _) _
  have hb' := onto (Below.refl w3.heap.size w3) (Nat.le_refl _) (onto hb hb.size bx)
  have B4 := Lib.hid (onto B3.out B3.out.size hb')
  have P4 := Lib.hid (show row x4 w4.heap.size = some #[.int .i64 t, .int .i64 k, .slice Ap T cp, .slice Bp M ep] by rw [hx4]; exact row_alloc_at _ _ _ _ rfl)
  have D4 := Lib.hid ((hp.below bx).more bx.size)
  have E4 := Lib.hid ((hp'.below bx).more bx.size)
  have C2 := Lib.hid (C2'.out.below hb')
  have C3' := Lib.hid (C3.out.below hb')
  clear h4 hb hp hp' bx hb' B3 C2' C3 H4
  have H5 := Lib.hid (rtakeent_any n1 c1 A1 a1 x4 ((HS.out.below B4.out).more B4.out.size) (by omega))
  go_upto_region 5 with fail
  rw [← hx4]
  clear hx4
  go_wp2_with fail
  refine H5.out.mono ?_
  intro e w5 h5
  obtain ⟨Aq, cq, Bq, eq, rfl, hp, hp', hb⟩ := HU.out _ _ _ h5
  obtain ⟨x5, hx5⟩ : ∃ x5, x5 = w5.alloc (.cells #[.int .i64 t, .int .i64 k, .slice Aq T cq, .slice Bq M eq] 43) := ⟨_, rfl⟩
  have bx : Below w5.heap.size w5 x5 := by rw [hx5]; exact (Below.refl _ _).alloc (Nat.le_refl _) _
  have hb' := onto (Below.refl x4.heap.size x4) (Nat.le_refl _) (onto hb hb.size bx)
  have B5 := Lib.hid (onto B4.out B4.out.size hb')
  have P5 := Lib.hid (carry hb' P4.out)
  have Q5 := Lib.hid (show row x5 w5.heap.size = some #[.int .i64 t, .int .i64 k, .slice Aq T cq, .slice Bq M eq] by rw [hx5]; exact row_alloc_at _ _ _ _ rfl)
  have D5 := Lib.hid ((D4.out.below hb').more hb'.size)
  have E5 := Lib.hid ((E4.out.below hb').more hb'.size)
  have F5 := Lib.hid ((hp.below bx).more bx.size)
  have G5 := Lib.hid ((hp'.below bx).more bx.size)
  have C2' := Lib.hid (C2.out.below hb')
  have C3 := Lib.hid (C3'.out.below hb')
  clear h5 hb hp hp' bx hb' B4 P4 D4 E4 C2 C3' H5 HS HU
  go_upto_region 6 with fail
  rw [← hx5]
  clear hx5
  obtain ⟨y0, y1, y2, y3⟩ := cells4 P5.out
  obtain ⟨z0, z1, z2, z3⟩ := cells4 Q5.out
  have H6 := sameent_any t k T M cp ep cq eq Ap Bp Aq Bq F F x x x5 D5.out E5.out F5.out G5.out (fun _ _ => rfl) (fun _ _ => rfl) (by omega)
  have H6' := Lib.hid H6
  clear H6
  go_wp2_with fail
  refine H6'.out.mono ?_
  rintro e w6 ⟨rfl, hb⟩
  have B6 := Lib.hid (onto B5.out B5.out.size hb)
  have cv1 := (C2'.out.below hb).self
  have cv2 := (C3.out.below hb).self
  clear hb B5 P5 Q5 D5 E5 F5 G5 C2' C3 H6' y0 y1 y2 y3 z0 z1 z2 z3 hM
  have hE : ((E : Int) == (E : Int)) = true := by simp
  have hE2 : ((E2 : Int) == (E2 : Int)) = true := by simp
  go_wp2_with fail
  go_ret
  exact ⟨rfl, B6.out⟩

set_option maxRecDepth 100000 in
theorem lifted (os : Os) (started : os.Started) (H : Type) (enc : TypeId × Value → H) :
    ReturnsInHanded {} Try.checked os 5 .any (Rows.wireEntriesSpec.pre6 enc Try.prog Try.f5 Rows.wireEntriesRow.domain false) (Rows.wireEntriesSpec.post enc Try.prog Try.f5 false true false false) := by
  refine returnsInHanded_of_change_sized (C := Try.checked) own started (by kernel_rfl) Try.func5
    (ChangeSpec.witness6 (enc := enc) (C := Try.checked) false ⟨#[], #[.agg #[.int .i64 0, .int .i64 0, .slice none 0 0, .slice none 0 0], .slice none 0 0], []⟩ 8 (by kernel_rfl) (by kernel_rfl) (by kernel_rfl) (by kernel_rfl)) ?_
  intro W base args ds gs before hval0 hW hcnd hsz0 _
  have hval : ∀ (j : Nat) t v, Try.f5.params[j]? = some t → args[j]? = some v → Value.okWide Try.prog W .any base t v := hval0
  have hW' := hW
  obtain ⟨p, q, hA0, hV, rfl, hfz, hnd⟩ := hW
  have hA : DataW.TrodAll enc Try.prog W 0 (fun _ => true) true Try.f5.params.toList args.toList ds p := hA0
  rw [Try.params5] at hA hval
  have hsz : (DataW.weightsEach Try.prog (Try.f5.params.toList ++ Rows.wireEntriesSpec.plain.varTypes Try.prog) (ds ++ gs)).all (· ≤ reachBytes) = true := hsz0
  rw [Try.params5] at hsz
  clear hsz0
  obtain ⟨v0, vs0, d0, ds0, p0, q0, hargs, rfl, rfl, h0, r0⟩ := trodAll_cons hA
  obtain ⟨v1, vs1, d1, ds1, p1, q1, rfl, rfl, rfl, h1, r1⟩ := trodAll_cons r0
  obtain ⟨rfl, rfl, rfl⟩ := trodAll_nil r1
  obtain rfl : args = #[v0, v1] := by cases args; simp_all
  obtain ⟨rfl, rfl⟩ := trodVars_none hV
  have k0 := h0
  have lt0 : ∀ x ∈ p0, x.block < W.heap.size := by obtain ⟨m, hm⟩ := k0; exact DataW.trod_lt m _ _ _ hm
  obtain ⟨ta0, ka0, Aa0, Ta0, ca0, fa0, Ba0, na0, ea0, xa0, rfl, hfa0, -, hla0, hma0, hta0, hka0, hxa0⟩ := open_ent (hval 0 43 v0 rfl rfl) h0
  have k1 := h1
  have lt1 : ∀ x ∈ p1, x.block < W.heap.size := by obtain ⟨m, hm⟩ := k1; exact DataW.trod_lt m _ _ _ hm
  obtain ⟨A1, n1, c1, a1, rfl, hs1, hm1⟩ := open_sl Try.underlying22 Try.underlying5 (by kernel_rfl) (hval 1 22 v1 rfl rfl) h1
  have hz1 : n1 ≤ 140737488351232 := by have := reach_sl Try.underlying22 k1 hsz (j := 1) rfl rfl; rw [show Try.prog.bytesOf 5 = 1 by kernel_rfl] at this; omega
  clear hA0 hval0
  refine (walk ta0 ka0 fa0 Ta0 ca0 Aa0 xa0 na0 ea0 Ba0 a1 n1 c1 A1 W hfa0 hla0 hma0 hta0 hka0 hxa0 hs1 hm1 hz1).mono fun e W' ⟨he, bel⟩ => ?_
  subst he
  exact ⟨_, rfl, _, _, _, [], _, [], hW', trodAll_mk1 (shut_bool Try.underlying4 _), (trodAll_cons_mk (Below.trod laidOut (by kernel_rfl) (of_decide_eq_true (by kernel_rfl)) k0 bel lt0) (trodAll_cons_mk (Below.trod laidOut (by kernel_rfl) (of_decide_eq_true (by kernel_rfl)) k1 bel lt1) trodAll_mk0)), rfl, bel.frame _, fun h => by cases h⟩

theorem over : Rows.wireEntriesRow.holds Try.pinned (OpenSpec.ofChange Rows.wireEntriesSpec) :=
  OpenClaim.holds_of_wide 5 Try.f5 rfl rfl rfl rfl rfl rfl rfl ⟨rfl, rfl, rfl, rfl, rfl⟩ rfl rfl rfl rfl rfl (by kernel_rfl) Try.func5 (by kernel_rfl)
    (of_decide_eq_true (by kernel_rfl)) (by unfold Func.isWrapper; first | (rw [if_pos (by decide +kernel)]; kernel_rfl) | (rw [if_neg (by decide +kernel)]; exact ⟨rfl, rfl⟩))
    (fun os started H enc _ => lifted os started H enc)

theorem proved : Rows.WireEntriesSaid := over
#print axioms proved
end Go.Proofs.Ytfpkfbojckgcdaa.wireEntries
