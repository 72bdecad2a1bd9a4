/- The statement WireOnce: the law strongroomlaw09.WireOnce answers true for every input, and leaves its arguments as they were. No further condition. -/
import Derived.Test.YtfpkfbojckgcdaaRows
import Derived.Test.YtfpkfbojckgcdaaLib
import Derived.Test.YtfpkfbojckgcdaaWif
namespace Go.Proofs.Ytfpkfbojckgcdaa.wireOnce
open Go.ChangeShapes Go.WideShapes Go.ChangeAt Go.RowKit
open Go.Proofs.Ytfpkfbojckgcdaa.Oct
set_option linter.unusedVariables false

theorem own : ownKnob Try.prog.godebug = none := by kernel_rfl
theorem laidOut : laidOutB Try.prog = true := by kernel_rfl

set_option maxRecDepth 20000 in
set_option maxHeartbeats 8000000 in
theorem walk (a0 : Nat → BitVec 8) (n0 c0 : Nat) (A0 : Option Addr) (w : World) (hs0 : Sl w w.heap.size A0 n0 c0 a0) (hm0 : c0 ≤ maxLen) (hz0 : n0 ≤ 140737488351232) :
    Calls Try.prog 7 #[.slice A0 n0 c0] w fun e w' => e = .returned (.bool true) ∧ Below w.heap.size w w' := by
  have hz0' : n0 ≤ 140737488355328 := by omega
  obtain ⟨SX, hSX⟩ : ∃ S, S = strOf n0 a0 := ⟨_, rfl⟩
  have HS := Lib.hid hs0
  have HC := Lib.hid (show Cv w (.slice A0 n0 c0) SX by rw [hSX]; exact Cv.sl hs0)
  have HX := Lib.hid hSX
  clear hs0 hm0 hSX
  go_enter Try.func7, Try.ntmps7
  go_wp2_with fail
  refine (shown_any w).mono ?_
  rintro e w1 ⟨rfl, hb⟩
  have B1 := Lib.hid hb
  clear hb
  have H1 := Lib.hid (takecom_any n0 c0 A0 a0 w1 ((HS.out.below B1.out).more B1.out.size) hz0')
  go_wp2_with fail
  refine H1.out.mono ?_
  intro e z1 h
  obtain ⟨k1, s1, q1, i1, m1, T1, U1, ct1, cu1, E1, At1, Au1, rfl, hb, hE⟩ := h.two
  rw [← HX.out] at hE
  obtain ⟨x1, hx1⟩ : ∃ x, x = z1.alloc (.cells #[.int .i64 k1, .int .i64 s1, .int .i64 q1, .int .i64 i1, .int .i64 m1, .slice At1 T1 ct1, .slice Au1 U1 cu1] 24) := ⟨_, rfl⟩
  have bx : Below z1.heap.size z1 x1 := by rw [hx1]; exact (Below.refl _ _).alloc (Nat.le_refl _) _
  have D1 := Lib.hid (onto B1.out B1.out.size (onto hb hb.size bx))
  have P1 := Lib.hid (show row x1 z1.heap.size = some #[.int .i64 k1, .int .i64 s1, .int .i64 q1, .int .i64 i1, .int .i64 m1, .slice At1 T1 ct1, .slice Au1 U1 cu1] by rw [hx1]; exact row_alloc_at _ _ _ _ rfl)
  have G := Lib.hid (fun h => hE h x1 bx)
  clear h H1 hb bx hE B1
  go_upto_if 22 with fail
  rw [← hx1]
  clear hx1
  go_cut [] (fun wx => Below x1.heap.size x1 wx)
  case first =>
    by_cases h0 : E1 = 0
    · subst h0
      have H2 := Lib.hid (G.out rfl)
      clear G
      obtain ⟨d0, d1, d2, d3, d4, d5, d6⟩ := cells7 P1.out
      go_wp2_with fail
      refine H2.out.mono ?_
      rintro e y ⟨v, rfl, hc, hb⟩
      have HB := Lib.hid hb
      have cv1 := hc.self
      have cv2 := (HC.out.below (onto D1.out D1.out.size hb)).self
      have hTT : (SX.toList == SX.toList) = true := beq_self_eq_true _
      clear hb hc H2 d0 d1 d2 d3 d4 d5 d6 P1 HS HC HX
      go_wp2_with fail
      go_meet
      exact HB.out
    · have hd : ((E1 : Int) == 0) = false := by simp; omega
      clear G h0 P1 HS HC HX
      go_wp2_with fail
      go_meet
      exact Below.refl _ _
  case rest =>
  obtain ⟨w2, rfl⟩ : ∃ x : World, x = wc := ⟨_, rfl⟩
  have B2 := Lib.hid (onto D1.out D1.out.size hcut)
  clear hcut G P1 D1
  have H1 := Lib.hid (takeent_any n0 c0 A0 a0 w2 ((HS.out.below B2.out).more B2.out.size) hz0')
  go_wp2_with fail
  refine H1.out.mono ?_
  intro e z2 h
  obtain ⟨t2, k2, T2, M2, ct2, cu2, E2, At2, Au2, rfl, hb, hE⟩ := h.two
  rw [← HX.out] at hE
  obtain ⟨x2, hx2⟩ : ∃ x, x = z2.alloc (.cells #[.int .i64 t2, .int .i64 k2, .slice At2 T2 ct2, .slice Au2 M2 cu2] 43) := ⟨_, rfl⟩
  have bx : Below z2.heap.size z2 x2 := by rw [hx2]; exact (Below.refl _ _).alloc (Nat.le_refl _) _
  have D2 := Lib.hid (onto B2.out B2.out.size (onto hb hb.size bx))
  have P2 := Lib.hid (show row x2 z2.heap.size = some #[.int .i64 t2, .int .i64 k2, .slice At2 T2 ct2, .slice Au2 M2 cu2] by rw [hx2]; exact row_alloc_at _ _ _ _ rfl)
  have G := Lib.hid (fun h => hE h x2 bx)
  clear h H1 hb bx hE B2
  go_upto_if 43 with fail
  rw [← hx2]
  clear hx2
  go_cut [] (fun wx => Below x2.heap.size x2 wx)
  case first =>
    by_cases h0 : E2 = 0
    · subst h0
      have H2 := Lib.hid (G.out rfl)
      clear G
      obtain ⟨d0, d1, d2, d3⟩ := cells4 P2.out
      go_wp2_with fail
      refine H2.out.mono ?_
      rintro e y ⟨v, rfl, hc, hb⟩
      have HB := Lib.hid hb
      have cv1 := hc.self
      have cv2 := (HC.out.below (onto D2.out D2.out.size hb)).self
      have hTT : (SX.toList == SX.toList) = true := beq_self_eq_true _
      clear hb hc H2 d0 d1 d2 d3 P2 HS HC HX
      go_wp2_with fail
      go_meet
      exact HB.out
    · have hd : ((E2 : Int) == 0) = false := by simp; omega
      clear G h0 P2 HS HC HX
      go_wp2_with fail
      go_meet
      exact Below.refl _ _
  case rest =>
  obtain ⟨w3, rfl⟩ : ∃ x : World, x = wc := ⟨_, rfl⟩
  have B3 := Lib.hid (onto D2.out D2.out.size hcut)
  clear hcut G P2 D2
  have H1 := Lib.hid (takerep_any n0 c0 A0 a0 w3 ((HS.out.below B3.out).more B3.out.size) hz0')
  go_wp2_with fail
  refine H1.out.mono ?_
  intro e z3 h
  obtain ⟨a3, n3, m3, T3, M3, ct3, cu3, E3, At3, Au3, S3, R3, rfl, hb, hr, hE⟩ := h.two
  rw [← HX.out] at hE
  obtain ⟨x3, hx3⟩ : ∃ x, x = z3.alloc (.cells #[.int .i64 a3, .int .i64 n3, .int .i64 m3, .slice At3 T3 ct3] 35) := ⟨_, rfl⟩
  have bx : Below z3.heap.size z3 x3 := by rw [hx3]; exact (Below.refl _ _).alloc (Nat.le_refl _) _
  have D3 := Lib.hid (onto B3.out B3.out.size (onto hb hb.size bx))
  have P3 := Lib.hid (show row x3 z3.heap.size = some #[.int .i64 a3, .int .i64 n3, .int .i64 m3, .slice At3 T3 ct3] by rw [hx3]; exact row_alloc_at _ _ _ _ rfl)
  have RR := Lib.hid (hr.below bx)
  have G := Lib.hid (fun h => And.intro (hE h).1 ((hE h).2 x3 bx))
  clear hr
  clear h H1 hb bx hE B3
  go_upto_if 65 with fail
  rw [← hx3]
  clear hx3
  go_cut [] (fun wx => Below x3.heap.size x3 wx)
  case first =>
    by_cases h0 : E3 = 0
    · subst h0
      have H2 := Lib.hid (G.out rfl).2
      have HSR := Lib.hid (G.out rfl).1
      clear G
      obtain ⟨d0, d1, d2, d3⟩ := cells4 P3.out
      go_wp2_with fail
      refine H2.out.mono ?_
      rintro e y ⟨v, rfl, hc, hb⟩
      have HB := Lib.hid hb
      have cv1 := hc.self
      have cv2 := (HC.out.below (onto D3.out D3.out.size hb)).self
      have cv3 := (RR.out.below hb).self
      have hSR := HSR.out
      have hTT : ((S3 ++ R3).toList == SX.toList) = true := by rw [hSR]; exact beq_self_eq_true _
      have hsz : ¬ 9223372036854775807 < S3.size + R3.size := by
        have := congrArg ByteArray.size (hSR.trans HX.out)
        rw [ByteArray.size_append, str_size] at this
        omega
      clear hSR HSR RR
      clear hb hc H2 d0 d1 d2 d3 P3 HS HC HX
      go_wp2_with fail
      go_meet
      exact HB.out
    · have hd : ((E3 : Int) == 0) = false := by simp; omega
      clear G h0 P3 HS HC HX
      go_wp2_with fail
      go_meet
      exact Below.refl _ _
  case rest =>
  obtain ⟨w4, rfl⟩ : ∃ x : World, x = wc := ⟨_, rfl⟩
  have B4 := Lib.hid (onto D3.out D3.out.size hcut)
  clear hcut G P3 D3
  go_wp2_with fail
  go_ret
  exact ⟨rfl, B4.out⟩

set_option maxRecDepth 100000 in
theorem lifted (os : Os) (started : os.Started) (H : Type) (enc : TypeId × Value → H) :
    ReturnsInHanded {} Try.checked os 7 .any (Rows.wireOnceSpec.pre6 enc Try.prog Try.f7 Rows.wireOnceRow.domain false) (Rows.wireOnceSpec.post enc Try.prog Try.f7 false true false false) := by
  refine returnsInHanded_of_change_sized (C := Try.checked) own started (by kernel_rfl) Try.func7
    (ChangeSpec.witness6 (enc := enc) (C := Try.checked) false ⟨#[], #[.slice none 0 0], []⟩ 8 (by kernel_rfl) (by kernel_rfl) (by kernel_rfl) (by kernel_rfl)) ?_
  intro W base args ds gs before hval0 hW hcnd hsz0 _
  have hval : ∀ (j : Nat) t v, Try.f7.params[j]? = some t → args[j]? = some v → Value.okWide Try.prog W .any base t v := hval0
  have hW' := hW
  obtain ⟨p, q, hA0, hV, rfl, hfz, hnd⟩ := hW
  have hA : DataW.TrodAll enc Try.prog W 0 (fun _ => true) true Try.f7.params.toList args.toList ds p := hA0
  rw [Try.params7] at hA hval
  have hsz : (DataW.weightsEach Try.prog (Try.f7.params.toList ++ Rows.wireOnceSpec.plain.varTypes Try.prog) (ds ++ gs)).all (· ≤ reachBytes) = true := hsz0
  rw [Try.params7] at hsz
  clear hsz0
  obtain ⟨v0, vs0, d0, ds0, p0, q0, hargs, rfl, rfl, h0, r0⟩ := trodAll_cons hA
  obtain ⟨rfl, rfl, rfl⟩ := trodAll_nil r0
  obtain rfl : args = #[v0] := by cases args; simp_all
  obtain ⟨rfl, rfl⟩ := trodVars_none hV
  have k0 := h0
  have lt0 : ∀ x ∈ p0, x.block < W.heap.size := by obtain ⟨m, hm⟩ := k0; exact DataW.trod_lt m _ _ _ hm
  obtain ⟨A0, n0, c0, a0, rfl, hs0, hm0⟩ := open_sl Try.underlying22 Try.underlying5 (by kernel_rfl) (hval 0 22 v0 rfl rfl) h0
  have hz0 : n0 ≤ 140737488351232 := by have := reach_sl Try.underlying22 k0 hsz (j := 0) rfl rfl; rw [show Try.prog.bytesOf 5 = 1 by kernel_rfl] at this; omega
  clear hA0 hval0
  refine (walk a0 n0 c0 A0 W hs0 hm0 hz0).mono fun e W' ⟨he, bel⟩ => ?_
  subst he
  exact ⟨_, rfl, _, _, _, [], _, [], hW', trodAll_mk1 (shut_bool Try.underlying4 _), (trodAll_cons_mk (Below.trod laidOut (by kernel_rfl) (of_decide_eq_true (by kernel_rfl)) k0 bel lt0) trodAll_mk0), rfl, bel.frame _, fun h => by cases h⟩

theorem over : Rows.wireOnceRow.holds Try.pinned (OpenSpec.ofChange Rows.wireOnceSpec) :=
  OpenClaim.holds_of_wide 7 Try.f7 rfl rfl rfl rfl rfl rfl rfl ⟨rfl, rfl, rfl, rfl, rfl⟩ rfl rfl rfl rfl rfl (by kernel_rfl) Try.func7 (by kernel_rfl)
    (of_decide_eq_true (by kernel_rfl)) (by unfold Func.isWrapper; first | (rw [if_pos (by decide +kernel)]; kernel_rfl) | (rw [if_neg (by decide +kernel)]; exact ⟨rfl, rfl⟩))
    (fun os started H enc _ => lifted os started H enc)

theorem proved : Rows.WireOnceSaid := over
#print axioms proved
end Go.Proofs.Ytfpkfbojckgcdaa.wireOnce
