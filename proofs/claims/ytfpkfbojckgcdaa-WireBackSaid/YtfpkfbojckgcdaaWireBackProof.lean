/- The statement WireBack: the law strongroomlaw09.WireBack answers true for every input, and leaves its arguments as they were. No further condition. -/
import Derived.Test.YtfpkfbojckgcdaaRows
import Derived.Test.YtfpkfbojckgcdaaLib
import Derived.Test.YtfpkfbojckgcdaaWif
namespace Go.Proofs.Ytfpkfbojckgcdaa.wireBack
open Go.ChangeShapes Go.WideShapes Go.ChangeAt Go.RowKit
open Go.Proofs.Ytfpkfbojckgcdaa.Oct
set_option linter.unusedVariables false

theorem own : ownKnob Try.prog.godebug = none := by kernel_rfl
theorem laidOut : laidOutB Try.prog = true := by kernel_rfl

set_option maxRecDepth 20000 in
set_option maxHeartbeats 8000000 in
theorem walk (k0 s0 q0 i0 n0 : Int) (f0 g0 : Nat → BitVec 8) (T0 c0 U0 e0 : Nat) (A0 B0 : Option Addr) (x1 n1 m1 : Int) (f1 : Nat → BitVec 8) (T1 c1 : Nat) (A1 : Option Addr) (t2 k2 : Int) (f2 : Nat → BitVec 8) (T2 c2 : Nat) (A2 : Option Addr) (x2 : Nat → Int) (n2 e2 : Nat) (B2 : Option Addr) (w : World) (hf0 : Sl w w.heap.size A0 T0 c0 f0) (hg0 : Sl w w.heap.size B0 U0 e0 g0) (hk0 : i64B k0) (hs0 : i64B s0) (hq0 : i64B q0) (hi0 : i64B i0) (hn0 : i64B n0) (hf1 : Sl w w.heap.size A1 T1 c1 f1) (hx1 : i64B x1) (hn1 : i64B n1) (hm1 : i64B m1) (hf2 : Sl w w.heap.size A2 T2 c2 f2) (hl2 : SlG w w.heap.size B2 n2 e2 (iV x2)) (hm2 : e2 ≤ maxLen) (ht2 : i64B t2) (hk2 : i64B k2) (hx2 : ∀ j, j < n2 → -9223372036854775808 ≤ x2 j ∧ x2 j < 9223372036854775808) :
    Calls Try.prog 6 #[comV k0 s0 q0 i0 n0 (.slice A0 T0 c0) (.slice B0 U0 e0), repV x1 n1 m1 (.slice A1 T1 c1), entV t2 k2 (.slice A2 T2 c2) (.slice B2 n2 e2)] w fun e w' => e = .returned (.bool true) ∧ Below w.heap.size w w' := by
  have HF := Lib.hid hf0
  have HG := Lib.hid hg0
  have HF1 := Lib.hid hf1
  have HF2 := Lib.hid hf2
  have HL2 := Lib.hid hl2
  have HB := Lib.hid (comN_bd hk0 hs0 hq0 hi0 hn0)
  have HB1 := Lib.hid (repN_bd hx1 hn1 hm1)
  have HB2 := Lib.hid (th2_bd ht2 hk2)
  have HX2 := Lib.hid hx2
  have hml : maxLen ≤ 9223372036854775807 := by decide
  have HNB := Lib.hid (show n2 ≤ 9223372036854775807 by have := hl2.le; omega)
  obtain ⟨x0, hx0⟩ : ∃ x0, x0 = ((w.alloc (.cells #[.int .i64 k0, .int .i64 s0, .int .i64 q0, .int .i64 i0, .int .i64 n0, .slice A0 T0 c0, .slice B0 U0 e0] 24)).alloc (.cells #[.int .i64 x1, .int .i64 n1, .int .i64 m1, .slice A1 T1 c1] 35)).alloc (.cells #[.int .i64 t2, .int .i64 k2, .slice A2 T2 c2, .slice B2 n2 e2] 43) := ⟨_, rfl⟩
  have X0 := Lib.hid (show Below w.heap.size w x0 by rw [hx0]; exact (((Below.refl _ _).alloc (by simp) _).alloc (by simp) _).alloc (by simp; omega) _)
  have R0 := Lib.hid (show row x0 w.heap.size = some #[.int .i64 k0, .int .i64 s0, .int .i64 q0, .int .i64 i0, .int .i64 n0, .slice A0 T0 c0, .slice B0 U0 e0] by rw [hx0]; exact row_alloc (row_alloc (row_alloc_at _ _ _ _ rfl) _) _)
  have S0 := Lib.hid (show row x0 (w.heap.size + 1) = some #[.int .i64 x1, .int .i64 n1, .int .i64 m1, .slice A1 T1 c1] by rw [hx0]; exact row_alloc (row_alloc_at _ _ _ _ (by simp)) _)
  have Z0 := Lib.hid (show row x0 (w.heap.size + 1 + 1) = some #[.int .i64 t2, .int .i64 k2, .slice A2 T2 c2, .slice B2 n2 e2] by rw [hx0]; exact row_alloc_at _ _ _ _ (by simp))
  clear hml hf0 hg0 hk0 hs0 hq0 hi0 hn0 hf1 hx1 hn1 hm1 hf2 hl2 hm2 ht2 hk2 hx2
  go_enter Try.func6, Try.ntmps6
  go_upto_region 1 with fail
  rw [← hx0]
  clear hx0
  go_wp2_with fail
  refine (shown_any x0).mono ?_
  rintro e w1 ⟨rfl, hb⟩
  have D1 := Lib.hid (onto X0.out X0.out.size hb)
  have R1 := Lib.hid (carry hb R0.out)
  have S1 := Lib.hid (carry hb S0.out)
  have Z1 := Lib.hid (carry hb Z0.out)
  clear hb X0 R0 S0 Z0
  obtain ⟨d0, d1, d2, d3, d4, d5, d6⟩ := cells7 R1.out
  obtain ⟨E1, h2⟩ := combk_any HB.out ((HF.out.below D1.out).more D1.out.size) ((HG.out.below D1.out).more D1.out.size)
  have H2 := Lib.hid h2
  clear h2
  go_wp2_with fail
  refine H2.out.mono ?_
  rintro e w2 ⟨v2, rfl, hb, hE⟩
  have D2 := Lib.hid (onto D1.out D1.out.size hb)
  have R2 := Lib.hid (carry hb R1.out)
  have S2 := Lib.hid (carry hb S1.out)
  have Z2 := Lib.hid (carry hb Z1.out)
  have G := Lib.hid hE
  clear hb hE H2 D1 R1 S1 Z1 d0 d1 d2 d3 d4 d5 d6
  go_upto_if 29 with fail
  go_cut [] (fun wx => Below w2.heap.size w2 wx)
  case first =>
    by_cases h0 : E1 = 0
    · subst h0
      have H3 := Lib.hid (G.out rfl)
      clear G
      go_wp2_with fail
      refine H3.out.mono ?_
      rintro e y ⟨A3, c3, A4, c4, d', b', rfl, h1, h2, hS, hb⟩
      obtain ⟨z, hz⟩ : ∃ z, z = y.alloc (.cells #[.int .i64 k0, .int .i64 s0, .int .i64 q0, .int .i64 i0, .int .i64 n0, .slice A3 T0 c3, .slice A4 U0 c4] 24) := ⟨_, rfl⟩
      have bx : Below y.heap.size y z := by rw [hz]; exact (Below.refl _ _).alloc (Nat.le_refl _) _
      have hb' := onto hb hb.size bx
      have D3 := Lib.hid hb'
      have F3 := Lib.hid (onto D2.out D2.out.size hb')
      have R3 := Lib.hid (carry hb' R2.out)
      have P3 := Lib.hid (show row z y.heap.size = some #[.int .i64 k0, .int .i64 s0, .int .i64 q0, .int .i64 i0, .int .i64 n0, .slice A3 T0 c3, .slice A4 U0 c4] by rw [hz]; exact row_alloc_at _ _ _ _ rfl)
      have H4 := Lib.hid (samecom_any k0 s0 q0 i0 n0 k0 s0 q0 i0 n0 T0 U0 T0 U0 c0 e0 c3 c4 A0 B0 A3 A4 f0 g0 d' b' z ((HF.out.below F3.out).more F3.out.size) ((HG.out.below F3.out).more F3.out.size) ((h1.below bx).more bx.size) ((h2.below bx).more bx.size))
      rw [hS] at H4
      clear h1 h2 hS hb bx hb' H3 R2 S2 Z2 D2 F3
      go_upto_region 5 with fail
      rw [← hz]
      clear hz
      obtain ⟨d0, d1, d2, d3, d4, d5, d6⟩ := cells7 R3.out
      obtain ⟨y0, y1, y2, y3, y4, y5, y6⟩ := cells7 P3.out
      go_wp2_with fail
      refine H4.out.mono ?_
      rintro e z2 ⟨rfl, hb⟩
      have D4 := Lib.hid (onto D3.out D3.out.size hb)
      clear hb H4 d0 d1 d2 d3 d4 d5 d6 y0 y1 y2 y3 y4 y5 y6
      go_wp2_with fail
      go_meet
      exact D4.out
    · have hd : ((E1 : Int) == 0) = false := by simp; omega
      clear G h0
      go_wp2_with fail
      go_meet
      exact Below.refl _ _
  case rest =>
  obtain ⟨w3, rfl⟩ : ∃ x : World, x = wc := ⟨_, rfl⟩
  have D3 := Lib.hid (onto D2.out D2.out.size hcut)
  have S3 := Lib.hid (carry hcut S2.out)
  have Z3 := Lib.hid (carry hcut Z2.out)
  clear hcut G D2 R2 S2 Z2 HF HG HB
  obtain ⟨d0, d1, d2, d3⟩ := cells4 S3.out
  obtain ⟨E2, L, F, h2, h3⟩ := repbk_any HB1.out ((HF1.out.below D3.out).more D3.out.size)
  have H2 := Lib.hid h2
  have G := Lib.hid h3
  clear h2 h3
  go_wp2_with fail
  refine H2.out.mono ?_
  rintro e w4 ⟨v4, rfl, hb, hE⟩
  have D4 := Lib.hid (onto D3.out D3.out.size hb)
  have S4 := Lib.hid (carry hb S3.out)
  have Z4 := Lib.hid (carry hb Z3.out)
  have O4 := Lib.hid hE
  clear hb hE H2 D3 S3 Z3 d0 d1 d2 d3
  go_upto_if 50 with fail
  go_cut [] (fun wx => Below w4.heap.size w4 wx)
  case first =>
    by_cases h0 : E2 = 0
    · subst h0
      obtain ⟨hL, h3⟩ := G.out rfl
      have H3 := Lib.hid h3
      obtain ⟨A3, c3, hv, hs, -, -⟩ := (O4.out rfl).sl
      subst hv
      have bE := (Below.refl w4.heap.size w4).alloc (Nat.le_refl _) (.cells #[] 5)
      have BE := Lib.hid bE
      have OE := Lib.hid (show Own (w4.alloc (.cells #[] 5)) w4.heap.size 5 (.slice (some ⟨w4.heap.size, 0, none⟩) 0 0) 0 nF from Own.empty w4 w4.heap.size 5 _ (Nat.le_refl _))
      have SE := Lib.hid ((hs.below bE).more bE.size)
      have hz5 : w4.heap.size ≤ (w4.alloc (.cells #[] 5)).heap.size := by simp
      clear h3 G O4 hs bE
      go_wp2_with (at_builtin; first
        | (refine wpl_appB rfl (.tmp 52) (.tmp 53) rfl sli_u u8_info OE.out SE.out (by omega) hz5 rfl rfl ?_
           intro v6 w6 ho6 hg6 ht6
           rw [Nat.zero_add, catF_zero] at ho6
           have hz6 := hg6.size
           have B6 := Lib.hid ((OE.out.after hg6 BE.out (by omega) (Nat.le_refl _)).alloc (by simp at hz6; omega) (.cells #[.int .u8 1, .int .u8 2, .int .u8 3] 5))
           have O6 := Lib.hid (ho6.alloc (.cells #[.int .u8 1, .int .u8 2, .int .u8 3] 5))
           have S6 := Lib.hid (show Sl (w6.alloc (.cells #[.int .u8 1, .int .u8 2, .int .u8 3] 5)) (w6.heap.size + 1) (some ⟨w6.heap.size, 0, none⟩) 3 3 (litF [1#8, 2#8, 3#8]) from Sl.lit w6 s3_lit _ _ _ (by omega))
           have hz6b : w4.heap.size ≤ (w6.alloc (.cells #[.int .u8 1, .int .u8 2, .int .u8 3] 5)).heap.size := by simp at hz6 ⊢; omega
           clear ho6 hg6 ht6 OE SE)
        | (refine wpl_appB rfl (.tmp 54) (.tmp 55) rfl sli_u u8_info O6.out S6.out (by omega) hz6b rfl rfl ?_
           intro v7 w7 ho7 hg7 ht7))
      have B7 := Lib.hid (O6.out.after hg7 B6.out hz6b (Nat.le_refl _))
      obtain ⟨A7, c7, hv7, hs7, -, -⟩ := ho7.sl
      subst hv7
      have H7 := Lib.hid (H3.out w7 A7 c7 _ hs7)
      clear ho7 hg7 ht7 hs7 B6 S6 O6 hz5 hz6 hz6b H3 BE
      refine H7.out.mono ?_
      rintro e y ⟨A4, c4, A5, c5, d', r', rfl, h1, h2, hS, hR, hb⟩
      rw [s3_str] at hR
      obtain ⟨z, hz⟩ : ∃ z, z = y.alloc (.cells #[.int .i64 x1, .int .i64 n1, .int .i64 m1, .slice A4 T1 c4] 35) := ⟨_, rfl⟩
      have bx : Below y.heap.size y z := by rw [hz]; exact (Below.refl _ _).alloc (Nat.le_refl _) _
      have hb' := onto B7.out B7.out.size (onto hb hb.size bx)
      have D5 := Lib.hid hb'
      have F5 := Lib.hid (onto D4.out D4.out.size hb')
      have S5 := Lib.hid (carry hb' S4.out)
      have P5 := Lib.hid (show row z y.heap.size = some #[.int .i64 x1, .int .i64 n1, .int .i64 m1, .slice A4 T1 c4] by rw [hz]; exact row_alloc_at _ _ _ _ rfl)
      have C5 := Lib.hid (show Cv z (.slice A5 3 c5) ⟨#[1, 2, 3]⟩ by rw [← hR]; exact (Cv.sl h2).below bx)
      have H8 := Lib.hid (samerep_any x1 n1 m1 x1 n1 m1 T1 T1 c1 c4 A1 A4 f1 d' z ((HF1.out.below F5.out).more F5.out.size) ((h1.below bx).more bx.size))
      rw [hS] at H8
      clear h1 h2 hS hR hb bx hb' H7 S4 Z4 D4 F5 B7
      go_upto_region 11 with fail
      rw [← hz]
      clear hz
      obtain ⟨d0, d1, d2, d3⟩ := cells4 S5.out
      obtain ⟨y0, y1, y2, y3⟩ := cells4 P5.out
      go_wp2_with fail
      refine H8.out.mono ?_
      rintro e z2 ⟨rfl, hb⟩
      have D6 := Lib.hid (onto D5.out D5.out.size hb)
      have cv := (C5.out.below hb).self
      have hTT : ((⟨#[1, 2, 3]⟩ : ByteArray).toList == (⟨#[1, 2, 3]⟩ : ByteArray).toList) = true := beq_self_eq_true _
      clear hb H8 C5 d0 d1 d2 d3 y0 y1 y2 y3
      go_wp2_with fail
      go_meet
      exact D6.out
    · have hd : ((E2 : Int) == 0) = false := by simp; omega
      clear G O4 h0
      go_wp2_with fail
      go_meet
      exact Below.refl _ _
  case rest =>
  obtain ⟨w5, rfl⟩ : ∃ x : World, x = wc := ⟨_, rfl⟩
  have D5 := Lib.hid (onto D4.out D4.out.size hcut)
  have Z5 := Lib.hid (carry hcut Z4.out)
  clear hcut G O4 D4 S4 Z4 HF1 HB1
  obtain ⟨d0, d1, d2, d3⟩ := cells4 Z5.out
  obtain ⟨E3, h7, h2⟩ := entbk_any HB2.out HX2.out HNB.out ((HF2.out.below D5.out).more D5.out.size) ((HL2.out.below D5.out).more D5.out.size)
  have H2 := Lib.hid h2
  have H7 := Lib.hid h7
  clear h2 h7
  go_wp2_with fail
  refine H2.out.mono ?_
  rintro e w6 ⟨v6, rfl, hb, hE⟩
  have D6 := Lib.hid (onto D5.out D5.out.size hb)
  have Z6 := Lib.hid (carry hb Z5.out)
  have G := Lib.hid hE
  clear hb hE H2 D5 Z5 d0 d1 d2 d3
  go_upto_if 81 with fail
  go_cut [] (fun wx => Below w6.heap.size w6 wx)
  case first =>
    by_cases h0 : E3 = 0
    · subst h0
      have H3 := Lib.hid (G.out rfl)
      have hN7 := H7.out rfl
      clear G H7
      go_wp2_with fail
      refine H3.out.mono ?_
      rintro e y ⟨A3, c3, A4, c4, d', x', rfl, h1, h2, hS, hT, hb⟩
      obtain ⟨z, hz⟩ : ∃ z, z = y.alloc (.cells #[.int .i64 t2, .int .i64 k2, .slice A3 T2 c3, .slice A4 n2 c4] 43) := ⟨_, rfl⟩
      have bx : Below y.heap.size y z := by rw [hz]; exact (Below.refl _ _).alloc (Nat.le_refl _) _
      have hb' := onto hb hb.size bx
      have D7 := Lib.hid hb'
      have F7 := Lib.hid (onto D6.out D6.out.size hb')
      have Z7 := Lib.hid (carry hb' Z6.out)
      have P7 := Lib.hid (show row z y.heap.size = some #[.int .i64 t2, .int .i64 k2, .slice A3 T2 c3, .slice A4 n2 c4] by rw [hz]; exact row_alloc_at _ _ _ _ rfl)
      have H4 := Lib.hid (sameent_any t2 k2 T2 n2 c2 e2 c3 c4 A2 B2 A3 A4 f2 d' x2 x' z ((HF2.out.below F7.out).more F7.out.size) ((HL2.out.below F7.out).more F7.out.size) ((h1.below bx).more bx.size) ((h2.below bx).more bx.size) hS hT (by omega))
      clear h1 h2 hS hT hb bx hb' H3 Z6 D6 F7 hN7
      go_upto_region 17 with fail
      rw [← hz]
      clear hz
      obtain ⟨d0, d1, d2, d3⟩ := cells4 Z7.out
      obtain ⟨y0, y1, y2, y3⟩ := cells4 P7.out
      go_wp2_with fail
      refine H4.out.mono ?_
      rintro e z2 ⟨rfl, hb⟩
      have D8 := Lib.hid (onto D7.out D7.out.size hb)
      clear hb H4 d0 d1 d2 d3 y0 y1 y2 y3
      go_wp2_with fail
      go_meet
      exact D8.out
    · have hd : ((E3 : Int) == 0) = false := by simp; omega
      clear G H7 h0
      go_wp2_with fail
      go_meet
      exact Below.refl _ _
  case rest =>
  obtain ⟨w7, rfl⟩ : ∃ x : World, x = wc := ⟨_, rfl⟩
  have D7 := Lib.hid (onto D6.out D6.out.size hcut)
  clear hcut G D6 Z6 H7 HF2 HL2 HB2 HX2 HNB
  go_wp2_with fail
  go_ret
  exact ⟨rfl, D7.out⟩

set_option maxRecDepth 100000 in
theorem lifted (os : Os) (started : os.Started) (H : Type) (enc : TypeId × Value → H) :
    ReturnsInHanded {} Try.checked os 6 .any (Rows.wireBackSpec.pre6 enc Try.prog Try.f6 Rows.wireBackRow.domain false) (Rows.wireBackSpec.post enc Try.prog Try.f6 false true false false) := by
  refine returnsInHanded_of_change_sized (C := Try.checked) own started (by kernel_rfl) Try.func6
    (ChangeSpec.witness6 (enc := enc) (C := Try.checked) false ⟨#[], #[.agg #[.int .i64 0, .int .i64 0, .int .i64 0, .int .i64 0, .int .i64 0, .slice none 0 0, .slice none 0 0], .agg #[.int .i64 0, .int .i64 0, .int .i64 0, .slice none 0 0], .agg #[.int .i64 0, .int .i64 0, .slice none 0 0, .slice none 0 0]], []⟩ 8 (by kernel_rfl) (by kernel_rfl) (by kernel_rfl) (by kernel_rfl)) ?_
  intro W base args ds gs before hval0 hW hcnd hsz0 _
  have hval : ∀ (j : Nat) t v, Try.f6.params[j]? = some t → args[j]? = some v → Value.okWide Try.prog W .any base t v := hval0
  have hW' := hW
  obtain ⟨p, q, hA0, hV, rfl, hfz, hnd⟩ := hW
  have hA : DataW.TrodAll enc Try.prog W 0 (fun _ => true) true Try.f6.params.toList args.toList ds p := hA0
  rw [Try.params6] at hA hval
  have hsz : (DataW.weightsEach Try.prog (Try.f6.params.toList ++ Rows.wireBackSpec.plain.varTypes Try.prog) (ds ++ gs)).all (· ≤ reachBytes) = true := hsz0
  rw [Try.params6] at hsz
  clear hsz0
  obtain ⟨v0, vs0, d0, ds0, p0, q0, hargs, rfl, rfl, h0, r0⟩ := trodAll_cons hA
  obtain ⟨v1, vs1, d1, ds1, p1, q1, rfl, rfl, rfl, h1, r1⟩ := trodAll_cons r0
  obtain ⟨v2, vs2, d2, ds2, p2, q2, rfl, rfl, rfl, h2, r2⟩ := trodAll_cons r1
  obtain ⟨rfl, rfl, rfl⟩ := trodAll_nil r2
  obtain rfl : args = #[v0, v1, v2] := by cases args; simp_all
  obtain ⟨rfl, rfl⟩ := trodVars_none hV
  have k0 := h0
  have lt0 : ∀ x ∈ p0, x.block < W.heap.size := by obtain ⟨m, hm⟩ := k0; exact DataW.trod_lt m _ _ _ hm
  obtain ⟨ka0, sa0, qa0, ia0, na0, Aa0, Ta0, ca0, fa0, Ba0, Ua0, ea0, ga0, rfl, hfa0, -, hga0, -, hka0, hsa0, hqa0, hia0, hna0⟩ := open_com (hval 0 24 v0 rfl rfl) h0
  have k1 := h1
  have lt1 : ∀ x ∈ p1, x.block < W.heap.size := by obtain ⟨m, hm⟩ := k1; exact DataW.trod_lt m _ _ _ hm
  obtain ⟨xa1, na1, ma1, Aa1, Ta1, ca1, fa1, rfl, hfa1, -, hxa1, hna1, hma1⟩ := open_rep (hval 1 35 v1 rfl rfl) h1
  have k2 := h2
  have lt2 : ∀ x ∈ p2, x.block < W.heap.size := by obtain ⟨m, hm⟩ := k2; exact DataW.trod_lt m _ _ _ hm
  obtain ⟨ta2, ka2, Aa2, Ta2, ca2, fa2, Ba2, na2, ea2, xa2, rfl, hfa2, -, hla2, hma2, hta2, hka2, hxa2⟩ := open_ent (hval 2 43 v2 rfl rfl) h2
  clear hA0 hval0
  refine (walk ka0 sa0 qa0 ia0 na0 fa0 ga0 Ta0 ca0 Ua0 ea0 Aa0 Ba0 xa1 na1 ma1 fa1 Ta1 ca1 Aa1 ta2 ka2 fa2 Ta2 ca2 Aa2 xa2 na2 ea2 Ba2 W hfa0 hga0 hka0 hsa0 hqa0 hia0 hna0 hfa1 hxa1 hna1 hma1 hfa2 hla2 hma2 hta2 hka2 hxa2).mono fun e W' ⟨he, bel⟩ => ?_
  subst he
  exact ⟨_, rfl, _, _, _, [], _, [], hW', trodAll_mk1 (shut_bool Try.underlying4 _), (trodAll_cons_mk (Below.trod laidOut (by kernel_rfl) (of_decide_eq_true (by kernel_rfl)) k0 bel lt0) (trodAll_cons_mk (Below.trod laidOut (by kernel_rfl) (of_decide_eq_true (by kernel_rfl)) k1 bel lt1) (trodAll_cons_mk (Below.trod laidOut (by kernel_rfl) (of_decide_eq_true (by kernel_rfl)) k2 bel lt2) trodAll_mk0))), rfl, bel.frame _, fun h => by cases h⟩

theorem over : Rows.wireBackRow.holds Try.pinned (OpenSpec.ofChange Rows.wireBackSpec) :=
  OpenClaim.holds_of_wide 6 Try.f6 rfl rfl rfl rfl rfl rfl rfl ⟨rfl, rfl, rfl, rfl, rfl⟩ rfl rfl rfl rfl rfl (by kernel_rfl) Try.func6 (by kernel_rfl)
    (of_decide_eq_true (by kernel_rfl)) (by unfold Func.isWrapper; first | (rw [if_pos (by decide +kernel)]; kernel_rfl) | (rw [if_neg (by decide +kernel)]; exact ⟨rfl, rfl⟩))
    (fun os started H enc _ => lifted os started H enc)

theorem proved : Rows.WireBackSaid := over
#print axioms proved
end Go.Proofs.Ytfpkfbojckgcdaa.wireBack
