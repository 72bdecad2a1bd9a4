/- The statement DiskCuts: the law strongroomlaw10.DiskCuts answers true for every input, and leaves its arguments as they were. No further condition. -/
import Derived.Test.YthdhbjfenanbnaaRows
import Derived.Test.YthdhbjfenanbnaaLib
import Derived.Test.YthdhbjfenanbnaaDkS
namespace Go.Proofs.Ythdhbjfenanbnaa.diskCuts
open Go.ChangeShapes Go.WideShapes Go.ChangeAt Go.RowKit
open Go.Proofs.Ythdhbjfenanbnaa.Oct
set_option linter.unusedVariables false

theorem own : ownKnob Try.prog.godebug = none := by kernel_rfl
theorem laidOut : laidOutB Try.prog = true := by kernel_rfl

set_option maxRecDepth 20000 in
set_option maxHeartbeats 4000000 in
theorem walk (a0 : Nat → BitVec 8) (n0 c0 : Nat) (A0 : Option Addr) (a1 : Int) (a2 : Nat → BitVec 8) (n2 c2 : Nat) (A2 : Option Addr) (w : World) (hs0 : Sl w w.heap.size A0 n0 c0 a0) (hm0 : c0 ≤ maxLen) (w1 : (Lit.int .i64 a1).wf = true) (hs2 : Sl w w.heap.size A2 n2 c2 a2) (hm2 : c2 ≤ maxLen) :
    Calls Try.prog 7 #[.slice A0 n0 c0, .int .i64 a1, .slice A2 n2 c2] w fun e w' => e = .returned (.bool true) ∧ Below w.heap.size w w' := by
  have HS0 := Lib.hid hs0
  have HS2 := Lib.hid hs2
  have HM0 := Lib.hid hm0
  have HM2 := Lib.hid hm2
  have hn0 := hs0.le
  have hn2 := hs2.le
  clear hs0 hs2 hm0 hm2 w1
  go_enter Try.func7, Try.ntmps7
  go_wp2_with fail
  refine (shown_any w).mono ?_
  rintro e w1 ⟨rfl, hb1⟩
  have HC := Lib.hid (p_new (W := w) (T := fun _ => 0) (fun _ _ => rfl) hb1 1)
  clear hb1
  go_wp2_with fail
  refine HC.out.mono ?_
  rintro e w2 ⟨rfl, -, S2⟩
  have SS := Lib.hid S2
  clear S2 HC
  obtain ⟨T2, hT2⟩ : ∃ T2, T2 = paint (fun _ => 0) w1.heap.size 1 := ⟨_, rfl⟩
  obtain ⟨B, hB⟩ : ∃ B, B = w1.heap.size := ⟨_, rfl⟩
  rw [← hT2, ← hB] at SS
  rw [← hB]
  clear hT2 hB
  go_wp2_with fail
  refine (few_any A0 n0 c0 hn0 HM0.out w2).mono ?_
  rintro e w2' ⟨rfl, rfl⟩
  obtain ⟨M, hM⟩ : ∃ M, M = min n0 100 := ⟨_, rfl⟩
  have S0 := Lib.hid (sl_bl (HS0.out.upto M (by omega)))
  rw [← hM]
  have hM1 : M ≤ 100 := by omega
  clear hM HS0
  go_wp2_with fail
  refine (few_any A2 n2 c2 hn2 HM2.out w2).mono ?_
  rintro e w2' ⟨rfl, rfl⟩
  obtain ⟨K, hK⟩ : ∃ K, K = min n2 100 := ⟨_, rfl⟩
  have S2 := Lib.hid (sl_bl (HS2.out.upto K (by omega)))
  rw [← hK]
  have hK1 : K ≤ 100 := by omega
  clear hK HS2
  obtain ⟨b, hb⟩ : ∃ b, b = bl M a0 := ⟨_, rfl⟩
  obtain ⟨c, hc⟩ : ∃ c, c = bl K a2 := ⟨_, rfl⟩
  rw [← hb] at S0
  rw [← hc] at S2
  obtain rfl : M = b.length := by rw [hb, bl_len]
  obtain rfl : K = c.length := by rw [hc, bl_len]
  clear hb hc
  -- the numbers
  obtain ⟨d1, hd1⟩ : ∃ d1, d1 = (onF 3 newD fun i => newD.app i b).2 := ⟨_, rfl⟩
  obtain ⟨r2, hr2⟩ : ∃ r2, r2 = onF 3 d1 fun i => d1.cut i a1 := ⟨_, rfl⟩
  obtain ⟨d3, hd3⟩ : ∃ d3, d3 = (onF 3 r2.2 fun i => r2.2.app i c).2 := ⟨_, rfl⟩
  have MO := Lib.hid (cuts_model b c a1 hM1 hK1 d1 r2.2 d3 r2.1 hd1 hr2 hd3)
  have HR2 := Lib.hid hr2
  have HD1 := Lib.hid hd1
  have HD3 := Lib.hid hd3
  clear hd1 hr2 hd3
  have HC := Lib.hid (p_append SS.out (by omega) (by decide) (f := 3) rfl ((S0.out.more (Nat.le_refl _)).below SS.out.bel |>.more SS.out.bel.size) (by omega))
  go_wp2_with fail
  refine HC.out.mono ?_
  rintro e w3 ⟨rfl, T3, -, S3⟩
  rw [← HD1.out] at S3
  have SS3 := Lib.hid S3
  clear S3 HC SS
  have HC := Lib.hid (p_cut SS3.out (by omega) MO.out.1 3 a1)
  rw [← HR2.out] at HC
  go_wp2_with fail
  refine HC.out.mono ?_
  rintro e w4 ⟨rfl, T4, -, S4⟩
  have SS4 := Lib.hid S4
  clear S4 HC SS3
  have HC := Lib.hid (p_append SS4.out (by omega) MO.out.2.1 (f := 3) rfl ((S2.out.more (Nat.le_refl _)).below SS4.out.bel |>.more SS4.out.bel.size) (by omega))
  rw [← HD3.out] at HC
  go_wp2_with fail
  refine HC.out.mono ?_
  rintro e w5 ⟨rfl, T5, -, S5⟩
  have SS5 := Lib.hid S5
  clear S5 HC SS4
  have HC := Lib.hid (p_read SS5.out MO.out.2.2.1 3 0)
  obtain ⟨r2e, hre⟩ : ∃ q, q = r2.1 := ⟨_, rfl⟩
  rw [← hre] at MO ⊢
  by_cases hz : a1 < 0 ∨ (b.length : Int) < a1
  · obtain ⟨m1, m2⟩ := MO.out.2.2.2.1 hz
    rw [m2] at HC
    rw [m1]
    go_wp2_with fail
    refine HC.out.mono ?_
    rintro e w6 ⟨v6, rfl, o6, b6, S6⟩
    obtain ⟨A6, c6, rfl, r6, -⟩ := o6.rd
    have cv1 := r6.conv
    have cv2 := (show (convert 29 9 (.slice A0 b.length c0)).run Try.prog w6 = .ok (.string (str b)) w6 from run_str (P := Try.prog) sli_u u8_u str_u (S0.out.below S6.bel))
    have cv3 := (show (convert 29 9 (.slice A2 c.length c2)).run Try.prog w6 = .ok (.string (str c)) w6 from run_str (P := Try.prog) sli_u u8_u str_u (S2.out.below S6.bel))
    have hap := str_app b c
    have hsz : ¬ 9223372036854775807 < (str b).size + (str c).size := by rw [str_len, str_len]; omega
    have HBL := Lib.hid S6.bel
    obtain ⟨N6, hN6⟩ : ∃ N6, N6 = (b ++ c).length := ⟨_, rfl⟩
    rw [← hN6] at cv1 ⊢
    clear o6 r6 S6 b6 HC MO HR2 HD1 HD3 S0 S2 SS5 hN6 m1 m2 hre
    by_cases hz1 : a1 < 0
    · have hd1 : decide (a1 < 0) = true := by simpa using hz1
      clear hz hz1
      go_wp2_with fail
      go_ret
      exact ⟨rfl, HBL.out⟩
    · have hd1 : decide (a1 < 0) = false := by simpa using hz1
      have hd2 : decide ((b.length : Int) < a1) = true := by simp; omega
      clear hz hz1
      go_wp2_with fail
      go_ret
      exact ⟨rfl, HBL.out⟩
  · obtain ⟨m1, m2⟩ := MO.out.2.2.2.2 hz
    rw [m2] at HC
    rw [m1]
    obtain ⟨K, rfl⟩ : ∃ K : Nat, a1 = (K : Int) := ⟨a1.toNat, by omega⟩
    have hK : K ≤ b.length := by omega
    rw [Int.toNat_natCast] at HC
    go_wp2_with fail
    refine HC.out.mono ?_
    rintro e w6 ⟨v6, rfl, o6, b6, S6⟩
    obtain ⟨A6, c6, rfl, r6, -⟩ := o6.rd
    obtain ⟨b', hb'⟩ : ∃ b', b' = b.take K := ⟨_, rfl⟩
    rw [← hb'] at r6 ⊢
    have hbl : b'.length = K := by rw [hb', List.length_take]; omega
    have CV1 := Lib.hid (fun (y : World) (hy : Below w6.heap.size w6 y) => (r6.fr (Fr.new (H := fun _ => False) hy 0) (fun e => e)).conv)
    have CV2 := Lib.hid (fun (y : World) (hy : Below w6.heap.size w6 y) => show (convert 29 9 (.slice A0 K c0)).run Try.prog y = .ok (.string (str b')) y from by
      rw [← hbl]
      exact run_str (P := Try.prog) sli_u u8_u str_u ((((S0.out.upto b'.length (by omega)).congr fun i hi => by rw [hb', lf_take _ _ _ (by omega)]).below S6.bel).below (hy.mono S6.bel.size)))
    have CV3 := Lib.hid (fun (y : World) (hy : Below w6.heap.size w6 y) => show (convert 29 9 (.slice A2 c.length c2)).run Try.prog y = .ok (.string (str c)) y from run_str (P := Try.prog) sli_u u8_u str_u ((S2.out.below S6.bel).below (hy.mono S6.bel.size)))
    have hup := run_upto sli_u u8_i A0 b.length c0 K (by have := S0.out.le; omega)
    have hap := str_app b' c
    have hsz : ¬ 9223372036854775807 < (str b').size + (str c).size := by rw [str_len, str_len]; omega
    have HBL := Lib.hid S6.bel
    obtain ⟨N6, hN6⟩ : ∃ N6, N6 = (b' ++ c).length := ⟨_, rfl⟩
    rw [← hN6] at CV1 ⊢
    clear o6 r6 S6 b6 HC MO HR2 HD1 HD3 S0 S2 SS5 hN6 m1 m2 hre hz hb' hbl
    have hd1 : decide ((K : Int) < 0) = false := by simp
    have hd2 : decide (b.length < K) = false := by simp; omega
    go_wp2_with fail
    refine flow_seen [] [0, 1, 2, 3, 4, 5, 6, 7, 8, 9, 10, 11, 12, 13, 14, 15, 16, 17, 18] (by kernel_rfl) (by kernel_rfl) (fun _ _ _ _ _ h => h) fun X => ?_
    have HB7 := Lib.hid (onto HBL.out HBL.out.size X.below)
    have cv1 : ∀ y : After X.val, (convert 29 9 (.slice A6 N6 c6)).run Try.prog y.val = .ok (.string (str (b' ++ c))) y.val := fun y => CV1.out y.val (onto X.below X.below.size y.below)
    have cv2 : ∀ y : After X.val, (convert 29 9 (.slice A0 K c0)).run Try.prog y.val = .ok (.string (str b')) y.val := fun y => CV2.out y.val (onto X.below X.below.size y.below)
    have cv3 : ∀ y : After X.val, (convert 29 9 (.slice A2 c.length c2)).run Try.prog y.val = .ok (.string (str c)) y.val := fun y => CV3.out y.val (onto X.below X.below.size y.below)
    obtain ⟨w7, hw7⟩ : ∃ w7, w7 = X.val := ⟨_, rfl⟩
    rw [← hw7] at HB7 cv1 cv2 cv3 ⊢
    clear hw7 X CV1 CV2 CV3
    simp only [wpFs, pk, List.getElem?_cons_zero, List.getElem?_cons_succ]
    repeat (go_big_quiet_step (fail))
    refine wpQuiet_nil ?_
    go_wp2_with fail
    go_ret
    exact ⟨rfl, HB7.out⟩

set_option maxRecDepth 100000 in
theorem lifted (os : Os) (started : os.Started) (H : Type) (enc : TypeId × Value → H) :
    ReturnsInHanded {} Try.checked os 7 .any (Rows.diskCutsSpec.pre6 enc Try.prog Try.f7 Rows.diskCutsRow.domain false) (Rows.diskCutsSpec.post enc Try.prog Try.f7 false true false false) := by
  refine returnsInHanded_of_change (C := Try.checked) own started (by kernel_rfl) Try.func7
    (ChangeSpec.witness6 (enc := enc) (C := Try.checked) false ⟨#[], #[.slice none 0 0, .int .i64 0, .slice none 0 0], []⟩ 8 (by kernel_rfl) (by kernel_rfl) (by kernel_rfl) (by kernel_rfl)) ?_
  intro W base args ds gs before hval0 hW hcnd _
  have hval : ∀ (j : Nat) t v, Try.f7.params[j]? = some t → args[j]? = some v → Value.okWide Try.prog W .any base t v := hval0
  have hW' := hW
  obtain ⟨p, q, hA0, hV, rfl, hfz, hnd⟩ := hW
  have hA : DataW.TrodAll enc Try.prog W 0 (fun _ => true) true Try.f7.params.toList args.toList ds p := hA0
  rw [Try.params7] at hA hval
  obtain ⟨v0, vs0, d0, ds0, p0, q0, hargs, rfl, rfl, h0, r0⟩ := trodAll_cons hA
  obtain ⟨v1, vs1, d1, ds1, p1, q1, rfl, rfl, rfl, h1, r1⟩ := trodAll_cons r0
  obtain ⟨v2, vs2, d2, ds2, p2, q2, rfl, rfl, rfl, h2, r2⟩ := trodAll_cons r1
  obtain ⟨rfl, rfl, rfl⟩ := trodAll_nil r2
  obtain rfl : args = #[v0, v1, v2] := by cases args; simp_all
  obtain ⟨rfl, rfl⟩ := trodVars_none hV
  have k0 := h0
  have lt0 : ∀ x ∈ p0, x.block < W.heap.size := by obtain ⟨m, hm⟩ := k0; exact DataW.trod_lt m _ _ _ hm
  obtain ⟨A0, n0, c0, a0, rfl, hs0, hm0⟩ := open_sl Try.underlying29 Try.underlying5 (by kernel_rfl) (hval 0 29 v0 rfl rfl) h0
  obtain ⟨a1, rfl, rfl, rfl, w1⟩ := open_int Try.underlying3 (hval 1 3 v1 rfl rfl) h1
  have k2 := h2
  have lt2 : ∀ x ∈ p2, x.block < W.heap.size := by obtain ⟨m, hm⟩ := k2; exact DataW.trod_lt m _ _ _ hm
  obtain ⟨A2, n2, c2, a2, rfl, hs2, hm2⟩ := open_sl Try.underlying29 Try.underlying5 (by kernel_rfl) (hval 2 29 v2 rfl rfl) h2
  clear hA0 hval0
  refine (walk a0 n0 c0 A0 a1 a2 n2 c2 A2 W hs0 hm0 w1 hs2 hm2).mono fun e W' ⟨he, bel⟩ => ?_
  subst he
  exact ⟨_, rfl, _, _, _, [], _, [], hW', trodAll_mk1 (shut_bool Try.underlying4 _), (trodAll_cons_mk (Below.trod laidOut (by kernel_rfl) (of_decide_eq_true (by kernel_rfl)) k0 bel lt0) (trodAll_cons_mk (shut_int Try.underlying3 w1) (trodAll_cons_mk (Below.trod laidOut (by kernel_rfl) (of_decide_eq_true (by kernel_rfl)) k2 bel lt2) trodAll_mk0))), rfl, bel.frame _, fun h => by cases h⟩

theorem over : Rows.diskCutsRow.holds Try.pinned (OpenSpec.ofChange Rows.diskCutsSpec) :=
  OpenClaim.holds_of_wide 7 Try.f7 rfl rfl rfl rfl rfl rfl rfl ⟨rfl, rfl, rfl, rfl, rfl⟩ rfl rfl rfl rfl rfl (by kernel_rfl) Try.func7 (by kernel_rfl)
    (of_decide_eq_true (by kernel_rfl)) (by unfold Func.isWrapper; first | (rw [if_pos (by decide +kernel)]; kernel_rfl) | (rw [if_neg (by decide +kernel)]; exact ⟨rfl, rfl⟩))
    (fun os started H enc _ => lifted os started H enc)

theorem proved : Rows.DiskCutsSaid := over
#print axioms proved
end Go.Proofs.Ythdhbjfenanbnaa.diskCuts
