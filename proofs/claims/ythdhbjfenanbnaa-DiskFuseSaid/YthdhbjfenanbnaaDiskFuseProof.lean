/- The statement DiskFuse: the law strongroomlaw10.DiskFuse answers true for every input, and leaves its arguments as they were. No further condition. -/
import Derived.Test.YthdhbjfenanbnaaRows
import Derived.Test.YthdhbjfenanbnaaLib
import Derived.Test.YthdhbjfenanbnaaDkX
namespace Go.Proofs.Ythdhbjfenanbnaa.diskFuse
open Go.ChangeShapes Go.WideShapes Go.ChangeAt Go.RowKit
open Go.Proofs.Ythdhbjfenanbnaa.Oct
set_option linter.unusedVariables false

theorem own : ownKnob Try.prog.godebug = none := by kernel_rfl
theorem laidOut : laidOutB Try.prog = true := by kernel_rfl

set_option maxRecDepth 20000 in
set_option maxHeartbeats 8000000 in
theorem walk (a0 : Int) (n1 c1 : Nat) (A1 : Option Addr) (X1 : Nat → OpM) (w : World) (w0 : (Lit.int .i64 a0).wf = true) (hl1 : OpsSl w w.heap.size A1 n1 c1 X1) :
    Calls Try.prog 5 #[.int .i64 a0, .slice A1 n1 c1] w fun e w' => e = .returned (.bool true) ∧ Below w.heap.size w w' := by
  have HL := Lib.hid hl1
  have hnc : n1 ≤ 9223372036854775807 := by have := hl1.le; have := hl1.big; unfold maxLen at this; omega
  have HW := Lib.hid w0
  have hw := bounds_i64 w0
  clear hl1 w0
  go_enter Try.func5, Try.ntmps5
  go_wp2_with fail
  refine (shown_any w).mono ?_
  rintro e w1 ⟨rfl, hb1⟩
  have HC := Lib.hid (p_new (W := w) (T := fun _ => 0) (fun _ _ => rfl) hb1 1)
  clear hb1
  go_wp2_with fail
  refine HC.out.mono ?_
  rintro e w2 ⟨rfl, -, S2⟩
  have SS := Lib.hid S2
  clear S2 HC
  obtain ⟨T2, hT2⟩ : ∃ T2, T2 = paint (fun _ => 0) w1.heap.size 1 := ⟨_, rfl⟩
  obtain ⟨B, hB⟩ : ∃ B, B = w1.heap.size := ⟨_, rfl⟩
  rw [← hT2, ← hB] at SS
  rw [← hB]
  clear hT2 hB
  have HK := Lib.hid (kind_any a0 40 HW.out (by omega) (by omega) w2)
  rw [show ((40 : Nat) : Int) = 40 from rfl] at HK
  go_wp2_with fail
  refine HK.out.mono ?_
  rintro e w1' ⟨rfl, rfl⟩
  have hk40 := knd_lt a0 (show 0 < 40 by omega)
  obtain ⟨k, hk⟩ : ∃ k, k = knd a0 40 := ⟨_, rfl⟩
  rw [← hk] at hk40 ⊢
  clear HK hk
  have HC := Lib.hid (p_fuse SS.out (by omega) (n := (k : Int)) (by omega))
  go_wp2_with fail
  refine HC.out.mono ?_
  rintro e w3 ⟨rfl, -, S3⟩
  have SS3 := Lib.hid S3
  clear S3 HC SS
  go_wp2_with fail
  go_loopw [8, 9] (fun sv iv wr => ∃ (i : Nat) (T : Mk) (d : Dk), i ≤ n1 ∧ i ≤ 60 ∧ sv = .int .i64 (d.n : Int) ∧ iv = .int .i64 (i : Int) ∧ Sn w T wr 1 B d ∧ Fu k d) (fun _ iv _ => n1 - (intOf iv).toNat)
  case atStart => exact ⟨0, T2, _, by omega, by omega, rfl, rfl, SS3.out, Fu.new k⟩
  case round =>
    clear SS3
    obtain ⟨i, T, d, hi, hi60, rfl, rfl, S, U⟩ := hrel
    obtain ⟨wo, rfl⟩ : ∃ wo : World, wo = wr := ⟨_, rfl⟩
    have SI := Lib.hid S
    have UI := Lib.hid U
    have hdn := U.le
    clear S U
    by_cases hlt : i < n1 ∧ i < 60
    · have hd1 : decide ((i : Int) < (n1 : Int)) = true := by simp; omega
      have hd2 : decide ((i : Int) < 60) = true := by simp; omega
      obtain ⟨gl, ol, A1, c1, A2, c2, hA1, hgl, q0, hsb, hmb, -⟩ := (HL.out.below SI.out.bel).at_ i hlt.1
      obtain ⟨xk, xf, xz, -⟩ := HL.out.wf i hlt.1
      subst hA1
      have SB := Lib.hid hsb
      have MB := Lib.hid hmb
      have XK := Lib.hid xk
      have XF := Lib.hid xf
      have hsl := hsb.le
      have zo := SI.out.bel.size
      obtain ⟨x, hx⟩ : ∃ x, x = X1 i := ⟨_, rfl⟩
      rw [← hx] at SB XK XF q0 hsl
      have q1 := op_lw q0
      have q2 := fun (c : Array Value) (hc : c.size = 5) => op_sw (x := x) (u := .slice A1 x.b.length c1) (v := .slice A2 x.m c2) (row_alloc_at wo c 32 wo.heap.size rfl) hc rfl rfl
      clear hsb hmb xk xf q0 hx
      go_wp2_with fail
      have b4 : Below wo.heap.size wo (wo.alloc (.cells (opC x (.slice A1 x.b.length c1) (.slice A2 x.m c2)) 32)) := (Below.refl _ _).alloc (Nat.le_refl _) _
      have r4 := row_alloc_at wo (opC x (.slice A1 x.b.length c1) (.slice A2 x.m c2)) 32 wo.heap.size rfl
      have SI4 := Lib.hid (SI.out.calm b4 0)
      have SB4 := Lib.hid (SB.out.below (b4.mono zo))
      obtain ⟨w4, hw4⟩ : ∃ w4, w4 = wo.alloc (.cells (opC x (.slice A1 x.b.length c1) (.slice A2 x.m c2)) 32) := ⟨_, rfl⟩
      obtain ⟨T4, hT4⟩ : ∃ T4, T4 = paint T wo.heap.size 0 := ⟨_, rfl⟩
      obtain ⟨Z, hZ⟩ : ∃ Z, Z = wo.heap.size := ⟨_, rfl⟩
      rw [← hw4] at r4 SI4 SB4 ⊢
      rw [← hT4] at SI4
      rw [← hZ] at r4 ⊢
      obtain ⟨e0, e1, -, e3, -⟩ := op_cells r4
      have z4 := SI4.out.bel.size
      have R4 := Lib.hid r4
      clear hw4 b4 r4 SI SB q1 q2 hT4 hZ e1 e3
      have HK := Lib.hid (kind_any x.k 3 XK.out (by omega) (by omega) w4)
      rw [show ((3 : Nat) : Int) = 3 from rfl] at HK
      refine HK.out.mono ?_
      rintro e w1' ⟨rfl, rfl⟩
      have hq3 := knd_lt x.k (show 0 < 3 by omega)
      obtain ⟨q, hq⟩ : ∃ q, q = knd x.k 3 := ⟨_, rfl⟩
      rw [← hq] at hq3 ⊢
      clear hq HK XK e0
      have HKf := Lib.hid (fun y => kind_any x.f 4 XF.out (by omega) (by omega) y)
      rw [show ((4 : Nat) : Int) = 4 from rfl] at HKf
      have hf4 := knd_lt x.f (show 0 < 4 by omega)
      obtain ⟨F, hF⟩ : ∃ F, F = knd x.f 4 := ⟨_, rfl⟩
      rw [← hF] at HKf hf4
      clear hF
      go_upto_block 2 with fail
      go_cut [11] from 42 to 65 (fun ev wx => ∃ (T' : Mk) (d' : Dk) (e : Nat), ev = .int .i64 (e : Int) ∧ Sn w T' wx 1 B d' ∧ Stp k d e d')
      case first =>
        rcases (show q = 0 ∨ q = 1 ∨ q = 2 by omega) with rfl | rfl | rfl
        · have HFW := Lib.hid (fun y => few_any A1 _ c1 hsl MB.out y)
          rw [few_len x.b] at HFW
          obtain ⟨b, hb⟩ : ∃ b, b = x.b.take 100 := ⟨_, rfl⟩
          have hb1 : b.length ≤ 100 := by rw [hb, List.length_take]; omega
          have S5 := Lib.hid (few_sl SB4.out)
          rw [← hb] at HFW S5
          clear hb
          go_wp2_with fail
          refine flow_seen [([0, 1, 2, 4, 5], 3, false), ([], 6, false), ([], 7, true)] [8] (by kernel_rfl) (by kernel_rfl) (fun _ _ _ _ _ h => h) fun X => ?_
          have R5 := Lib.hid (carry X.below R4.out)
          have SI5 := Lib.hid (SI4.out.calm X.below 0)
          have S6 := Lib.hid ((S5.out.below (X.below.mono z4)).more (Nat.le_trans z4 X.below.size))
          obtain ⟨w5, hw5⟩ : ∃ w5, w5 = X.val := ⟨_, rfl⟩
          rw [← hw5] at R5 SI5 S6 ⊢
          clear hw5 X S5 SB4 R4 SI4
          have e1 : ∀ y : After w5, y.val.cell? ⟨Z, 1, none⟩ = some (.int .i64 x.f) := fun y => (op_cells (After.row R5.out y)).2.1
          have e3 : ∀ y : After w5, y.val.cell? ⟨Z, 3, none⟩ = some (.slice A1 x.b.length c1) := fun y => (op_cells (After.row R5.out y)).2.2.2.1
          simp only [wpFs, pk, List.getElem?_cons_zero, List.getElem?_cons_succ]
          repeat (go_big_quiet_step (fail))
          refine wpQuiet_nil ?_
          clear e1 e3
          go_wp2_with fail
          refine (HKf.out _).mono ?_
          rintro e w6 ⟨rfl, rfl⟩
          go_wp2_with fail
          first | refine ⟨.inr (Below.refl _ _), ?_⟩ | refine ⟨Below.refl _ _, ?_⟩
          show wpQuiet _ _ _ _ _ _
          refine wpQuiet_nil ?_
          go_wp2_with fail
          refine (HFW.out _).mono ?_
          rintro e w6 ⟨rfl, rfl⟩
          go_wp2_with fail
          first | refine ⟨.inr (Below.refl _ _), ?_⟩ | refine ⟨Below.refl _ _, ?_⟩
          show wpQuiet _ _ _ _ _ _
          refine wpQuiet_nil ?_
          have HC := Lib.hid (p_append SI5.out (by omega) (by omega) (f := (F : Int)) (b := b) rfl S6.out (by omega))
          have U2 := Lib.hid (UI.out.app (by omega) hf4 hb1)
          obtain ⟨r, hr⟩ : ∃ r, r = onF (F : Int) d fun i => d.app i b := ⟨_, rfl⟩
          rw [← hr] at HC U2
          clear hr
          go_wp2_with fail
          refine HC.out.mono ?_
          rintro e w6 ⟨rfl, T6, -, S7⟩
          have S8 := Lib.hid S7
          clear S7 HC SI5 S6
          go_wp2_with fail
          first | refine ⟨.inl trivial, ?_⟩ | skip
          show wpQuiet _ _ _ _ _ _
          repeat (go_big_quiet_step (fail))
          refine wpQuiet_nil ?_
          go_wp2_with fail
          go_meet
          exact ⟨T6, r.2, r.1, rfl, S8.out, U2.out⟩
        · obtain ⟨-, e1, -⟩ := op_cells R4.out
          go_wp2_with fail
          refine (HKf.out _).mono ?_
          rintro e w5 ⟨rfl, rfl⟩
          have HC := Lib.hid (p_sync SI4.out (by omega) (by omega) (F : Int))
          have U2 := Lib.hid (UI.out.sync hf4)
          obtain ⟨r, hr⟩ : ∃ r, r = onF (F : Int) d fun i => d.sync i := ⟨_, rfl⟩
          rw [← hr] at HC U2
          clear hr
          go_wp2_with fail
          refine HC.out.mono ?_
          rintro e w6 ⟨rfl, T6, -, S7⟩
          have S8 := Lib.hid S7
          clear S7 HC
          go_wp2_with fail
          go_meet
          exact ⟨T6, r.2, r.1, rfl, S8.out, U2.out⟩
        · obtain ⟨-, e1, -⟩ := op_cells R4.out
          go_wp2_with fail
          refine (HKf.out _).mono ?_
          rintro e w5 ⟨rfl, rfl⟩
          have HC := Lib.hid (p_cut SI4.out (by omega) (by omega) (F : Int) 0)
          have U2 := Lib.hid (UI.out.cut hf4)
          obtain ⟨r, hr⟩ : ∃ r, r = onF (F : Int) d fun i => d.cut i 0 := ⟨_, rfl⟩
          rw [← hr] at HC U2
          clear hr
          go_wp2_with fail
          refine HC.out.mono ?_
          rintro e w6 ⟨rfl, T6, -, S7⟩
          have S8 := Lib.hid S7
          clear S7 HC
          go_wp2_with fail
          go_meet
          exact ⟨T6, r.2, r.1, rfl, S8.out, U2.out⟩
      obtain ⟨T5, d5, e5, rfl, S5, U5⟩ := hcut
      have SI5 := Lib.hid S5
      have UF := Lib.hid U5.fu
      have US := U5.does
      clear S5 U5 SI4 R4 SB4 HKf
      rcases US with ⟨rfl, hn, hdn2, hoff⟩ | ⟨rfl, hn, hdn2, hoff⟩
      · have hd3 : decide ((d.n : Int) < (k : Int)) = true := by simp; omega
        have HST := Lib.hid (p_steps SI5.out)
        have HON := Lib.hid (p_on SI5.out)
        rw [hdn2, Int.natCast_add, Int.natCast_one] at HST
        rw [hoff] at HON
        have HDN := Lib.hid hdn2
        clear hdn2 hoff hdn
        go_wp2_with fail
        refine HST.out.mono ?_
        rintro e w6 ⟨rfl, rfl⟩
        go_wp2_with fail
        refine HON.out.mono ?_
        rintro e w6 ⟨rfl, rfl⟩
        go_wp2_with fail
        exact ⟨⟨i + 1, T5, d5, by omega, by omega, by rw [HDN.out]; push_cast; rfl, by push_cast; rfl, SI5.out, UF.out⟩, by simp [intOf]; omega⟩
      · have hd3 : decide ((d.n : Int) < (k : Int)) = false := by simp; omega
        have HST := Lib.hid (p_steps SI5.out)
        have HON := Lib.hid (p_on SI5.out)
        rw [hdn2] at HST
        rw [hoff] at HON
        have HDN := Lib.hid hdn2
        clear hdn2 hoff hdn
        go_wp2_with fail
        refine HST.out.mono ?_
        rintro e w6 ⟨rfl, rfl⟩
        go_wp2_with fail
        refine HON.out.mono ?_
        rintro e w6 ⟨rfl, rfl⟩
        go_wp2_with fail
        exact ⟨⟨i + 1, T5, d5, by omega, by omega, by rw [HDN.out], by push_cast; rfl, SI5.out, UF.out⟩, by simp [intOf]; omega⟩
    · have HC := Lib.hid (p_boot SI.out (by omega) (by omega) (A := none) (n := 0) (c := 0) (a := fun _ => 0) ⟨⟨Nat.le_refl _, fun e => by omega⟩, fun e => by omega, fun j hj => by omega⟩)
      have hlv := live_boot d (pck (fun _ => 0) 0)
      have hnn : (d.boot (pck (fun _ => 0) 0)).n = d.n := rfl
      obtain ⟨d2, hd2'⟩ : ∃ d2, d2 = d.boot (pck (fun _ => 0) 0) := ⟨_, rfl⟩
      rw [← hd2'] at hlv hnn HC
      have HV := Lib.hid hlv
      have HN := Lib.hid hnn
      clear hd2' hlv hnn UI SI
      by_cases hk1 : i < n1
      case' pos =>
        have hd3 : decide ((i : Int) < (n1 : Int)) = true := by simp; omega
        have hd4 : decide ((i : Int) < 60) = false := by simp; omega
      case' neg =>
        have hd3 : decide ((i : Int) < (n1 : Int)) = false := by simp; omega
      all_goals
        go_wp2_with fail
        refine HC.out.mono ?_
        rintro e w3 ⟨rfl, T3, -, S3⟩
        have SS3 := Lib.hid S3
        have HON := Lib.hid (p_on SS3.out)
        rw [HV.out.off] at HON
        have HSY := Lib.hid (p_sync SS3.out (by omega) (by have := HN.out; omega) ((0 : Nat) : Int))
        rw [on_in 0 (by omega), sync_live HV.out 0] at HSY
        have HBL := Lib.hid SS3.out.bel
        clear S3 HC
        go_wp2_with fail
        refine HON.out.mono ?_
        rintro e w4 ⟨rfl, rfl⟩
        go_wp2_with fail
        refine HSY.out.mono ?_
        rintro e w4 ⟨rfl, T4, -, S4⟩
        have HB4 := Lib.hid S4.bel
        clear S4 HSY HON
        go_wp2_with fail
        go_ret
        exact ⟨rfl, HB4.out⟩

set_option maxRecDepth 100000 in
theorem lifted (os : Os) (started : os.Started) (H : Type) (enc : TypeId × Value → H) :
    ReturnsInHanded {} Try.checked os 5 .any (Rows.diskFuseSpec.pre6 enc Try.prog Try.f5 Rows.diskFuseRow.domain false) (Rows.diskFuseSpec.post enc Try.prog Try.f5 false true false false) := by
  refine returnsInHanded_of_change (C := Try.checked) own started (by kernel_rfl) Try.func5
    (ChangeSpec.witness6 (enc := enc) (C := Try.checked) false ⟨#[], #[.int .i64 0, .slice none 0 0], []⟩ 8 (by kernel_rfl) (by kernel_rfl) (by kernel_rfl) (by kernel_rfl)) ?_
  intro W base args ds gs before hval0 hW hcnd _
  have hval : ∀ (j : Nat) t v, Try.f5.params[j]? = some t → args[j]? = some v → Value.okWide Try.prog W .any base t v := hval0
  have hW' := hW
  obtain ⟨p, q, hA0, hV, rfl, hfz, hnd⟩ := hW
  have hA : DataW.TrodAll enc Try.prog W 0 (fun _ => true) true Try.f5.params.toList args.toList ds p := hA0
  rw [Try.params5] at hA hval
  obtain ⟨v0, vs0, d0, ds0, p0, q0, hargs, rfl, rfl, h0, r0⟩ := trodAll_cons hA
  obtain ⟨v1, vs1, d1, ds1, p1, q1, rfl, rfl, rfl, h1, r1⟩ := trodAll_cons r0
  obtain ⟨rfl, rfl, rfl⟩ := trodAll_nil r1
  obtain rfl : args = #[v0, v1] := by cases args; simp_all
  obtain ⟨rfl, rfl⟩ := trodVars_none hV
  obtain ⟨a0, rfl, rfl, rfl, w0⟩ := open_int Try.underlying3 (hval 0 3 v0 rfl rfl) h0
  have k1 := h1
  have lt1 : ∀ x ∈ p1, x.block < W.heap.size := by obtain ⟨m, hm⟩ := k1; exact DataW.trod_lt m _ _ _ hm
  obtain ⟨A1, n1, c1, X1, rfl, hl1⟩ := open_ops (hval 1 22 v1 rfl rfl) h1
  clear hA0 hval0
  refine (walk a0 n1 c1 A1 X1 W w0 hl1).mono fun e W' ⟨he, bel⟩ => ?_
  subst he
  exact ⟨_, rfl, _, _, _, [], _, [], hW', trodAll_mk1 (shut_bool Try.underlying4 _), (trodAll_cons_mk (shut_int Try.underlying3 w0) (trodAll_cons_mk (Below.trod laidOut (by kernel_rfl) (of_decide_eq_true (by kernel_rfl)) k1 bel lt1) trodAll_mk0)), rfl, bel.frame _, fun h => by cases h⟩

theorem over : Rows.diskFuseRow.holds Try.pinned (OpenSpec.ofChange Rows.diskFuseSpec) :=
  OpenClaim.holds_of_wide 5 Try.f5 rfl rfl rfl rfl rfl rfl rfl ⟨rfl, rfl, rfl, rfl, rfl⟩ rfl rfl rfl rfl rfl (by kernel_rfl) Try.func5 (by kernel_rfl)
    (of_decide_eq_true (by kernel_rfl)) (by unfold Func.isWrapper; first | (rw [if_pos (by decide +kernel)]; kernel_rfl) | (rw [if_neg (by decide +kernel)]; exact ⟨rfl, rfl⟩))
    (fun os started H enc _ => lifted os started H enc)

theorem proved : Rows.DiskFuseSaid := over
#print axioms proved
end Go.Proofs.Ythdhbjfenanbnaa.diskFuse
