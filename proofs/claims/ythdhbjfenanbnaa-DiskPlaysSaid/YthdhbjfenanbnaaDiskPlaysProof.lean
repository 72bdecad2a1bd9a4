/- The statement DiskPlays: the law strongroomlaw10.DiskPlays answers true for every input, and leaves its arguments as they were. No further condition. -/
import Derived.Test.YthdhbjfenanbnaaRows
import Derived.Test.YthdhbjfenanbnaaLib
import Derived.Test.YthdhbjfenanbnaaDkZg
namespace Go.Proofs.Ythdhbjfenanbnaa.diskPlays
open Go.ChangeShapes Go.WideShapes Go.ChangeAt Go.RowKit
open Go.Proofs.Ythdhbjfenanbnaa.Oct
set_option linter.unusedVariables false

theorem own : ownKnob Try.prog.godebug = none := by kernel_rfl
theorem laidOut : laidOutB Try.prog = true := by kernel_rfl

set_option maxRecDepth 20000 in
set_option maxHeartbeats 8000000 in
theorem walk (n0 c0 : Nat) (A0 : Option Addr) (X0 : Nat → OpM) (w : World) (hl0 : OpsSl w w.heap.size A0 n0 c0 X0) :
    Calls Try.prog 3 #[.slice A0 n0 c0] w fun e w' => e = .returned (.bool true) ∧ Below w.heap.size w w' := by
  have HL := Lib.hid hl0
  have hnc : n0 ≤ 9223372036854775807 := by have := hl0.le; have := hl0.big; unfold maxLen at this; omega
  clear hl0
  go_enter Try.func3, Try.ntmps3
  go_wp2_with fail
  refine (shown_any w).mono ?_
  rintro e w1 ⟨rfl, hb1⟩
  have HC := Lib.hid (p_new (W := w) (T := fun _ => 0) (fun _ _ => rfl) hb1 10)
  clear hb1
  go_wp2_with fail
  refine HC.out.mono ?_
  rintro e w2 ⟨rfl, -, S2⟩
  have SS := Lib.hid S2
  clear S2 HC
  obtain ⟨T2, hT2⟩ : ∃ T2, T2 = paint (fun _ => 0) w1.heap.size 10 := ⟨_, rfl⟩
  obtain ⟨B, hB⟩ : ∃ B, B = w1.heap.size := ⟨_, rfl⟩
  rw [← hT2, ← hB] at SS
  rw [← hB]
  clear hT2 hB
  have HC := Lib.hid (rnew_any T2 30 w2)
  go_wp2_with fail
  refine HC.out.mono ?_
  rintro e w3 ⟨rfl, b3, R3⟩
  have SP := Lib.hid (show Sp w (paint T2 w2.heap.size 30) w3 10 B w2.heap.size newD newD from ⟨SS.out.calm b3 30, R3, SS.out.ok, by omega, by omega⟩)
  obtain ⟨T3, hT3⟩ : ∃ T3, T3 = paint T2 w2.heap.size 30 := ⟨_, rfl⟩
  obtain ⟨R, hR⟩ : ∃ R, R = w2.heap.size := ⟨_, rfl⟩
  rw [← hT3, ← hR] at SP
  rw [← hR]
  clear hT3 hR b3 R3 HC SS
  go_wp2_with fail
  go_loopw [4, 6] (fun dv iv wr => ∃ (i : Nat) (T : Mk) (t B : Nat) (d : Dk), i ≤ n0 ∧ i ≤ 80 ∧ dv = .pointer (some ⟨B, 0, none⟩) ∧ iv = .int .i64 (i : Int) ∧ Sp w T wr t B R d d ∧ (t = 10 ∨ t = 20) ∧ d.n ≤ i) (fun _ iv _ => n0 - (intOf iv).toNat)
  case atStart => exact ⟨0, T3, 10, B, newD, by omega, by omega, rfl, rfl, SP.out, .inl rfl, Nat.le_refl _⟩
  case round =>
    clear SP
    obtain ⟨i, T, t, B, d, hi, hi80, rfl, rfl, S, ht, hdn⟩ := hrel
    obtain ⟨wo, rfl⟩ : ∃ wo : World, wo = wr := ⟨_, rfl⟩
    have SI := Lib.hid S
    clear S
    by_cases hlt : i < n0 ∧ i < 80
    · have hd1 : decide ((i : Int) < (n0 : Int)) = true := by simp; omega
      have hd2 : decide ((i : Int) < 80) = true := by simp; omega
      obtain ⟨gl, ol, A1, c1, A2, c2, hA1, hgl, q00, hsb, hmb, hsi⟩ := HL.out.at_ i hlt.1
      obtain ⟨xk, -, xz, xp⟩ := HL.out.wf i hlt.1
      subst hA1
      obtain ⟨x, hx⟩ : ∃ x, x = X0 i := ⟨_, rfl⟩
      rw [← hx] at q00 hsb hsi xk xz xp
      have Q00 := Lib.hid q00
      have SB := Lib.hid hsb
      have MB := Lib.hid hmb
      have SL := Lib.hid hsi
      have XK := Lib.hid xk
      have XZ := Lib.hid xz
      have XP := Lib.hid xp
      clear hsb hmb xk xz xp hsi hx q00
      have q0 : wo.cell? ⟨gl, ol + i * 5, none⟩ = some (.int .i64 x.k) := by
        have h := (SI.out.sn.bel.cell (p := ⟨gl, ol + i * 5 + 0, none⟩) hgl).trans (Q00.out 0 (by omega))
        rw [Nat.add_zero] at h
        rw [h]; unfold opC; rfl
      have HK := Lib.hid (kind_any x.k 8 XK.out (by omega) (by omega) wo)
      rw [show ((8 : Nat) : Int) = 8 from rfl] at HK
      go_wp2_with fail
      refine HK.out.mono ?_
      rintro e w1' ⟨rfl, rfl⟩
      obtain ⟨q, hq⟩ : ∃ q, q = knd x.k 8 := ⟨_, rfl⟩
      rw [← hq]
      clear hq HK q0
      go_upto_if 40 with fail
      go_cut [4, 7] from 41 to 51 (fun dv ov wx => ∃ (T : Mk) (t B : Nat), dv = .pointer (some ⟨B, 0, none⟩) ∧ Sp w T wx t B R d d ∧ (t = 10 ∨ t = 20))
      case first =>
        by_cases he : q = 7
        · have hd5 : ((q : Int) == 7) = true := by simp; omega
          have hd6 : decide ((q : Int) = 7) = true := by simp; omega
          have hd7 : decide (q = 7) = true := by simpa using he
          have HC := Lib.hid (s_clone SI.out ht (by omega))
          subst he
          go_wp2_with fail
          refine HC.out.mono ?_
          rintro e w4 ⟨T4, B4, rfl, S4⟩
          have SO4 := Lib.hid S4
          clear S4 HC SI
          go_wp2_with fail
          obtain ⟨w5, hw5, S5, L5⟩ := SO4.out.lit lit_anw 5 (11, 12)
          rw [← hw5]
          have SO5 := Lib.hid S5
          have LL5 := Lib.hid L5
          clear hw5 S5 L5 SO4
          have tp : 0 < t := by omega
          have un := onF_steps (f := 0) (d := d) (g := fun i => d.app i anw) (fun i => app_steps d i anw)
          have HC := Lib.hid (p_append SO5.out.old tp (by omega) (b := anw) (f := 0) rfl LL5.out (by decide))
          obtain ⟨r, hr⟩ : ∃ r, r = onF 0 d fun i => d.app i anw := ⟨_, rfl⟩
          rw [← hr] at HC un
          clear hr
          refine HC.out.mono ?_
          rintro e w6 ⟨rfl, T6, f6, S6⟩
          have SO6 := Lib.hid (SO5.out.step f6 S6)
          clear f6 S6 HC SO5 LL5
          have HC := Lib.hid (p_boot SO6.out.old tp (by omega) (A := none) (n := 0) (c := 0) (a := fun _ => 0) ⟨⟨Nat.le_refl _, fun e => by omega⟩, fun e => by omega, fun j hj => by omega⟩)
          go_wp2_with fail
          refine HC.out.mono ?_
          rintro e w7 ⟨rfl, T7, f7, S7⟩
          have SO7 := Lib.hid (SO6.out.step f7 S7)
          clear f7 S7 HC SO6
          go_wp2_with fail
          go_meet
          exact ⟨T7, oth t, B4, rfl, SO7.out.sp, by unfold oth; omega⟩
        · have hd5 : ((q : Int) == 7) = false := by simp; omega
          have hd6 : decide ((q : Int) = 7) = false := by simp; omega
          have hd7 : decide (q = 7) = false := by simpa using he
          go_wp2_with fail
          go_meet
          exact ⟨T, t, B, rfl, SI.out, ht⟩
      obtain ⟨T5, t5, B5, rfl, S5, ht5⟩ := hcut
      have SI5 := Lib.hid S5
      have q1 := op_lw (w := wc) (g := gl) (o := ol + i * 5) (fun j hj => (S5.sn.bel.cell (p := ⟨gl, ol + i * 5 + j, none⟩) hgl).trans (Q00.out j hj))
      have HC := Lib.hid (does_any w T5 t5 B5 R d x A1 A2 c1 c2 wc S5 (by omega) XK.out XZ.out XP.out SB.out MB.out SL.out)
      clear S5 SI Q00
      go_wp2_with fail
      refine HC.out.mono ?_
      rintro e w6 ⟨rfl, T6, d6, S6, hd6n⟩
      have SI6 := Lib.hid S6
      clear S6 HC SI5 q1
      go_wp2_with fail
      refine flow_seen [([0, 1, 2, 3, 5, 6, 7, 8], 4, false), ([9, 10, 11, 12, 14, 15, 16, 17], 13, false)] [18, 19] (by kernel_rfl) (by kernel_rfl) (fun _ _ _ _ _ h => h) fun X => ?_
      have SI7 := Lib.hid (SI6.out.calm X.below 0)
      obtain ⟨w7, hw7⟩ : ∃ w7, w7 = X.val := ⟨_, rfl⟩
      obtain ⟨T7, hT7⟩ : ∃ T7, T7 = paint T6 w6.heap.size 0 := ⟨_, rfl⟩
      rw [← hw7, ← hT7] at SI7
      rw [← hw7]
      clear hw7 hT7 X SI6
      obtain ⟨V, hr, -, -⟩ := SI7.out.rk.row
      have HR := Lib.hid hr
      clear hr
      have e1 : ∀ y : After w7, y.val.cell? ⟨R, 8, none⟩ = some (.bool d6.off) := fun y => (rk_cells (After.row HR.out y)).1
      have e2 : ∀ y : After w7, y.val.cell? ⟨R, 10, none⟩ = some (.int .i64 (d6.n : Int)) := fun y => (rk_cells (After.row HR.out y)).2.2
      simp only [wpFs, pk, List.getElem?_cons_zero, List.getElem?_cons_succ]
      repeat (go_big_quiet_step (fail))
      refine wpQuiet_nil ?_
      go_wp2_with fail
      refine (p_on SI7.out.sn).mono ?_
      rintro e w' ⟨rfl, rfl⟩
      go_wp2_with fail
      first | refine ⟨.inr (Below.refl _ _), ?_⟩ | refine ⟨Below.refl _ _, ?_⟩
      show wpQuiet _ _ _ _ _ _
      have hoo : ((!d6.off) == d6.off) = false := by cases d6.off <;> rfl
      repeat (go_big_quiet_step (fail))
      refine wpQuiet_nil ?_
      clear e1
      go_wp2_with fail
      refine (p_steps SI7.out.sn).mono ?_
      rintro e w' ⟨rfl, rfl⟩
      go_wp2_with fail
      first | refine ⟨.inr (Below.refl _ _), ?_⟩ | refine ⟨Below.refl _ _, ?_⟩
      show wpQuiet _ _ _ _ _ _
      repeat (go_big_quiet_step (fail))
      refine wpQuiet_nil ?_
      clear e2 hoo HR
      go_wp2_with fail
      go_loopw [9] (fun fv wr => ∃ (j : Nat) (T : Mk), j ≤ 6 ∧ fv = .int .i64 ((j : Int) - 1) ∧ Sp w T wr t5 B5 R d6 d6) (fun fv _ => 6 - (intOf fv + 1).toNat)
      case atStart => exact ⟨0, T7, by omega, rfl, SI7.out⟩
      case round =>
        clear SI7
        obtain ⟨j, T, hj, rfl, S⟩ := hrel
        obtain ⟨wo, rfl⟩ : ∃ wo : World, wo = wr := ⟨_, rfl⟩
        have SI := Lib.hid S
        clear S
        obtain ⟨f, hf⟩ : ∃ f : Int, f = (j : Int) - 1 := ⟨_, rfl⟩
        rw [← hf]
        have HF := Lib.hid hf
        have hf1 : -1 ≤ f := by omega
        have hf2 : f ≤ 5 := by omega
        by_cases hf4 : j < 6
        · have hd3 : decide (f < 5) = true := by simp; omega
          clear hf
          have HC := Lib.hid (s_read SI.out (by omega) f 61)
          go_wp2_with fail
          refine HC.out.mono ?_
          rintro e w8 ⟨v8, rfl, o8, -, S8⟩
          have D8 := Lib.hid o8
          have SI8 := Lib.hid S8
          obtain ⟨T8, hT8⟩ : ∃ T8, T8 = paint T wo.heap.size 61 := ⟨_, rfl⟩
          rw [← hT8] at D8 SI8
          clear hT8 o8 S8 HC SI
          obtain ⟨A8, c8, rfl, r8, -⟩ := D8.out.rd
          have HC := Lib.hid (y_read SI8.out (by omega) f 62)
          obtain ⟨z, hz⟩ : ∃ z, z = d6.read f := ⟨_, rfl⟩
          rw [← hz] at D8 HC r8 ⊢
          have R8 := Lib.hid r8
          clear hz r8
          go_wp2_with fail
          refine HC.out.mono ?_
          rintro e w9 ⟨v9, rfl, o9, b9, S9⟩
          obtain ⟨A9, c9, rfl, r9, -⟩ := o9.rd
          have SI9 := Lib.hid S9
          have D9 := Lib.hid (D8.out.fr (Fr.new (H := fun _ => False) b9 62) (fun e => e))
          have cv1 := (R8.out.fr (Fr.new (H := fun _ => False) b9 62) (fun e => e)).conv
          have cv2 := r9.conv
          obtain ⟨T9, hT9⟩ : ∃ T9, T9 = paint T8 w8.heap.size 62 := ⟨_, rfl⟩
          rw [← hT9] at SI9 D9
          clear hT9 o9 b9 r9 S9 HC SI8 R8 D8
          go_wp2_with fail
          have hN : z.2.length ≤ maxLen := by
            obtain ⟨A', c', e', r', hm'⟩ := D9.out.rd
            exact Nat.le_trans r'.sl.le hm'
          unfold maxLen at hN
          have OO := Lib.hid D9.out.own
          have TT := Lib.hid D9.out.tg
          obtain ⟨N, hNe⟩ : ∃ N, N = z.2.length := ⟨_, rfl⟩
          rw [← hNe] at OO TT hN ⊢
          clear hNe D9
          go_loopw [14] (fun kv wr => ∃ (k : Nat) (T : Mk) (g : Bf), k ≤ N ∧ kv = .int .i64 (k : Int) ∧ Sp w T wr t5 B5 R d6 d6 ∧ Own wr 0 5 (.slice A8 N c8) N g ∧ ∀ b, (Value.slice A8 N c8).ownBlock = some b → T b = 61) (fun kv _ => N - (intOf kv).toNat)
          case atStart => exact ⟨0, T9, _, by omega, rfl, SI9.out, OO.out, TT.out⟩
          case round =>
            clear SI9 OO TT
            obtain ⟨k, T, g, hk, rfl, S, O, tg⟩ := hrel
            obtain ⟨wo, rfl⟩ : ∃ wo : World, wo = wr := ⟨_, rfl⟩
            have SI := Lib.hid S
            have OI := Lib.hid O
            have TI := Lib.hid tg
            clear S O tg
            by_cases hlt : k < N
            · have hd4 : decide ((k : Int) < (N : Int)) = true := by simp; omega
              obtain ⟨A', c', e', hs', -, hA'⟩ := OI.out.sl
              cases e'
              obtain ⟨g6, hg6, -⟩ : ∃ g2, A8 = some ⟨g2, 0, none⟩ ∧ 0 ≤ g2 := by
                rcases hA' with rfl | h
                · obtain ⟨_, _, e, _⟩ := hs'.at_ (by omega); cases e
                · exact h
              subst hg6
              obtain ⟨fz, cl, o2⟩ := OI.out.set (g := g6) (i := k) (x := 98#8) rfl hlt
              have O2 := Lib.hid o2
              have F2 := Lib.hid (Fr.cell (T := T) (w := wo) (H := fun y => y = 61) (a := ⟨g6, k, none⟩) (TI.out g6 rfl) (.int .u8 (I 98#8)))
              have S2 := Lib.hid (SI.out.other F2.out (fun c hc => by omega))
              clear o2 hs' hA'
              go_wp2_with fail
              exact ⟨⟨k + 1, T, _, by omega, by push_cast; rfl, S2.out, O2.out, TI.out⟩, by simp [intOf]; omega⟩
            · have hd4 : decide ((k : Int) < (N : Int)) = false := by simp; omega
              clear OI TI
              go_wp2_with fail
              exact ⟨⟨j + 1, T, by omega, by rw [HF.out]; push_cast; congr 1; omega, SI.out⟩, by have := HF.out; simp [intOf]; omega⟩
        · have hd3 : decide (f < 5) = false := by simp; omega
          clear hf
          go_wp2_with fail
          exact ⟨⟨i + 1, T, t5, B5, d6, by omega, by omega, rfl, by push_cast; rfl, SI.out, ht5, by omega⟩, by simp [intOf]; omega⟩
    · have HBL := Lib.hid SI.out.sn.bel
      by_cases hk1 : i < n0
      case' pos =>
        have hd3 : decide ((i : Int) < (n0 : Int)) = true := by simp; omega
        have hd4 : decide ((i : Int) < 80) = false := by simp; omega
      case' neg =>
        have hd3 : decide ((i : Int) < (n0 : Int)) = false := by simp; omega
      all_goals
        go_wp2_with fail
        go_ret
        exact ⟨rfl, HBL.out⟩

set_option maxRecDepth 100000 in
theorem lifted (os : Os) (started : os.Started) (H : Type) (enc : TypeId × Value → H) :
    ReturnsInHanded {} Try.checked os 3 .any (Rows.diskPlaysSpec.pre6 enc Try.prog Try.f3 Rows.diskPlaysRow.domain false) (Rows.diskPlaysSpec.post enc Try.prog Try.f3 false true false false) := by
  refine returnsInHanded_of_change (C := Try.checked) own started (by kernel_rfl) Try.func3
    (ChangeSpec.witness6 (enc := enc) (C := Try.checked) false ⟨#[], #[.slice none 0 0], []⟩ 8 (by kernel_rfl) (by kernel_rfl) (by kernel_rfl) (by kernel_rfl)) ?_
  intro W base args ds gs before hval0 hW hcnd _
  have hval : ∀ (j : Nat) t v, Try.f3.params[j]? = some t → args[j]? = some v → Value.okWide Try.prog W .any base t v := hval0
  have hW' := hW
  obtain ⟨p, q, hA0, hV, rfl, hfz, hnd⟩ := hW
  have hA : DataW.TrodAll enc Try.prog W 0 (fun _ => true) true Try.f3.params.toList args.toList ds p := hA0
  rw [Try.params3] at hA hval
  obtain ⟨v0, vs0, d0, ds0, p0, q0, hargs, rfl, rfl, h0, r0⟩ := trodAll_cons hA
  obtain ⟨rfl, rfl, rfl⟩ := trodAll_nil r0
  obtain rfl : args = #[v0] := by cases args; simp_all
  obtain ⟨rfl, rfl⟩ := trodVars_none hV
  have k0 := h0
  have lt0 : ∀ x ∈ p0, x.block < W.heap.size := by obtain ⟨m, hm⟩ := k0; exact DataW.trod_lt m _ _ _ hm
  obtain ⟨A0, n0, c0, X0, rfl, hl0⟩ := open_ops (hval 0 22 v0 rfl rfl) h0
  clear hA0 hval0
  refine (walk n0 c0 A0 X0 W hl0).mono fun e W' ⟨he, bel⟩ => ?_
  subst he
  exact ⟨_, rfl, _, _, _, [], _, [], hW', trodAll_mk1 (shut_bool Try.underlying4 _), (trodAll_cons_mk (Below.trod laidOut (by kernel_rfl) (of_decide_eq_true (by kernel_rfl)) k0 bel lt0) trodAll_mk0), rfl, bel.frame _, fun h => by cases h⟩

theorem over : Rows.diskPlaysRow.holds Try.pinned (OpenSpec.ofChange Rows.diskPlaysSpec) :=
  OpenClaim.holds_of_wide 3 Try.f3 rfl rfl rfl rfl rfl rfl rfl ⟨rfl, rfl, rfl, rfl, rfl⟩ rfl rfl rfl rfl rfl (by kernel_rfl) Try.func3 (by kernel_rfl)
    (of_decide_eq_true (by kernel_rfl)) (by unfold Func.isWrapper; first | (rw [if_pos (by decide +kernel)]; kernel_rfl) | (rw [if_neg (by decide +kernel)]; exact ⟨rfl, rfl⟩))
    (fun os started H enc _ => lifted os started H enc)

theorem proved : Rows.DiskPlaysSaid := over
#print axioms proved
end Go.Proofs.Ythdhbjfenanbnaa.diskPlays
