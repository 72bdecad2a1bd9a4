/- The statement DiskFiles: the law strongroomlaw10.DiskFiles answers true for every input, and leaves its arguments as they were. No further condition. -/
import Derived.Test.YthdhbjfenanbnaaRows
import Derived.Test.YthdhbjfenanbnaaLib
import Derived.Test.YthdhbjfenanbnaaDkY
namespace Go.Proofs.Ythdhbjfenanbnaa.diskFiles
open Go.ChangeShapes Go.WideShapes Go.ChangeAt Go.RowKit
open Go.Proofs.Ythdhbjfenanbnaa.Oct
set_option linter.unusedVariables false

theorem own : ownKnob Try.prog.godebug = none := by kernel_rfl
theorem laidOut : laidOutB Try.prog = true := by kernel_rfl

set_option maxRecDepth 20000 in
set_option maxHeartbeats 8000000 in
theorem walk (n0 c0 : Nat) (A0 : Option Addr) (X0 : Nat → OpM) (w : World) (hl0 : OpsSl w w.heap.size A0 n0 c0 X0) :
    Calls Try.prog 6 #[.slice A0 n0 c0] w fun e w' => e = .returned (.bool true) ∧ Below w.heap.size w w' := by
  have HL := Lib.hid hl0
  have hnc : n0 ≤ 9223372036854775807 := by have := hl0.le; have := hl0.big; unfold maxLen at this; omega
  clear hl0
  go_enter Try.func6, Try.ntmps6
  go_wp2_with fail
  refine (shown_any w).mono ?_
  rintro e w1 ⟨rfl, hb1⟩
  have HC := Lib.hid (p_new (W := w) (T := fun _ => 0) (fun _ _ => rfl) hb1 1)
  clear hb1
  go_wp2_with fail
  refine HC.out.mono ?_
  rintro e w2 ⟨rfl, -, S2⟩
  have SS := Lib.hid S2
  clear S2 HC
  obtain ⟨T2, hT2⟩ : ∃ T2, T2 = paint (fun _ => 0) w1.heap.size 1 := ⟨_, rfl⟩
  obtain ⟨B, hB⟩ : ∃ B, B = w1.heap.size := ⟨_, rfl⟩
  rw [← hT2, ← hB] at SS
  rw [← hB]
  clear hT2 hB
  go_wp2_with fail
  go_loopw [5] (fun iv wr => ∃ (i : Nat) (T : Mk) (d : Dk), i ≤ n0 ∧ i ≤ 80 ∧ iv = .int .i64 (i : Int) ∧ Sn w T wr 1 B d ∧ d.live ∧ d.n ≤ i) (fun iv _ => n0 - (intOf iv).toNat)
  case atStart => exact ⟨0, T2, newD, by omega, by omega, rfl, SS.out, live_new, Nat.le_refl _⟩
  case round =>
    clear SS
    obtain ⟨i, T, d, hi, hi80, rfl, S, L, hdn⟩ := hrel
    obtain ⟨wo, rfl⟩ : ∃ wo : World, wo = wr := ⟨_, rfl⟩
    have SI := Lib.hid S
    have LI := Lib.hid L
    clear S L
    by_cases hlt : i < n0 ∧ i < 80
    · have hd1 : decide ((i : Int) < (n0 : Int)) = true := by simp; omega
      have hd2 : decide ((i : Int) < 80) = true := by simp; omega
      obtain ⟨gl, ol, A1, c1, A2, c2, hA1, hgl, q00, hsb, hmb, -⟩ := HL.out.at_ i hlt.1
      have q0 := fun (j : Nat) (hj : j < 5) => (SI.out.bel.cell (p := ⟨gl, ol + i * 5 + j, none⟩) hgl).trans (q00 j hj)
      obtain ⟨xk, xf, xz, -⟩ := HL.out.wf i hlt.1
      subst hA1
      have SB0 := Lib.hid hsb
      have MB := Lib.hid hmb
      have XK := Lib.hid xk
      have XF := Lib.hid xf
      have hsl := hsb.le
      have zo := SI.out.bel.size
      obtain ⟨x, hx⟩ : ∃ x, x = X0 i := ⟨_, rfl⟩
      rw [← hx] at SB0 XK XF q0 hsl
      have q1 := op_lw q0
      have q2 := fun (c : Array Value) (hc : c.size = 5) => op_sw (x := x) (u := .slice A1 x.b.length c1) (v := .slice A2 x.m c2) (row_alloc_at wo c 32 wo.heap.size rfl) hc rfl rfl
      clear hsb hmb xk xf q0 q00 hx xz
      go_wp2_with fail
      have b4 : Below wo.heap.size wo (wo.alloc (.cells (opC x (.slice A1 x.b.length c1) (.slice A2 x.m c2)) 32)) := (Below.refl _ _).alloc (Nat.le_refl _) _
      have r4 := row_alloc_at wo (opC x (.slice A1 x.b.length c1) (.slice A2 x.m c2)) 32 wo.heap.size rfl
      have SI4 := Lib.hid (SI.out.calm b4 0)
      have z4 : (wo.alloc (.cells (opC x (.slice A1 x.b.length c1) (.slice A2 x.m c2)) 32)).heap.size = wo.heap.size + 1 := by simp
      have t4 : paint T wo.heap.size 0 wo.heap.size = 0 := paint_new (Nat.le_refl _)
      obtain ⟨w4, hw4⟩ : ∃ w4, w4 = wo.alloc (.cells (opC x (.slice A1 x.b.length c1) (.slice A2 x.m c2)) 32) := ⟨_, rfl⟩
      obtain ⟨T4, hT4⟩ : ∃ T4, T4 = paint T wo.heap.size 0 := ⟨_, rfl⟩
      rw [← hw4] at r4 SI4 z4 ⊢
      rw [← hT4] at SI4 t4
      rw [← z4]
      have b5 : Below w4.heap.size w4 (w4.alloc (.cells #[] 9)) := (Below.refl _ _).alloc (Nat.le_refl _) _
      have SI5 := Lib.hid (SI4.out.calm b5 40)
      have R5 := Lib.hid (carry b5 r4)
      have O5 := Lib.hid (OwV.empty T4 w4 40 9)
      have t5 : paint T4 w4.heap.size 40 wo.heap.size = 0 := by rw [paint_old (by omega)]; exact t4
      obtain ⟨w5, hw5⟩ : ∃ w5, w5 = w4.alloc (.cells #[] 9) := ⟨_, rfl⟩
      obtain ⟨T5, hT5⟩ : ∃ T5, T5 = paint T4 w4.heap.size 40 := ⟨_, rfl⟩
      obtain ⟨Z, hZ⟩ : ∃ Z, Z = wo.heap.size := ⟨_, rfl⟩
      obtain ⟨Y, hY⟩ : ∃ Y, Y = w4.heap.size := ⟨_, rfl⟩
      rw [← hw5] at SI5 R5 O5 ⊢
      rw [← hT5] at SI5 O5 t5
      rw [← hZ] at R5 t5 ⊢
      rw [← hY] at O5 ⊢
      have TZ := Lib.hid t5
      have z5 := SI5.out.bel.size
      clear hw5 hT5 hw4 hT4 hZ hY b5 b4 r4 t4 t5 z4 SI SI4 q1 q2
      go_loopw [7, 8] (fun av fv wr => ∃ (f : Nat) (T : Mk), f ≤ 4 ∧ fv = .int .i64 (f : Int) ∧ Sn w T wr 1 B d ∧ row wr Z = some (opC x (.slice A1 x.b.length c1) (.slice A2 x.m c2)) ∧ T Z = 0 ∧ OwV T wr 40 9 av (ah d f)) (fun _ fv _ => 4 - (intOf fv).toNat)
      case atStart => exact ⟨0, T5, by omega, rfl, SI5.out, R5.out, TZ.out, O5.out⟩
      case round =>
        clear SI5 R5 TZ O5
        obtain ⟨f, T, hf, rfl, S, hr, ht, ho⟩ := hrel
        obtain ⟨wo, rfl⟩ : ∃ wo : World, wo = wr := ⟨_, rfl⟩
        have SI := Lib.hid S
        have RI := Lib.hid hr
        have TI := Lib.hid ht
        have OI := Lib.hid ho
        clear S hr ht ho
        by_cases hf4 : f < 4
        · have hd3 : decide ((f : Int) < 4) = true := by simp; omega
          have HC := Lib.hid (p_read SI.out (by omega) (f : Int) 50)
          rw [read_live LI.out.off f hf4] at HC
          go_wp2_with fail
          refine HC.out.mono ?_
          rintro e w6 ⟨v6, rfl, o6, b6, S6⟩
          obtain ⟨A6, c6, rfl, r6, -⟩ := o6.rd
          have zo := row_lt RI.out
          have S6' := Lib.hid S6
          have f6 := Fr.new (T := T) (H := fun _ => False) b6 50
          have R6 := Lib.hid (carry b6 RI.out)
          have T6 := Lib.hid (show paint T wo.heap.size 50 Z = 0 by rw [paint_old zo]; exact TI.out)
          have O6 := Lib.hid (OI.out.fr f6 (fun e => e))
          have cv := r6.conv
          clear S6 o6 b6 r6 f6 HC SI RI TI OI
          have b7 : Below w6.heap.size w6 (w6.alloc (.cells #[.string (str (d.f f).all)] 9)) := (Below.refl _ _).alloc (Nat.le_refl _) _
          have f7 := Lib.hid (Fr.new (T := paint T wo.heap.size 50) (H := fun _ => False) b7 50)
          have S7 := Lib.hid (S6'.out.calm b7 50)
          have R7 := Lib.hid (carry b7 R6.out)
          have T7 := Lib.hid (show paint (paint T wo.heap.size 50) w6.heap.size 50 Z = 0 by rw [paint_old (row_lt R6.out)]; exact T6.out)
          have O7 := Lib.hid (O6.out.fr f7.out (fun e => e))
          have E7 := Lib.hid (row_alloc_at w6 #[.string (str (d.f f).all)] 9 w6.heap.size rfl)
          have hal := ah_len d f
          obtain ⟨A7, c7, rfl, -⟩ := O7.out.rd
          rw [hal]
          have O8 := Lib.hid O7.out.own
          rw [hal] at O8
          clear b7 S6' R6 T6 O6 hal f7
          go_wp2_with (at_builtin; refine wpl_appEl rfl (.tmp 47) (.tmp 50) rfl sls_u str_info rfl (by decide) (by decide) O8.out (vs := [.string (str (d.f f).all)]) E7.out rfl (by simp [Value.oneCell']) (by omega) rfl rfl ?_; intro v8 w8 ho8 hg8 ht8)
          have F8 := Fr.grown (H := fun y => y = 40) hg8 (fun g hg => O7.out.tg g ((own_len _ _ _ _).trans hg)) 40
          refine ⟨⟨f + 1, _, by omega, by push_cast; rfl, S7.out.other F8 (fun c hc e => by have := hc.2; omega) (by decide), F8.rowAt R7.out (by rw [T7.out]; decide), by rw [F8.tag Z (row_lt R7.out)]; exact T7.out, ?_⟩, by simp [intOf]; omega⟩
          rw [ah_succ]
          exact O7.out.app (by rw [ah_len]; exact ho8) (ht8.imp (·.trans (own_len _ _ _ _)) id)
        · obtain rfl : f = 4 := by omega
          have hd3 : decide (((4 : Nat) : Int) < 4) = false := by decide
          have FI := Lib.hid (show Ft w T wo B d Z (opC x (.slice A1 x.b.length c1) (.slice A2 x.m c2)) _ _ from ⟨SI.out, RI.out, TI.out, OI.out⟩)
          have SB6 := Lib.hid (SB0.out.below SI.out.bel)
          obtain ⟨e0, -⟩ := op_cells RI.out
          have HK := Lib.hid (kind_any x.k 4 XK.out (by omega) (by omega) wo)
          rw [show ((4 : Nat) : Int) = 4 from rfl] at HK
          clear SI RI TI OI
          go_wp2_with fail
          refine HK.out.mono ?_
          rintro e w1' ⟨rfl, rfl⟩
          have hq3 := knd_lt x.k (show 0 < 4 by omega)
          obtain ⟨q, hq⟩ : ∃ q, q = knd x.k 4 := ⟨_, rfl⟩
          rw [← hq] at hq3 ⊢
          clear hq HK XK e0
          have zo := FI.out.sn.bel.size
          go_upto_block 4 with fail
          go_cut [] from 55 to 87 (fun wx => ∃ (T' : Mk) (d' : Dk), Ft w T' wx B d' Z (opC x (.slice A1 x.b.length c1) (.slice A2 x.m c2)) u7 (ah d 4) ∧ Oth x.f d d')
          case first =>
            have HFW := Lib.hid (fun y => few_any A1 _ c1 hsl MB.out y)
            rw [few_len x.b] at HFW
            obtain ⟨b, hb⟩ : ∃ b, b = x.b.take 100 := ⟨_, rfl⟩
            have hb1 : b.length ≤ 100 := by rw [hb, List.length_take]; omega
            have S5 := Lib.hid (few_sl SB6.out)
            rw [← hb] at HFW S5
            clear hb
            rcases (show q = 0 ∨ q = 1 ∨ q = 2 ∨ q = 3 by omega) with rfl | rfl | rfl | rfl
            · go_wp2_with fail
              refine flow_seen [([0, 1, 2, 3, 4], 5, false), ([], 6, true)] [] (by kernel_rfl) (by kernel_rfl) (fun _ _ _ _ _ h => h) fun X => ?_
              have F5 := Lib.hid (FI.out.calm X.below 0)
              have S6 := Lib.hid ((S5.out.below (X.below.mono zo)).more (Nat.le_trans zo X.below.size))
              obtain ⟨w5, hw5⟩ : ∃ w5, w5 = X.val := ⟨_, rfl⟩
              rw [← hw5] at F5 S6 ⊢
              clear hw5 X S5 SB6 FI
              have e1 : ∀ y : After w5, y.val.cell? ⟨Z, 1, none⟩ = some (.int .i64 x.f) := fun y => (op_cells (After.row F5.out.row y)).2.1
              have e3 : ∀ y : After w5, y.val.cell? ⟨Z, 3, none⟩ = some (.slice A1 x.b.length c1) := fun y => (op_cells (After.row F5.out.row y)).2.2.2.1
              simp only [wpFs, pk, List.getElem?_cons_zero, List.getElem?_cons_succ]
              repeat (go_big_quiet_step (fail))
              refine wpQuiet_nil ?_
              clear e1 e3
              go_wp2_with fail
              refine (HFW.out _).mono ?_
              rintro e w6 ⟨rfl, rfl⟩
              go_wp2_with fail
              first | refine ⟨.inr (Below.refl _ _), ?_⟩ | refine ⟨Below.refl _ _, ?_⟩
              show wpQuiet _ _ _ _ _ _
              refine wpQuiet_nil ?_
              have HC := Lib.hid (p_append F5.out.sn (by omega) (by omega) (f := x.f) (b := b) rfl S6.out (by omega))
              have U2 := Lib.hid (LI.out.app x.f b)
              obtain ⟨r, hr⟩ : ∃ r, r = onF x.f d fun i => d.app i b := ⟨_, rfl⟩
              rw [← hr] at HC U2
              clear hr
              go_wp2_with fail
              refine HC.out.mono ?_
              rintro e w6 ⟨rfl, T6, f7, S7⟩
              have F8 := Lib.hid (F5.out.call f7 S7)
              clear S7 HC F5 S6 f7
              go_wp2_with fail
              first | refine ⟨.inl trivial, ?_⟩ | skip
              show wpQuiet _ _ _ _ _ _
              refine wpQuiet_nil ?_
              go_wp2_with fail
              go_meet
              exact ⟨T6, r.2, F8.out, U2.out⟩
            · obtain ⟨-, e1, e2, -⟩ := op_cells FI.out.row
              have HC := Lib.hid (p_cut FI.out.sn (by omega) (by omega) x.f x.z)
              have U2 := Lib.hid (LI.out.cut x.f x.z)
              obtain ⟨r, hr⟩ : ∃ r, r = onF x.f d fun i => d.cut i x.z := ⟨_, rfl⟩
              rw [← hr] at HC U2
              clear hr
              go_wp2_with fail
              refine HC.out.mono ?_
              rintro e w6 ⟨rfl, T6, f7, S7⟩
              have F8 := Lib.hid (FI.out.call f7 S7)
              clear S7 HC f7 FI e1 e2
              go_wp2_with fail
              go_meet
              exact ⟨T6, r.2, F8.out, U2.out⟩
            · obtain ⟨-, e1, -⟩ := op_cells FI.out.row
              have HC := Lib.hid (p_sync FI.out.sn (by omega) (by omega) x.f)
              have U2 := Lib.hid (LI.out.sync x.f)
              obtain ⟨r, hr⟩ : ∃ r, r = onF x.f d fun i => d.sync i := ⟨_, rfl⟩
              rw [← hr] at HC U2
              clear hr
              go_wp2_with fail
              refine HC.out.mono ?_
              rintro e w6 ⟨rfl, T6, f7, S7⟩
              have F8 := Lib.hid (FI.out.call f7 S7)
              clear S7 HC f7 FI e1
              go_wp2_with fail
              go_meet
              exact ⟨T6, r.2, F8.out, U2.out⟩
            · have HKf := Lib.hid (fun y => kind_any x.f 4 XF.out (by omega) (by omega) y)
              rw [show ((4 : Nat) : Int) = 4 from rfl] at HKf
              have hf4 := knd_lt x.f (show 0 < 4 by omega)
              obtain ⟨F, hF⟩ : ∃ F, F = knd x.f 4 := ⟨_, rfl⟩
              rw [← hF] at HKf hf4
              clear hF
              go_wp2_with fail
              refine flow_seen [([0, 1, 2, 4, 5], 3, false), ([], 6, false), ([], 7, true)] [] (by kernel_rfl) (by kernel_rfl) (fun _ _ _ _ _ h => h) fun X => ?_
              have F5 := Lib.hid (FI.out.calm X.below 0)
              have S6 := Lib.hid ((S5.out.below (X.below.mono zo)).more (Nat.le_trans zo X.below.size))
              obtain ⟨w5, hw5⟩ : ∃ w5, w5 = X.val := ⟨_, rfl⟩
              rw [← hw5] at F5 S6 ⊢
              clear hw5 X S5 SB6 FI
              have e1 : ∀ y : After w5, y.val.cell? ⟨Z, 1, none⟩ = some (.int .i64 x.f) := fun y => (op_cells (After.row F5.out.row y)).2.1
              have e3 : ∀ y : After w5, y.val.cell? ⟨Z, 3, none⟩ = some (.slice A1 x.b.length c1) := fun y => (op_cells (After.row F5.out.row y)).2.2.2.1
              simp only [wpFs, pk, List.getElem?_cons_zero, List.getElem?_cons_succ]
              repeat (go_big_quiet_step (fail))
              refine wpQuiet_nil ?_
              clear e1 e3
              go_wp2_with fail
              refine (HKf.out _).mono ?_
              rintro e w6 ⟨rfl, rfl⟩
              go_wp2_with fail
              first | refine ⟨.inr (Below.refl _ _), ?_⟩ | refine ⟨Below.refl _ _, ?_⟩
              show wpQuiet _ _ _ _ _ _
              refine wpQuiet_nil ?_
              go_wp2_with fail
              refine (HFW.out _).mono ?_
              rintro e w6 ⟨rfl, rfl⟩
              go_wp2_with fail
              first | refine ⟨.inr (Below.refl _ _), ?_⟩ | refine ⟨Below.refl _ _, ?_⟩
              show wpQuiet _ _ _ _ _ _
              refine wpQuiet_nil ?_
              have HC := Lib.hid (p_append F5.out.sn (by omega) (by omega) (f := (F : Int)) (b := b) rfl S6.out (by omega))
              have U2 := Lib.hid (LI.out.app (F : Int) b)
              obtain ⟨r, hr⟩ : ∃ r, r = onF (F : Int) d fun i => d.app i b := ⟨_, rfl⟩
              rw [← hr] at HC U2
              clear hr
              go_wp2_with fail
              refine HC.out.mono ?_
              rintro e w6 ⟨rfl, T6, f7, S7⟩
              have F8 := Lib.hid (F5.out.call f7 S7)
              clear S7 HC F5 S6 f7
              go_wp2_with fail
              first | refine ⟨.inl trivial, ?_⟩ | skip
              show wpQuiet _ _ _ _ _ _
              refine wpQuiet_nil ?_
              go_wp2_with fail
              have un := U2.out.n
              exact ⟨⟨i + 1, T6, r.2, by omega, by omega, by push_cast; rfl, F8.out.sn, U2.out.live, by omega⟩, by simp [intOf]; omega⟩
          obtain ⟨T5, d5, F5, U5⟩ := hcut
          have FI5 := Lib.hid F5
          have UI5 := Lib.hid U5
          have un := U5.n
          clear F5 U5 FI SB6
          obtain ⟨A7, c7, hu7, -⟩ := FI5.out.ah.rd
          rw [ah_len] at hu7
          subst hu7
          go_wp2_with fail
          go_loopw [11] (fun fv wr => ∃ (f : Nat) (T : Mk), f ≤ 4 ∧ fv = .int .i64 (f : Int) ∧ Ft w T wr B d5 Z (opC x (.slice A1 x.b.length c1) (.slice A2 x.m c2)) (.slice A7 4 c7) (ah d 4)) (fun fv _ => 4 - (intOf fv).toNat)
          case atStart => exact ⟨0, T5, by omega, rfl, FI5.out⟩
          case round =>
            clear FI5
            obtain ⟨f, T, hf, rfl, F⟩ := hrel
            obtain ⟨wo, rfl⟩ : ∃ wo : World, wo = wr := ⟨_, rfl⟩
            have FI := Lib.hid F
            clear F
            by_cases hf4 : f < 4
            · have hd3 : decide ((f : Int) < 4) = true := by simp; omega
              have HC := Lib.hid (p_read FI.out.sn (by omega) (f : Int) 50)
              rw [read_live UI5.out.live.off f hf4] at HC
              go_wp2_with fail
              refine HC.out.mono ?_
              rintro e w6 ⟨v6, rfl, o6, b6, S6⟩
              obtain ⟨A6, c6, rfl, r6, -⟩ := o6.rd
              have F6 := Lib.hid (FI.out.calm b6 50)
              have R6 := Lib.hid r6
              clear S6 o6 b6 r6 HC FI
              obtain ⟨A8, c8, hA8, h8⟩ := F6.out.ah.rd
              obtain ⟨g7, e7, hg7, -, hc7⟩ := h8 (by rw [ah_len]; decide)
              rw [ah_len] at hA8
              cases hA8
              subst e7
              have C7 := Lib.hid ((hc7 f (by rw [ah_len]; exact hf4)).trans (ah_get d hf4))
              clear h8 hc7
              obtain ⟨N6, hN6⟩ : ∃ N6, N6 = (d5.f f).all.length := ⟨_, rfl⟩
              by_cases he : (f : Int) = x.f
              · have hd5 : ((f : Int) == x.f) = true := by simpa using he
                have hd6 : ((f : Int) != x.f) = false := by simpa using he
                clear he
                rw [← hN6]
                go_wp2_with fail
                refine flow_seen [] [0, 1, 2, 3, 4, 5, 6, 7, 8, 9, 10, 11, 12, 13, 14, 15, 16] (by kernel_rfl) (by kernel_rfl) (fun _ _ _ _ _ h => h) fun X => ?_
                have F7 := Lib.hid (F6.out.calm X.below 0)
                obtain ⟨T7, hT7⟩ : ∃ T7, T7 = paint (paint T wo.heap.size 50) w6.heap.size 0 := ⟨_, rfl⟩
                obtain ⟨w7, hw7⟩ : ∃ w7, w7 = X.val := ⟨_, rfl⟩
                rw [← hw7, ← hT7] at F7
                rw [← hw7]
                clear hw7 X F6 R6 C7 hT7
                have e1 : ∀ y : After w7, y.val.cell? ⟨Z, 1, none⟩ = some (.int .i64 x.f) := fun y => (op_cells (After.row F7.out.row y)).2.1
                simp only [wpFs, pk, List.getElem?_cons_zero, List.getElem?_cons_succ]
                repeat (go_big_quiet_step (fail))
                refine wpQuiet_nil ?_
                clear e1
                go_wp2_with fail
                exact ⟨⟨f + 1, T7, by omega, by push_cast; rfl, F7.out⟩, by simp [intOf]; omega⟩
              · have hd5 : ((f : Int) == x.f) = false := by simpa using he
                have hd6 : ((f : Int) != x.f) = true := by simpa using he
                have cv := Lib.hid (fun (y : World) (hy : Below w6.heap.size w6 y) => (R6.out.fr (Fr.new (H := fun _ => False) hy 0) (fun e => e)).conv)
                rw [UI5.out.oth f he] at cv hN6 ⊢
                rw [← hN6] at cv ⊢
                clear he hN6
                go_wp2_with fail
                refine flow_seen [] [0, 1, 2, 3, 4, 5, 6, 7, 8, 9, 10, 11, 12, 13, 14, 15, 16] (by kernel_rfl) (by kernel_rfl) (fun _ _ _ _ _ h => h) fun X => ?_
                have F7 := Lib.hid (F6.out.calm X.below 0)
                have CV := Lib.hid (fun (y : World) (hy : Below X.val.heap.size X.val y) => cv.out y (onto X.below X.below.size hy))
                have C8 := Lib.hid ((X.below.cell (p := ⟨g7, f, none⟩) hg7).trans C7.out)
                have hg8 := Nat.lt_of_lt_of_le hg7 X.below.size
                obtain ⟨T7, hT7⟩ : ∃ T7, T7 = paint (paint T wo.heap.size 50) w6.heap.size 0 := ⟨_, rfl⟩
                obtain ⟨w7, hw7⟩ : ∃ w7, w7 = X.val := ⟨_, rfl⟩
                rw [← hw7] at CV C8 hg8
                rw [← hw7, ← hT7] at F7
                rw [← hw7]
                clear hw7 X F6 R6 C7 hT7 cv
                obtain ⟨p, hp⟩ : ∃ p, p = str (d.f f).all := ⟨_, rfl⟩
                rw [← hp] at CV C8
                clear hp
                have e1 : ∀ y : After w7, y.val.cell? ⟨Z, 1, none⟩ = some (.int .i64 x.f) := fun y => (op_cells (After.row F7.out.row y)).2.1
                have e2 : ∀ y : After w7, (convert 29 9 (.slice A6 N6 c6)).run Try.prog y.val = .ok (.string p) y.val := fun y => CV.out y.val y.below
                have e3 : ∀ y : After w7, y.val.cell? ⟨g7, f, none⟩ = some (.string p) := fun y => (y.below.cell (p := ⟨g7, f, none⟩) hg8).trans C8.out
                simp only [wpFs, pk, List.getElem?_cons_zero, List.getElem?_cons_succ]
                repeat (go_big_quiet_step (fail))
                refine wpQuiet_nil ?_
                clear e1 e2 e3
                go_wp2_with fail
                exact ⟨⟨f + 1, T7, by omega, by push_cast; rfl, F7.out⟩, by simp [intOf]; omega⟩
            · have hd3 : decide ((f : Int) < 4) = false := by simp; omega
              go_wp2_with fail
              exact ⟨⟨i + 1, T, d5, by omega, by omega, by push_cast; rfl, FI.out.sn, UI5.out.live, by omega⟩, by simp [intOf]; omega⟩
    · have HBL := Lib.hid SI.out.bel
      by_cases hk1 : i < n0
      case' pos =>
        have hd3 : decide ((i : Int) < (n0 : Int)) = true := by simp; omega
        have hd4 : decide ((i : Int) < 80) = false := by simp; omega
      case' neg =>
        have hd3 : decide ((i : Int) < (n0 : Int)) = false := by simp; omega
      all_goals
        go_wp2_with fail
        go_ret
        exact ⟨rfl, HBL.out⟩

set_option maxRecDepth 100000 in
theorem lifted (os : Os) (started : os.Started) (H : Type) (enc : TypeId × Value → H) :
    ReturnsInHanded {} Try.checked os 6 .any (Rows.diskFilesSpec.pre6 enc Try.prog Try.f6 Rows.diskFilesRow.domain false) (Rows.diskFilesSpec.post enc Try.prog Try.f6 false true false false) := by
  refine returnsInHanded_of_change (C := Try.checked) own started (by kernel_rfl) Try.func6
    (ChangeSpec.witness6 (enc := enc) (C := Try.checked) false ⟨#[], #[.slice none 0 0], []⟩ 8 (by kernel_rfl) (by kernel_rfl) (by kernel_rfl) (by kernel_rfl)) ?_
  intro W base args ds gs before hval0 hW hcnd _
  have hval : ∀ (j : Nat) t v, Try.f6.params[j]? = some t → args[j]? = some v → Value.okWide Try.prog W .any base t v := hval0
  have hW' := hW
  obtain ⟨p, q, hA0, hV, rfl, hfz, hnd⟩ := hW
  have hA : DataW.TrodAll enc Try.prog W 0 (fun _ => true) true Try.f6.params.toList args.toList ds p := hA0
  rw [Try.params6] at hA hval
  obtain ⟨v0, vs0, d0, ds0, p0, q0, hargs, rfl, rfl, h0, r0⟩ := trodAll_cons hA
  obtain ⟨rfl, rfl, rfl⟩ := trodAll_nil r0
  obtain rfl : args = #[v0] := by cases args; simp_all
  obtain ⟨rfl, rfl⟩ := trodVars_none hV
  have k0 := h0
  have lt0 : ∀ x ∈ p0, x.block < W.heap.size := by obtain ⟨m, hm⟩ := k0; exact DataW.trod_lt m _ _ _ hm
  obtain ⟨A0, n0, c0, X0, rfl, hl0⟩ := open_ops (hval 0 22 v0 rfl rfl) h0
  clear hA0 hval0
  refine (walk n0 c0 A0 X0 W hl0).mono fun e W' ⟨he, bel⟩ => ?_
  subst he
  exact ⟨_, rfl, _, _, _, [], _, [], hW', trodAll_mk1 (shut_bool Try.underlying4 _), (trodAll_cons_mk (Below.trod laidOut (by kernel_rfl) (of_decide_eq_true (by kernel_rfl)) k0 bel lt0) trodAll_mk0), rfl, bel.frame _, fun h => by cases h⟩

theorem over : Rows.diskFilesRow.holds Try.pinned (OpenSpec.ofChange Rows.diskFilesSpec) :=
  OpenClaim.holds_of_wide 6 Try.f6 rfl rfl rfl rfl rfl rfl rfl ⟨rfl, rfl, rfl, rfl, rfl⟩ rfl rfl rfl rfl rfl (by kernel_rfl) Try.func6 (by kernel_rfl)
    (of_decide_eq_true (by kernel_rfl)) (by unfold Func.isWrapper; first | (rw [if_pos (by decide +kernel)]; kernel_rfl) | (rw [if_neg (by decide +kernel)]; exact ⟨rfl, rfl⟩))
    (fun os started H enc _ => lifted os started H enc)

theorem proved : Rows.DiskFilesSaid := over
#print axioms proved
end Go.Proofs.Ythdhbjfenanbnaa.diskFiles
