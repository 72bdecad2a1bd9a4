/- The statement DrbgBytes: the law strongroomlaw07.DrbgBytes answers true for every input, and leaves its arguments as they were. Condition: the package variables that the row lists read at the call as the text of the program lays them; the card ties that. -/
import Derived.Test.YtjggnbncpjoooaaDoorRows
import Derived.Test.YtjggnbncpjoooaaDoorLib
import Derived.Test.YtjggnbncpjoooaaDoorDrS
import Derived.Test.YtjggnbncpjoooaaDoorTab
import Derived.Test.YtjggnbncpjoooaaDoorCards
import Derived.Test.YtjggnbncpjoooaaDoorTie
import Derived.SevenTiedAt
namespace Go.Proofs.YtjggnbncpjoooaaDoor.drbgBytes
open Go.ChangeShapes Go.WideShapes Go.ChangeAt Go.RowKit
open Go.Proofs.YtjggnbncpjoooaaDoor.Oct
set_option linter.unusedVariables false

theorem own : ownKnob Tryd.prog.godebug = none := by kernel_rfl
theorem laidOut : laidOutB Tryd.prog = true := by kernel_rfl

/-- what is known on the way through the loop -/
structure BInv (w : World) (k v : Bf) (x K j : Nat) (wr : World) : Prop where
  b : Below w.heap.size w wr
  rk : row wr w.heap.size = some (ba 32 k)
  rv : row wr (w.heap.size + 1) = some (ba 32 (vsF (k, v) j))
  rx : row wr x = some (ba K (drF (k, v)))
set_option maxRecDepth 20000 in
set_option maxHeartbeats 4000000 in
theorem walk (a0 : Nat → BitVec 8) (a1 : Nat → BitVec 8) (a2 : Int) (w : World) (w2 : (Lit.int .i64 a2).wf = true) (htab : Tab w) :
    Calls Tryd.prog 5 #[.agg (ba 32 a0), .agg (ba 32 a1), .int .i64 a2] w fun e w' => e = .returned (.bool true) ∧ Below w.heap.size w w' := by
  have HT := Lib.hid htab
  have hpos := htab.pos
  have W2 := Lib.hid w2
  clear htab w2
  go_enter Tryd.func5, Tryd.ntmps5
  go_wp2_with fail
  have b1 : Below w.heap.size w ((w.alloc (.cells (ba 32 a0) 41)).alloc (.cells (ba 32 a1) 41)) := ((Below.refl _ _).alloc (Nat.le_refl _) _).alloc (by simp) _
  have k1 : row ((w.alloc (.cells (ba 32 a0) 41)).alloc (.cells (ba 32 a1) 41)) w.heap.size = some (ba 32 a0) := row_alloc (row_alloc_at _ _ _ _ rfl) _
  have v1 : row ((w.alloc (.cells (ba 32 a0) 41)).alloc (.cells (ba 32 a1) 41)) (w.heap.size + 1) = some (ba 32 a1) := row_alloc_at _ _ _ _ (by simp)
  obtain ⟨w1, hw1⟩ : ∃ w1, w1 = (w.alloc (.cells (ba 32 a0) 41)).alloc (.cells (ba 32 a1) 41) := ⟨_, rfl⟩
  rw [← hw1] at b1 k1 v1 ⊢
  clear hw1
  have B1 := Lib.hid b1
  refine (shown_any w1 (HT.out.below b1 hpos)).mono ?_
  rintro e w2 ⟨rfl, hb2⟩
  have z1 := row_lt v1
  have B2 := Lib.hid (onto b1 (by omega) hb2)
  have q1 := carry hb2 k1
  have q2 := carry hb2 v1
  have Q1 := Lib.hid q1
  have Q2 := Lib.hid q2
  have z2 := hb2.size
  clear hb2 b1 k1 v1 B1
  go_wp2_with fail
  have HD := Lib.hid (dof_any a0 a1 1 w2)
  refine HD.out.mono ?_
  rintro e w3 ⟨g, rfl, hg, rg, hb3⟩
  have B3 := Lib.hid (onto B2.out (by omega) hb3)
  have K3 := Lib.hid (carry hb3 Q1.out)
  have V3 := Lib.hid (carry hb3 Q2.out)
  have RG := Lib.hid rg
  have z3 := hb3.size
  have hgz := row_lt rg
  clear q1 q2 Q1 Q2 hb3 rg HD B2
  have HK := Lib.hid (kind_any a2 257 W2.out (by omega) (by omega) w3)
  rw [show ((257 : Nat) : Int) = 257 from rfl] at HK
  go_wp2_with fail
  refine HK.out.mono ?_
  rintro e w3' ⟨rfl, rfl⟩
  have hK : knd a2 257 < 257 := knd_lt _ (by omega)
  obtain ⟨K, hKK⟩ : ∃ K, K = knd a2 257 := ⟨_, rfl⟩
  rw [← hKK] at hK ⊢
  clear HK hKK W2
  have HD := Lib.hid (ddraw_any (a0, a1) g K 0 0 none nF 1 w3 (HT.out.below B3.out hpos) RG.out (by omega) (Sl.nothing _ _ _ _ _) (by omega) (fun h => absurd h (by omega)) (by omega) (by omega) (by omega))
  go_wp2_with fail
  refine HD.out.mono ?_
  rintro e w4 ⟨x, rfl, hx, rx, hp4⟩
  have B4 := Lib.hid (B3.out.trans (hp4.low (D := w.heap.size) (by omega) (by omega)))
  have K4 := Lib.hid (hp4.other (by omega) K3.out)
  have V4 := Lib.hid (hp4.other (by omega) V3.out)
  have X4 := Lib.hid (show row w4 x = some (ba K (drF (a0, a1))) by rw [rx]; unfold drwF; rw [if_pos rfl])
  have z4 := hp4.size
  have hxz := row_lt rx
  clear rx hp4 HD B3 K3 V3 RG
  have J0 := Lib.hid (show BInv w a0 a1 x K 0 (w4.alloc (.cells #[] 5)) from ⟨B4.out.alloc (by omega) _, row_alloc K4.out _, row_alloc V4.out _, row_alloc X4.out _⟩)
  have O0 := Lib.hid (show Own (w4.alloc (.cells #[] 5)) w4.heap.size 5 (.slice (some ⟨w4.heap.size, 0, none⟩) 0 0) (32 * 0) (drF (a0, a1)) from Own.empty w4 w4.heap.size 5 _ (Nat.le_refl _))
  have Z0 := Lib.hid (show w4.heap.size ≤ (w4.alloc (.cells #[] 5)).heap.size by simp)
  clear B4 K4 V4 X4
  go_wp2_with fail
  go_loopw [12] (fun ov wr => ∃ j : Nat, 32 * j < K + 32 ∧ Own wr w4.heap.size 5 ov (32 * j) (drF (a0, a1)) ∧ BInv w a0 a1 x K j wr ∧ w4.heap.size ≤ wr.heap.size) (fun ov _ => K + 32 - slN ov)
  case atStart => exact ⟨0, by omega, O0.out, J0.out, Z0.out⟩
  case round =>
    clear J0 O0 Z0
    obtain ⟨j, hj, ho, hJ, hz⟩ := hrel
    obtain ⟨wo, rfl⟩ : ∃ wo : World, wo = wr := ⟨_, rfl⟩
    obtain ⟨Ao, co, hvo, hslo, hco, -⟩ := ho.sl
    subst hvo
    have HO := Lib.hid ho
    have HSO := Lib.hid hslo
    have HJ := Lib.hid hJ
    have hoc := hslo.le
    unfold maxLen at hco
    clear ho hslo hJ
    obtain ⟨F, hF⟩ : ∃ F, F = 32 * j := ⟨_, rfl⟩
    rw [← hF] at HO HSO hoc ⊢
    have HF := Lib.hid hF
    by_cases hlt : F < K
    · have hd : decide ((F : Int) < (K : Int)) = true := by simp; omega
      have hFl : F ≤ 256 := by omega
      have a1' := sum_sl_all w.heap.size
      have a2' := sum_sl_all (w.heap.size + 1)
      clear hF
      go_wp2_with fail
      refine flow_seen [([0, 1], 2, true), ([], 3, true)] [] (by kernel_rfl) (by kernel_rfl) (fun _ _ _ _ _ h => h) fun X => ?_
      have B5 := Lib.hid (onto HJ.out.b (by omega) X.below)
      have k5 := carry X.below HJ.out.rk
      have v5 := carry X.below HJ.out.rv
      have X5 := Lib.hid (carry X.below HJ.out.rx)
      have O5 := Lib.hid (HO.out.below X.below (Nat.le_refl _))
      have z5 := X.below.size
      obtain ⟨w5, hw5⟩ : ∃ w5, w5 = X.val := ⟨_, rfl⟩
      rw [← hw5] at B5 k5 v5 X5 O5 z5 ⊢
      clear hw5 X HO HSO HJ
      simp only [wpFs, pk, List.getElem?_cons_zero, List.getElem?_cons_succ]
      repeat (go_big_quiet_step (fail))
      refine wpQuiet_nil ?_
      have HM := Lib.hid (msum_any a0 (vsF (a0, a1) j) 32 32 32 32 _ _ w5 (HT.out.below B5.out hpos) (Sl.of_row k5 _ (row_lt k5)) (Sl.of_row v5 _ (row_lt v5)) (by omega) (by omega))
      have K5 := Lib.hid k5
      have V5 := Lib.hid v5
      clear k5 v5
      go_wp2_with fail
      refine HM.out.mono ?_
      rintro e w6 ⟨rfl, hb6⟩
      obtain ⟨S, hS⟩ : ∃ S, S = vsF (a0, a1) (j + 1) := ⟨_, rfl⟩
      rw [show macF a0 32 (vsF (a0, a1) j) 32 = S by rw [hS]; rfl]
      have HSS := Lib.hid hS
      have B6 := Lib.hid (onto B5.out (by omega) hb6)
      have K6 := Lib.hid (carry hb6 K5.out)
      have v6 := carry hb6 V5.out
      have X6 := Lib.hid (carry hb6 X5.out)
      have O6 := Lib.hid (O5.out.below hb6 (Nat.le_refl _))
      have z6 := hb6.size
      clear hb6 hS HM B5 K5 V5 X5 O5
      go_wp2_with fail
      refine ⟨.inl trivial, ?_⟩
      show wpQuiet _ _ _ _ _ _
      refine wpQuiet_nil ?_
      go_wp2_with fail
      refine ⟨.inl trivial, ?_⟩
      show wpQuiet _ _ _ _ _ _
      refine wpQuiet_nil ?_
      have B7 := Lib.hid (below_setRow B6.out (show w.heap.size ≤ w.heap.size + 1 by omega) (ba 32 S))
      have K7 := Lib.hid (show row (w6.setRow (w.heap.size + 1) (ba 32 S)) w.heap.size = some (ba 32 a0) by rw [row_setRow_other _ _ _ _ (by omega)]; exact K6.out)
      have V7 := Lib.hid (row_setRow v6 (ba 32 S))
      have X7 := Lib.hid (show row (w6.setRow (w.heap.size + 1) (ba 32 S)) x = some (ba K (drF (a0, a1))) by rw [row_setRow_other _ _ _ _ (by omega)]; exact X6.out)
      have O7 := Lib.hid (O6.out.setRow (w.heap.size + 1) (fun e => by have := (O6.out.lt e).1; omega) (ba 32 S))
      have z7 : (w6.setRow (w.heap.size + 1) (ba 32 S)).heap.size = w6.heap.size := by simp
      obtain ⟨w7, hw7⟩ : ∃ w7, w7 = w6.setRow (w.heap.size + 1) (ba 32 S) := ⟨_, rfl⟩
      rw [← hw7] at B7 K7 V7 X7 O7 z7 ⊢
      clear hw7 B6 K6 v6 X6 O6
      have N7 := Lib.hid (Sl.of_row V7.out w7.heap.size (row_lt V7.out))
      have HB7 := Lib.hid (show w4.heap.size ≤ w7.heap.size by omega)
      go_wp2_with (at_builtin; refine wpl_appB rfl (.tmp 39) (.tmp 40) rfl sli_u u8_info O7.out N7.out (by omega) HB7.out rfl rfl ?_; intro v8 w8 ho8 hg8 ht8)
      have hz8 := hg8.size
      have J8 := Lib.hid (show BInv w a0 a1 x K (j + 1) w8 from
        ⟨O7.out.after hg8 B7.out (by omega) (by omega), grown_row hg8 K7.out (fun e => by have := (O7.out.lt e).1; omega), by rw [← HSS.out]; exact grown_row hg8 V7.out (fun e => by have := (O7.out.lt e).1; omega), grown_row hg8 X7.out (fun e => by have := (O7.out.lt e).1; omega)⟩)
      have O8 := Lib.hid (show Own w8 w4.heap.size 5 v8 (32 * (j + 1)) (drF (a0, a1)) by
        rw [show 32 * (j + 1) = F + 32 by have := HF.out; omega]
        refine ho8.congr fun i hi => ?_
        have hFe := HF.out
        unfold catF
        by_cases h : i < F
        · rw [if_pos h]
        · rw [if_neg h, HSS.out]
          unfold drF
          rw [show i / 32 = j by omega, show i % 32 = i - F by omega])
      obtain ⟨A13, c13, hv13, -, -, -⟩ := O8.out.sl
      have HV13 := Lib.hid hv13
      clear ho8 hg8 ht8 hv13 O7 N7 B7 K7 V7 X7
      go_roundw
      case rel => exact ⟨j + 1, by have := HF.out; omega, O8.out, J8.out, by omega⟩
      case measure =>
        rw [HV13.out]
        have := HF.out
        simp only [slN]
        omega
    · have hd : decide ((F : Int) < (K : Int)) = false := by simp; omega
      have hup := run_upto sli_u u8_i Ao F co K (by omega)
      obtain ⟨SX, hSX⟩ : ∃ SX, SX = strOf K (drF (a0, a1)) := ⟨_, rfl⟩
      have HB := Lib.hid HJ.out.b
      clear hF
      go_wp2_with fail
      refine flow_seen [] [0, 1, 2, 3, 4, 5, 6, 7, 8, 9, 10, 11] (by kernel_rfl) (by kernel_rfl) (fun _ _ _ _ _ h => h) fun X => ?_
      have HB2 := Lib.hid (onto HB.out (by omega) X.below)
      have s1 := After.sl (Sl.of_row HJ.out.rx wo.heap.size (row_lt HJ.out.rx)) X
      have s2 := After.sl (HSO.out.upto K (by omega)) X
      obtain ⟨w5, hw5⟩ : ∃ w5, w5 = X.val := ⟨_, rfl⟩
      rw [← hw5] at HB2 s1 s2 ⊢
      clear hw5 X HB HJ HSO HO
      have cv1 : ∀ x' : After w5, (convert 22 9 (.slice (some ⟨x, 0, none⟩) K K)).run Tryd.prog x'.val = .ok (.string SX) x'.val := fun x' => by rw [hSX]; exact run_str sli_u u8_u str_u (After.sl s1 x')
      have cv2 : ∀ x' : After w5, (convert 22 9 (.slice Ao K co)).run Tryd.prog x'.val = .ok (.string SX) x'.val := fun x' => by rw [hSX]; exact run_str sli_u u8_u str_u (After.sl s2 x')
      clear hSX s1 s2
      simp only [wpFs, pk, List.getElem?_cons_zero, List.getElem?_cons_succ]
      repeat (go_big_quiet_step (fail))
      refine wpQuiet_nil ?_
      go_wp2_with fail
      go_ret
      exact ⟨rfl, HB2.out⟩

set_option maxRecDepth 100000 in
theorem lifted (os : Os) (started : os.Started) (H : Type) (enc : TypeId × Value → H) :
    ReturnsInHanded {} Tryd.checked os 5 .any (fun w args => (Rows.drbgBytesSpec.pre enc Tryd.prog Tryd.f5 [] false w args ∧ laidMetH Tryd.prog laidL w) ∧ sizedMet enc Tryd.prog Tryd.f5 (OpenSpec.ofChange Rows.drbgBytesSpec) false w args) (Rows.drbgBytesSpec.post enc Tryd.prog Tryd.f5 false true false false) := by
  refine returnsInHanded_of_change_and (C := Tryd.checked) (X := fun w _ => laidMetH Tryd.prog laidL w) (fun _ _ _ hh h => h.of_heap hh) own started (by kernel_rfl) Tryd.func5
    (ChangeSpec.witness_shaped (enc := enc) (C := Tryd.checked) (os := os) (X := fun w _ => laidMetH Tryd.prog laidL w) false (World.doorLaid Tryd.prog 14 os) #[.agg (Array.replicate 32 (.int .u8 0)), .agg (Array.replicate 32 (.int .u8 0)), .int .i64 0] 8 rfl (World.shaped_of_RefB (by kernel_rfl) (by kernel_rfl)) (by kernel_rfl) (by kernel_rfl) (by kernel_rfl) (door_met os _)) ?_
  intro W base args ds gs before hval0 hW _ _ hL _
  have hval : ∀ (j : Nat) t v, Tryd.f5.params[j]? = some t → args[j]? = some v → Value.okWide Tryd.prog W .any base t v := hval0
  have hW' := hW
  obtain ⟨p, q, hA0, hV, rfl, hfz, hnd⟩ := hW
  have hA : DataW.TrodAll enc Tryd.prog W 0 (fun _ => true) true Tryd.f5.params.toList args.toList ds p := hA0
  rw [Tryd.params5] at hA hval
  obtain ⟨v0, vs0, d0, ds0, p0, q0, hargs, rfl, rfl, h0, r0⟩ := trodAll_cons hA
  obtain ⟨v1, vs1, d1, ds1, p1, q1, rfl, rfl, rfl, h1, r1⟩ := trodAll_cons r0
  obtain ⟨v2, vs2, d2, ds2, p2, q2, rfl, rfl, rfl, h2, r2⟩ := trodAll_cons r1
  obtain ⟨rfl, rfl, rfl⟩ := trodAll_nil r2
  obtain rfl : args = #[v0, v1, v2] := by cases args; simp_all
  obtain ⟨rfl, rfl⟩ := trodVars_none hV
  have k0 := h0
  have lt0 : ∀ x ∈ p0, x.block < W.heap.size := by obtain ⟨m, hm⟩ := k0; exact DataW.trod_lt m _ _ _ hm
  obtain ⟨a0, rfl⟩ := open_bytes Tryd.underlying41 Tryd.underlying5 (by kernel_rfl) (by kernel_rfl) (hval 0 41 v0 rfl rfl) h0
  have k1 := h1
  have lt1 : ∀ x ∈ p1, x.block < W.heap.size := by obtain ⟨m, hm⟩ := k1; exact DataW.trod_lt m _ _ _ hm
  obtain ⟨a1, rfl⟩ := open_bytes Tryd.underlying41 Tryd.underlying5 (by kernel_rfl) (by kernel_rfl) (hval 1 41 v1 rfl rfl) h1
  obtain ⟨a2, rfl, rfl, rfl, w2⟩ := open_int Tryd.underlying3 (hval 2 3 v2 rfl rfl) h2
  clear hA0 hval0
  refine (walk a0 a1 a2 W w2 (tab_of hL)).mono fun e W' ⟨he, bel⟩ => ?_
  subst he
  exact ⟨_, rfl, _, _, _, [], _, [], hW', trodAll_mk1 (shut_bool Tryd.underlying4 _), (trodAll_cons_mk (Below.trod laidOut (by kernel_rfl) (of_decide_eq_true (by kernel_rfl)) k0 bel lt0) (trodAll_cons_mk (Below.trod laidOut (by kernel_rfl) (of_decide_eq_true (by kernel_rfl)) k1 bel lt1) (trodAll_cons_mk (shut_int Tryd.underlying3 w2) trodAll_mk0))), rfl, bel.frame _, fun h => by cases h⟩

theorem over : Rows.drbgBytesRow.holds Tryd.pinned (OpenSpec.ofChange Rows.drbgBytesSpec) :=
  OpenClaim.holds_of_wide 5 Tryd.f5 rfl rfl rfl rfl rfl rfl rfl ⟨rfl, rfl, rfl, rfl, rfl⟩ rfl rfl rfl rfl rfl (by kernel_rfl) Tryd.func5 (by kernel_rfl)
    (of_decide_eq_true (by kernel_rfl)) (by unfold Func.isWrapper; first | (rw [if_pos (by decide +kernel)]; kernel_rfl) | (rw [if_neg (by decide +kernel)]; exact ⟨rfl, rfl⟩))
    (fun os started H enc _ => lifted os started H enc)

theorem proved : Rows.DrbgBytesCardSaid :=
  Claim7.holds_tied_plain_at .later [] [.data] true (true, "4642ee307c21727693058ea21c92daa3e951da6297322ad112cfe872a294e37d") false
    over (fun _ h => by cases h) (by kernel_rfl) (fun _ h => by cases h) drbgBytes_row_tie rfl ⟨rfl, rfl⟩ (by kernel_rfl) rfl
    (fun f fn hf hfn => by
      obtain rfl : f = 5 := Option.some.inj ((show Tryd.prog.funcNamed "strongroom/strongroomlaw07.DrbgBytes" = some 5 by kernel_rfl).symm.trans hf) |>.symm
      obtain rfl : fn = Tryd.f5 := (Option.some.inj (Tryd.func5.symm.trans hfn)).symm
      exact ⟨by kernel_rfl, fun j t ht => by
        rw [Tryd.params5] at ht
        have hm : t ∈ [41, 3] := by simpa using Array.mem_of_getElem? ht
        have hall : ([41, 3].all fun u => !Tryd.prog.wantsStandIn u) = true := by kernel_rfl
        exact (show Tryd.prog.wantsStandIn t = false by simpa using List.all_eq_true.1 hall t hm)⟩)
    (by kernel_rfl)
#print axioms proved
end Go.Proofs.YtjggnbncpjoooaaDoor.drbgBytes
