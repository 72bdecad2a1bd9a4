/- The statement StoreAgain: the law strongroomlaw16.StoreAgain answers true for every input, and leaves its arguments as they were. Condition: the package variables that the row lists read at the call as the text of the program lays them; the card ties that. -/
import Derived.Test.YteffjpdcghlnlaaGreatDoorRows
import Derived.Test.YteffjpdcghlnlaaGreatDoorZaLib
import Derived.Test.YteffjpdcghlnlaaGreatDoorZaStB3
import Derived.Test.YteffjpdcghlnlaaGreatDoorZaTab
import Derived.Test.YteffjpdcghlnlaaGreatDoorCards
import Derived.Test.YteffjpdcghlnlaaGreatDoorTie
import Derived.SevenTiedAt
namespace Go.Proofs.YteffjpdcghlnlaaGreatDoor.storeAgain
open Go.ChangeShapes Go.WideShapes Go.ChangeAt Go.RowKit
open Go.Proofs.YteffjpdcghlnlaaGreatDoor.Oct
set_option linter.unusedVariables false

theorem own : ownKnob Tryz.prog.godebug = none := by kernel_rfl
theorem laidOut : laidOutB Tryz.prog = true := by kernel_rfl

set_option maxRecDepth 20000 in
set_option maxHeartbeats 16000000 in
theorem walk (a0 : Nat → BitVec 8) (n0 c0 : Nat) (A0 : Option Addr) (v1 : Value) (l1 : List Cm) (w : World) (hs0 : Sl w w.heap.size A0 n0 c0 a0) (hm0 : c0 ≤ maxLen) (hz0 : n0 ≤ 140737488351232) (hl1 : InS 7 coE w v1 l1) (htab : Tab w) :
    Calls Tryz.prog 6 #[.slice A0 n0 c0, v1] w fun e w' => e = .returned (.bool true) ∧ Below w.heap.size w w' := by
  have HT := Lib.hid htab
  have HS := Lib.hid hs0
  have hlc := hs0.le
  have HM := Lib.hid hm0
  have HL := Lib.hid hl1
  obtain ⟨A1, c1, rfl, hle1, hcm1, -⟩ := hl1.at_
  have hS5 : ¬ H2 5 0 := hS0
  have bO := co_bO
  clear hs0 hm0 htab hl1 hz0
  go_enter Tryz.func6, Tryz.ntmps6
  go_wp2_with fail
  refine (shown16_any w HT.out).mono ?_
  rintro e w1 ⟨rfl, hb1⟩
  have B1 := Lib.hid hb1
  clear hb1
  go_wp2_with fail
  refine (few16_any A0 n0 c0 hlc HM.out w1).mono ?_
  rintro e w1' ⟨rfl, rfl⟩
  obtain ⟨N, hN⟩ : ∃ N, N = min n0 100 := ⟨_, rfl⟩
  rw [← hN]
  have hN1 : N ≤ 100 := by omega
  have hN2 : N ≤ n0 := by omega
  clear hN
  go_wp2_with fail
  refine (ls_start (t := 5) HT.out B1.out HS.out N hN1 hN2 (by omega)).mono ?_
  rintro e w2 ⟨B, rfl, h⟩
  have Q0 := Lib.hid h
  have X0 := Lib.hid (SxB.new a0 N)
  clear h B1 HS
  go_wp2_with fail
  refine (ls_apply Q0.out Stb.triv HT.out (by omega) cmO (fun T k => CmR.nothing T _ _ rfl rfl) (.inl (by omega)) (by have := X0.out.n; omega)).mono ?_
  rintro e w3 ⟨A3, k3, rfl, h, -⟩
  have Q1 := Lib.hid (show LS (fun T y => StAt T y 5 B (apX (st0 a0 N) cmO) ∧ True) w w3 from h.mono fun T k => ⟨k.1, trivial⟩)
  have X1 := Lib.hid (X0.out.ap cmO)
  clear h Q0 X0
  obtain ⟨x1, hx1⟩ : ∃ x1, x1 = apX (st0 a0 N) cmO := ⟨_, rfl⟩
  rw [← hx1] at Q1 X1
  clear hx1
  go_wp2_with fail
  refine (ls_apply Q1.out Stb.triv HT.out (by omega) cmO (fun T k => CmR.nothing T _ _ rfl rfl) (.inl (by omega)) (by have := X1.out.n; omega)).mono ?_
  rintro e w4 ⟨A4, k4, rfl, h, -⟩
  have Q2 := Lib.hid (show LS (fun T y => StAt T y 5 B (apX x1 cmO) ∧ True) w w4 from h.mono fun T k => ⟨k.1, trivial⟩)
  have X2 := Lib.hid (X1.out.ap cmO)
  clear h Q1 X1
  obtain ⟨x2, hx2⟩ : ∃ x2, x2 = apX x1 cmO := ⟨_, rfl⟩
  rw [← hx2] at Q2 X2
  clear hx2 bO
  go_wp2_with fail
  go_loopw [7, 8] (fun bv iv wr => ∃ (j : Nat) (x : Sx) (Ab : Option Addr) (nb ab : Nat) (fb : Bf), j ≤ l1.length ∧ j ≤ 25 ∧ iv = .int .i64 (j : Int) ∧ bv = .slice Ab nb ab ∧ nb ≤ 1000 ∧ LS (fun T y => StAt T y 5 B x ∧ RdS T y 0 Ab nb ab fb) w wr ∧ SxB (100 + 4 * j) x) (fun _ iv _ => 25 - (intOf iv).toNat)
  case atStart =>
    exact ⟨0, x2, some ⟨w4.heap.size, 0, none⟩, 0, 0, fun _ => 0#8, by omega, by omega, rfl, rfl, by omega, (Q2.out.calm (Stb.and (Stb.st (fun h => h) (fun h => h) (fun h => h)) Stb.triv) ((Below.refl _ _).alloc (Nat.le_refl _) _)).mono fun T k => ⟨k.1, RdS.zero T _ _ _⟩, X2.out.up (by omega)⟩
  case round =>
    obtain ⟨j, x, Ab, nb, ab, fb, hj, hj1, rfl, rfl, hnb, hp, hx⟩ := hrel
    obtain ⟨wo, rfl⟩ : ∃ wo : World, wo = wr := ⟨_, rfl⟩
    have P := Lib.hid hp
    have HX := Lib.hid hx
    have Bo := Lib.hid hp.bel
    clear hp hx Q2 X2
    by_cases hlt : j < l1.length
    · have hd : decide ((j : Int) < (l1.length : Int)) = true := by simp; omega
      by_cases h25 : j < 25
      · have hd2 : decide ((j : Int) < 25) = true := by simp; omega
        obtain ⟨gk, ok, cc, Ac, ac, Ac', ac', ev, hlc2, hldr, hs1, hs2, hcb⟩ := cms_at HL.out Bo.out hlt
        cases ev
        obtain ⟨c, hc⟩ : ∃ c, c = l1[j] := ⟨_, rfl⟩
        rw [← hc] at hldr hs1 hs2 hcb
        have hw : IntKind.i64.wrap ((j : Int) + 1) = (j : Int) + 1 := IntWalk.i64_in _ (by omega)
        have HA := Lib.hid (ls_asked P.out (Stb.and (Stb.st (fun h => h) (fun h => h) (fun h => h)) (Stb.rd (fun h => h))) c hs1 hs2 hcb (fun T k => k.2) (by omega))
        clear hs1 hs2 hcb hc P
        go_wp2_with fail
        refine HA.out.mono ?_
        rintro e w5 ⟨A5, a5, A6, a6, rfl, h, -⟩
        obtain ⟨d, hdd⟩ : ∃ d, d = askC c nb fb := ⟨_, rfl⟩
        rw [← hdd] at h ⊢
        have P5 := Lib.hid (ls_var h (Stb.and (Stb.and (Stb.st (fun h => h) (fun h => h) (fun h => h)) (Stb.rd (fun h => h))) (Stb.cm (fun h => h))) (cmA d A5 a5 A6 a6) 36)
        obtain ⟨v5, hv5⟩ : ∃ v, v = w5.alloc (.cells (cmA d A5 a5 A6 a6) 36) := ⟨_, rfl⟩
        rw [← hv5] at P5
        have R5 := Lib.hid (show row v5 w5.heap.size = some (cmA d A5 a5 A6 a6) by rw [hv5]; exact row_alloc_at _ _ _ _ rfl)
        clear h HA hldr hdd
        go_upto_region 12 with fail
        rw [← hv5]
        clear hv5
        have r5 := R5.out
        obtain ⟨q0, q1, q2, q3, q4, q5, q6⟩ := cells7 R5.out
        have K5 := Lib.hid (show LS (fun T y => StAt T y 5 B x ∧ (RdS T y 0 Ab nb ab fb ∧ (CmR T y 0 d A5 a5 A6 a6 ∧ (row y w5.heap.size = some (cmA d A5 a5 A6 a6) ∧ T w5.heap.size = 0)))) w v5 from P5.out.mono fun T k => ⟨k.1.1.1, k.1.1.2, k.1.2, k.2⟩)
        have s5 := Lib.hid (show Stb (H2 5) (fun T y => RdS T y 0 Ab nb ab fb ∧ (CmR T y 0 d A5 a5 A6 a6 ∧ (row y w5.heap.size = some (cmA d A5 a5 A6 a6) ∧ T w5.heap.size = 0))) from Stb.and (Stb.rd hS5) (Stb.and (Stb.cm hS5) (Stb.row hS5)))
        clear P5
        go_wp2_with fail
        refine (ls_apply K5.out s5.out HT.out (by omega) d (fun T k => k.2.1) (.inl (by omega)) (by have := HX.out.n; omega)).mono ?_
        rintro e w6 ⟨A7, k7, rfl, h, -⟩
        have X6 := Lib.hid (HX.out.ap d)
        have hT7 := apR_T x d HX.out.sd
        have HG := Lib.hid (ap_again x d)
        obtain ⟨x', hx'⟩ : ∃ x', x' = apX x d := ⟨_, rfl⟩
        obtain ⟨r, hr⟩ : ∃ r, r = apR x d := ⟨_, rfl⟩
        rw [← hx'] at h X6 HG
        rw [← hr] at h hT7 HG ⊢
        have P6 := Lib.hid (ls_keep (h.mono fun T k => ⟨k.1, k.2.1, k.2.2⟩) (Stb.calm s5.out))
        obtain ⟨v6, hv6⟩ : ∃ v, v = w6.alloc (.cells #[.int .i64 r.c, .int .i64 r.n, .int .i64 r.m, .slice A7 r.T k7] 33) := ⟨_, rfl⟩
        rw [← hv6] at P6
        clear h hx' hr K5 HX r5 R5 q0 q1 q2 q3 q4 q5 q6
        go_upto_region 13 with fail
        rw [← hv6]
        clear hv6
        have s6 := Lib.hid (Stb.and s5.out (Stb.rp (b := w6.heap.size) (r := r) (A := A7) (k := k7) hS5))
        clear s5
        go_wp2_with fail
        refine (ls_enc P6.out (Stb.calm s6.out) (by omega) (X6.out.r (by omega))).mono ?_
        rintro e w7 ⟨A8, c8, rfl, ho, h, -⟩
        have cv7 : (convert 22 9 (.slice A8 (eSx x').length c8)).run Tryz.prog w7 = .ok (.string (sxS x')) w7 := conv_own ho
        obtain ⟨S, hS⟩ : ∃ S, S = sxS x' := ⟨_, rfl⟩
        rw [← hS] at cv7
        have HSS := Lib.hid hS
        have P7 := Lib.hid h
        obtain ⟨T7, -, ⟨-, -, kr, -⟩, kp, -⟩ := h.fact
        obtain ⟨q0, q1, q2, q3, q4, q5, q6⟩ := cells7 kr
        have R7 := Lib.hid kr
        obtain ⟨p0, p1, p2, p3⟩ := cells4 kp.1
        have rp7 := kp.1
        have RP7 := Lib.hid kp.1
        clear h ho kp kr P6 hS
        by_cases hk1 : d.k = 1
        · have d1 : (d.k == 1) = true := beq_iff_eq.2 hk1
          clear rp7
          go_wp2_with fail
          refine ⟨⟨j + 1, x', Ab, nb, ab, fb, by omega, by omega, by rw [Int.natCast_succ], rfl, hnb, P7.out.mono fun T k => ⟨k.1, k.2.1.1⟩, X6.out.up (by omega)⟩, ?_⟩
          simp only [intOf]
          omega
        · have d1 : (d.k == 1) = false := beq_eq_false_iff_ne.2 hk1
          by_cases hk2 : d.k = 2
          · have d2 : (d.k == 2) = true := beq_iff_eq.2 hk2
            clear rp7
            go_wp2_with fail
            refine ⟨⟨j + 1, x', Ab, nb, ab, fb, by omega, by omega, by rw [Int.natCast_succ], rfl, hnb, P7.out.mono fun T k => ⟨k.1, k.2.1.1⟩, X6.out.up (by omega)⟩, ?_⟩
            simp only [intOf]
            omega
          · have d2 : (d.k == 2) = false := beq_eq_false_iff_ne.2 hk2
            have HG2 := Lib.hid (HG.out hk1 hk2)
            have r7 := R7.out
            clear rp7 p0 p1 p2 p3 HG hk1 hk2
            go_wp2_with fail
            refine (ls_apply P7.out s6.out HT.out (by omega) d (fun T k => k.1.2.1) (.inl (by omega)) (by have := X6.out.n; omega)).mono ?_
            rintro e w8 ⟨A9, k9, rfl, h, -⟩
            rw [HG2.out.1] at h ⊢
            rw [HG2.out.2] at h
            have P8 := Lib.hid (ls_keep (h.mono fun T k => ⟨k.1, k.2.1, k.2.2⟩) (Stb.calm s6.out))
            obtain ⟨v8, hv8⟩ : ∃ v, v = w8.alloc (.cells #[.int .i64 r.c, .int .i64 r.n, .int .i64 r.m, .slice A9 r.T k9] 33) := ⟨_, rfl⟩
            rw [← hv8] at P8
            clear h P7 r7 R7 q0 q1 q2 q3 q4 q5 q6 cv7 d1 d2 HG2 RP7
            go_upto_region 16 with fail
            rw [← hv8]
            clear hv8
            have s8 := Lib.hid (Stb.and s6.out (Stb.rp (b := w8.heap.size) (r := r) (A := A9) (k := k9) hS5))
            clear s6
            obtain ⟨T8, -, ⟨-, kp⟩, kq⟩ := P8.out.fact
            have r8 := kp.1.1
            have r9 := kq.1.1
            have HR := Lib.hid (samerep_any r.c r.n r.m r.c r.n r.m r.T r.T k7 k9 A7 A9 r.f r.f v8 kp.2.sl kq.2.sl)
            clear kp kq
            go_wp2_with fail
            refine HR.out.mono ?_
            rintro e w9 ⟨rfl, hb9⟩
            rw [repS_refl]
            have P9 := Lib.hid (P8.out.calm (Stb.and (Stb.st (fun h => h) (fun h => h) (fun h => h)) (Stb.calm s8.out)) hb9)
            clear hb9 r8 r9 HR P8
            go_wp2_with fail
            refine (ls_enc P9.out (Stb.calm s8.out) (by omega) (X6.out.r (by omega))).mono ?_
            rintro e w10 ⟨A10, c10, rfl, ho, h, -⟩
            have cv10 : (convert 22 9 (.slice A10 (eSx x').length c10)).run Tryz.prog w10 = .ok (.string S) w10 := by rw [HSS.out]; exact conv_own ho
            have P10 := Lib.hid h
            obtain ⟨T10, -, ⟨-, kp⟩, -⟩ := h.fact
            obtain ⟨p0, p1, p2, p3⟩ := cells4 kp.1.1
            clear h ho kp P9
            by_cases hc0 : r.c = 0
            · have d1 : (r.c == 0) = true := beq_iff_eq.2 hc0
              by_cases hm0 : 0 < r.m
              · have d2 : decide (0 < r.m) = true := decide_eq_true hm0
                by_cases hT0 : 0 < r.T
                · have d3 : decide ((0 : Int) < (r.T : Int)) = true := decide_eq_true (by omega)
                  go_wp2_with fail
                  refine ⟨⟨j + 1, x', A7, r.T, k7, r.f, by omega, by omega, by rw [Int.natCast_succ], rfl, by omega, P10.out.mono fun T k => ⟨k.1, k.2.1.2.2⟩, X6.out.up (by omega)⟩, ?_⟩
                  simp only [intOf]
                  omega
                · have d3 : decide ((0 : Int) < (r.T : Int)) = false := decide_eq_false (by omega)
                  go_wp2_with fail
                  refine ⟨⟨j + 1, x', Ab, nb, ab, fb, by omega, by omega, by rw [Int.natCast_succ], rfl, hnb, P10.out.mono fun T k => ⟨k.1, k.2.1.1.1⟩, X6.out.up (by omega)⟩, ?_⟩
                  simp only [intOf]
                  omega
              · have d2 : decide (0 < r.m) = false := decide_eq_false hm0
                go_wp2_with fail
                refine ⟨⟨j + 1, x', Ab, nb, ab, fb, by omega, by omega, by rw [Int.natCast_succ], rfl, hnb, P10.out.mono fun T k => ⟨k.1, k.2.1.1.1⟩, X6.out.up (by omega)⟩, ?_⟩
                simp only [intOf]
                omega
            · have d1 : (r.c == 0) = false := beq_eq_false_iff_ne.2 hc0
              go_wp2_with fail
              refine ⟨⟨j + 1, x', Ab, nb, ab, fb, by omega, by omega, by rw [Int.natCast_succ], rfl, hnb, P10.out.mono fun T k => ⟨k.1, k.2.1.1.1⟩, X6.out.up (by omega)⟩, ?_⟩
              simp only [intOf]
              omega
      · have hd2 : decide ((j : Int) < 25) = false := by simp; omega
        have BE := Lib.hid P.out.bel
        go_wp2_with fail
        go_ret
        exact ⟨rfl, BE.out⟩
    · have hd : decide ((j : Int) < (l1.length : Int)) = false := by simp; omega
      have BE := Lib.hid P.out.bel
      go_wp2_with fail
      go_ret
      exact ⟨rfl, BE.out⟩

set_option maxRecDepth 100000 in
theorem lifted (os : Os) (started : os.Started) (H : Type) (enc : TypeId × Value → H) :
    ReturnsInHanded {} Tryz.checked os 6 .any (fun w args => (Rows.storeAgainSpec.pre enc Tryz.prog Tryz.f6 [] false w args ∧ laidMetH Tryz.prog laidL w) ∧ sizedMet enc Tryz.prog Tryz.f6 (OpenSpec.ofChange Rows.storeAgainSpec) false w args) (Rows.storeAgainSpec.post enc Tryz.prog Tryz.f6 false true false false) := by
  refine returnsInHanded_of_change_and (C := Tryz.checked) (X := fun w _ => laidMetH Tryz.prog laidL w) (fun _ _ _ hh h => h.of_heap hh) own started (by kernel_rfl) Tryz.func6
    (ChangeSpec.witness_shaped (enc := enc) (C := Tryz.checked) (os := os) (X := fun w _ => laidMetH Tryz.prog laidL w) false (World.doorLaid Tryz.prog 14 os) #[.slice none 0 0, .slice none 0 0] 8 rfl (World.shaped_of_RefB (by kernel_rfl) (by kernel_rfl)) (by kernel_rfl) (by kernel_rfl) (by kernel_rfl) (door_met os _)) ?_
  intro W base args ds gs before hval0 hW _ hsz0 hL _
  have hval : ∀ (j : Nat) t v, Tryz.f6.params[j]? = some t → args[j]? = some v → Value.okWide Tryz.prog W .any base t v := hval0
  have hW' := hW
  obtain ⟨p, q, hA0, hV, rfl, hfz, hnd⟩ := hW
  have hA : DataW.TrodAll enc Tryz.prog W 0 (fun _ => true) true Tryz.f6.params.toList args.toList ds p := hA0
  rw [Tryz.params6] at hA hval
  have hsz : (DataW.weightsEach Tryz.prog (Tryz.f6.params.toList ++ Rows.storeAgainSpec.plain.varTypes Tryz.prog) (ds ++ gs)).all (· ≤ reachBytes) = true := hsz0
  rw [Tryz.params6] at hsz
  clear hsz0
  obtain ⟨v0, vs0, d0, ds0, p0, q0, hargs, rfl, rfl, h0, r0⟩ := trodAll_cons hA
  obtain ⟨v1, vs1, d1, ds1, p1, q1, rfl, rfl, rfl, h1, r1⟩ := trodAll_cons r0
  obtain ⟨rfl, rfl, rfl⟩ := trodAll_nil r1
  obtain rfl : args = #[v0, v1] := by cases args; simp_all
  obtain ⟨rfl, rfl⟩ := trodVars_none hV
  have k0 := h0
  have lt0 : ∀ x ∈ p0, x.block < W.heap.size := by obtain ⟨m, hm⟩ := k0; exact DataW.trod_lt m _ _ _ hm
  obtain ⟨A0, n0, c0, a0, rfl, hs0, hm0⟩ := open_sl Tryz.underlying22 Tryz.underlying5 (by kernel_rfl) (hval 0 22 v0 rfl rfl) h0
  have hz0 : n0 ≤ 140737488351232 := by have := reach_sl Tryz.underlying22 k0 hsz (j := 0) rfl rfl; rw [show Tryz.prog.bytesOf 5 = 1 by kernel_rfl] at this; omega
  have k1 := h1
  have lt1 : ∀ x ∈ p1, x.block < W.heap.size := by obtain ⟨m, hm⟩ := k1; exact DataW.trod_lt m _ _ _ hm
  obtain ⟨l1, hl1⟩ := open_cms (hval 1 23 v1 rfl rfl) h1 hsz (j := 1) rfl rfl
  clear hA0 hval0
  refine (walk a0 n0 c0 A0 v1 l1 W hs0 hm0 hz0 hl1 (tab_of hL)).mono fun e W' ⟨he, bel⟩ => ?_
  subst he
  exact ⟨_, rfl, _, _, _, [], _, [], hW', trodAll_mk1 (shut_bool Tryz.underlying4 _), (trodAll_cons_mk (Below.trod laidOut (by kernel_rfl) (of_decide_eq_true (by kernel_rfl)) k0 bel lt0) (trodAll_cons_mk (Below.trod laidOut (by kernel_rfl) (of_decide_eq_true (by kernel_rfl)) k1 bel lt1) trodAll_mk0)), rfl, bel.frame _, fun h => by cases h⟩

set_option maxHeartbeats 4000000 in
theorem over : Rows.storeAgainRow.holds Tryz.pinned (OpenSpec.ofChange Rows.storeAgainSpec) :=
  OpenClaim.holds_of_wide 6 Tryz.f6 rfl rfl rfl rfl rfl rfl rfl ⟨rfl, rfl, rfl, rfl, rfl⟩ rfl rfl rfl rfl rfl (by as_aux_lemma => kernel_rfl) Tryz.func6 (by as_aux_lemma => kernel_rfl)
    (of_decide_eq_true (by as_aux_lemma => kernel_rfl)) (by unfold Func.isWrapper; first | (rw [if_pos (by decide +kernel)]; as_aux_lemma => kernel_rfl) | (rw [if_neg (by decide +kernel)]; exact ⟨rfl, rfl⟩))
    (fun os started H enc _ => lifted os started H enc)

set_option maxHeartbeats 4000000 in
theorem proved : Rows.StoreAgainCardSaid :=
  Claim7.holds_tied_plain_at .later [] [.data] true (true, "ef13907c1c22fa2efd37217ce8d311b19c0fecaf9c64df184703d01d535a1dd6") true
    over (fun _ h => by cases h) (by as_aux_lemma => kernel_rfl) (fun _ h => by cases h) storeAgain_row_tie rfl ⟨rfl, rfl⟩ (by as_aux_lemma => kernel_rfl) rfl
    (fun f fn hf hfn => by
      obtain rfl : f = 6 := Option.some.inj ((show Tryz.prog.funcNamed "strongroom/strongroomlaw16.StoreAgain" = some 6 by as_aux_lemma => kernel_rfl).symm.trans hf) |>.symm
      obtain rfl : fn = Tryz.f6 := (Option.some.inj (Tryz.func6.symm.trans hfn)).symm
      exact ⟨by as_aux_lemma => kernel_rfl, fun j t ht => by
        rw [Tryz.params6] at ht
        have hm : t ∈ [22, 23] := by simpa using Array.mem_of_getElem? ht
        have hall : ([22, 23].all fun u => !Tryz.prog.wantsStandIn u) = true := by as_aux_lemma => kernel_rfl
        exact (show Tryz.prog.wantsStandIn t = false by simpa using List.all_eq_true.1 hall t hm)⟩)
    (by as_aux_lemma => kernel_rfl)
#print axioms proved
end Go.Proofs.YteffjpdcghlnlaaGreatDoor.storeAgain
