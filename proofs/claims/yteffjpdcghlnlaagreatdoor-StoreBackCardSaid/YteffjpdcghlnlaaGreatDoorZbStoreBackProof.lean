/- The statement StoreBack: the law strongroomlaw16.StoreBack answers true for every input, and leaves its arguments as they were. Condition: the package variables that the row lists read at the call as the text of the program lays them; the card ties that. -/
import Derived.Test.YteffjpdcghlnlaaGreatDoorRows
import Derived.Test.YteffjpdcghlnlaaGreatDoorZbLib
import Derived.Test.YteffjpdcghlnlaaGreatDoorZbStBk
import Derived.Test.YteffjpdcghlnlaaGreatDoorZbTab
import Derived.Test.YteffjpdcghlnlaaGreatDoorCards
import Derived.Test.YteffjpdcghlnlaaGreatDoorTie
import Derived.SevenTiedAt
namespace Go.Proofs.YteffjpdcghlnlaaGreatDoor.storeBack
open Go.ChangeShapes Go.WideShapes Go.ChangeAt Go.RowKit
open Go.Proofs.YteffjpdcghlnlaaGreatDoor.Oct
set_option linter.unusedVariables false
theorem own : ownKnob Tryz.prog.godebug = none := by kernel_rfl
theorem laidOut : laidOutB Tryz.prog = true := by kernel_rfl
set_option maxRecDepth 20000 in
set_option maxHeartbeats 16000000 in
theorem walk (a0 : Nat → BitVec 8) (n0 c0 : Nat) (A0 : Option Addr) (v1 : Value) (l1 : List Cm) (a2 : Int) (w : World) (hs0 : Sl w w.heap.size A0 n0 c0 a0) (hm0 : c0 ≤ maxLen) (hz0 : n0 ≤ 140737488351232) (hl1 : InS 7 coE w v1 l1) (w2 : (Lit.int .i64 a2).wf = true) (htab : Tab w) :
  Calls Tryz.prog 5 #[.slice A0 n0 c0, v1, .int .i64 a2] w fun e w' => e = .returned (.bool true) ∧ Below w.heap.size w w' := by
 have HT := Lib.hid htab
 have HS := Lib.hid hs0
 have hlc := hs0.le
 have HM := Lib.hid hm0
 have HL := Lib.hid hl1
 obtain ⟨A1, c1, rfl, hle1, hcm1, -⟩ := hl1.at_
 have hS5 : ¬ H2 5 0 := hS0
 have hSt : ¬ H2 10 0 := by unfold H2; omega
 have hS10 : ¬ H2 5 10 := by unfold H2; omega
 have hS11 : ¬ H2 5 (10 + 1) := by unfold H2; omega
 have hT5 : ¬ H2 10 5 := by unfold H2; omega
 have hT6 : ¬ H2 10 (5 + 1) := by unfold H2; omega
 obtain ⟨b0, b1⟩ := wf_bd w2
 have HB := Lib.hid (And.intro b0 b1)
 obtain ⟨q, hq⟩ : ∃ q, q = a2 := ⟨_, rfl⟩
 rw [← hq] at HB ⊢
 clear hs0 hm0 htab hl1 hz0 w2 b0 b1 hq
 go_enter Tryz.func5, Tryz.ntmps5
 go_wp2_with fail
 refine (shown16_any w HT.out).mono ?_
 rintro e w1 ⟨rfl, hb1⟩
 have B1 := Lib.hid hb1
 clear hb1
 go_wp2_with fail
 refine (few16_any A0 n0 c0 hlc HM.out w1).mono ?_
 rintro e w1' ⟨rfl, rfl⟩
 obtain ⟨N, hN⟩ : ∃ N, N = min n0 100 := ⟨_, rfl⟩
 rw [← hN]
 have hN1 : N ≤ 100 := by omega
 have hN2 : N ≤ n0 := by omega
 have HNN := Lib.hid hN
 clear hN
 go_wp2_with fail
 refine (ls_start (t := 5) HT.out B1.out HS.out N hN1 hN2 (by omega)).mono ?_
 rintro e w2 ⟨B, rfl, h⟩
 have Q0 := Lib.hid h
 have X0 := Lib.hid (SxB.new a0 N)
 clear h B1
 go_wp2_with fail
 refine (few16_any A0 n0 c0 hlc HM.out w2).mono ?_
 rintro e w2' ⟨rfl, rfl⟩
 rw [← HNN.out]
 go_wp2_with fail
 refine (ls_begin (t := 10) Q0.out (Stb.and (Stb.st (fun h => h) (fun h => h) (fun h => h)) Stb.triv) HT.out HS.out N hN1 hN2 (by omega)).mono ?_
 rintro e w3 ⟨B', rfl, h⟩
 have Q1 := Lib.hid (show LS (fun T y => StAt T y 5 B (st0 a0 N) ∧ StAt T y 10 B' (st0 a0 N)) w w3 from h.mono fun T k => ⟨k.2.1, k.1⟩)
 clear h Q0 HS
 obtain ⟨bq, hbq⟩ : ∃ bq, bq = decide (q < 0) := ⟨_, rfl⟩
 have hd : decide (q < 0) = bq := hbq.symm
 have HBQ := Lib.hid hbq
 clear hbq
 go_upto_if 35 with fail
 go_cut [2, 35] from 36 to 38 (fun v bv wx => ∃ a : Int, v = .int .i64 a ∧ 0 ≤ a ∧ a < 9223372036854775808 ∧ wx = w3)
 case first =>
  clear hd
  cases bq with
  | true =>
   have hq0 : q < 0 := of_decide_eq_true HBQ.out.symm
   have e1 : IntKind.i64.wrap (q + 1) = q + 1 := IntWalk.i64_in _ (by have := HB.out; omega)
   have e2 : IntKind.i64.wrap (-(q + 1)) = -(q + 1) := IntWalk.i64_in _ (by have := HB.out; omega)
   have HQ := Lib.hid hq0
   clear hq0
   go_wp2_with fail
   go_meet
   exact ⟨-(q + 1), rfl, by have := HQ.out; omega, by have := HB.out; omega, rfl⟩
  | false =>
   have hq0 : ¬ q < 0 := of_decide_eq_false HBQ.out.symm
   have HQ := Lib.hid hq0
   clear hq0
   go_wp2_with fail
   go_meet
   exact ⟨q, rfl, by have := HQ.out; omega, by have := HB.out; omega, rfl⟩
 clear hd HBQ
 obtain ⟨a, rfl, ha0, ha1, rfl⟩ := hcut
 obtain ⟨R, hR⟩ : ∃ R : Int, R = Int.tmod a 25 := ⟨_, rfl⟩
 have hR2 : Int.tmod a 25 = R := hR.symm
 have hRw : IntKind.i64.wrap (Int.tmod a 25) = R := by rw [hR]; exact IntWalk.i64_in _ (by have := Int.tmod_nonneg 25 ha0; have := Int.tmod_lt_of_pos a (show (0 : Int) < 25 by omega); omega)
 clear hR HB ha0 ha1
 go_wp2_with fail
 go_loopw [8, 10, 11] (fun sv bv iv wr => ∃ (j : Nat) (x : Sx) (B : Nat) (Ab : Option Addr) (nb ab : Nat) (fb : Bf), j ≤ l1.length ∧ j ≤ 25 ∧ sv = .pointer (some ⟨B, 0, none⟩) ∧ iv = .int .i64 (j : Int) ∧ bv = .slice Ab nb ab ∧ nb ≤ 1000 ∧ LS (fun T y => (StAt T y 5 B x ∧ StAt T y 10 B' x) ∧ RdS T y 0 Ab nb ab fb) w wr ∧ SxB (100 + 4 * j) x) (fun _ _ iv _ => 25 - (intOf iv).toNat)
 case atStart =>
  exact ⟨0, st0 a0 N, B, some ⟨wc.heap.size, 0, none⟩, 0, 0, fun _ => 0#8, by omega, by omega, rfl, rfl, rfl, by omega, (Q1.out.calm (Stb.and (Stb.st (fun h => h) (fun h => h) (fun h => h)) (Stb.st (fun h => h) (fun h => h) (fun h => h))) ((Below.refl _ _).alloc (Nat.le_refl _) _)).mono fun T k => ⟨k, RdS.zero T _ _ _⟩, X0.out.up (by omega)⟩
 case round =>
  obtain ⟨j, x, B1, Ab, nb, ab, fb, hj, hj1, rfl, rfl, rfl, hnb, hp, hx⟩ := hrel
  obtain ⟨wo, rfl⟩ : ∃ wo : World, wo = wr := ⟨_, rfl⟩
  have P := Lib.hid hp
  have HX := Lib.hid hx
  have Bo := Lib.hid hp.bel
  clear hp hx Q1 X0
  by_cases hlt : j < l1.length
  ·have hd : decide ((j : Int) < (l1.length : Int)) = true := by simp; omega
   by_cases h25 : j < 25
   ·have hd2 : decide ((j : Int) < 25) = true := by simp; omega
    obtain ⟨gk, ok, cc, Ac, ac, Ac', ac', ev, hlc2, hldr, hs1, hs2, hcb⟩ := cms_at HL.out Bo.out hlt
    cases ev
    obtain ⟨c, hc⟩ : ∃ c, c = l1[j] := ⟨_, rfl⟩
    rw [← hc] at hldr hs1 hs2 hcb
    have hw : IntKind.i64.wrap ((j : Int) + 1) = (j : Int) + 1 := IntWalk.i64_in _ (by omega)
    have HA := Lib.hid (ls_asked P.out (Stb.and (Stb.and (Stb.st (fun h => h) (fun h => h) (fun h => h)) (Stb.st (fun h => h) (fun h => h) (fun h => h))) (Stb.rd (fun h => h))) c hs1 hs2 hcb (fun T k => k.2) (by omega))
    have HC := Lib.hid (And.intro hs1 (And.intro hs2 hcb))
    have HLC := Lib.hid hc
    clear hs1 hs2 hcb hc P
    go_wp2_with fail
    refine HA.out.mono ?_
    rintro e w5 ⟨A5, a5, A6, a6, rfl, h, -⟩
    obtain ⟨d, hdd⟩ : ∃ d, d = askC c nb fb := ⟨_, rfl⟩
    rw [← hdd] at h ⊢
    have HDD := Lib.hid hdd
    have P5 := Lib.hid (show LS (fun T y => StAt T y 5 B1 x ∧ ((StAt T y 10 B' x ∧ RdS T y 0 Ab nb ab fb) ∧ CmR T y 0 d A5 a5 A6 a6)) w w5 from h.mono fun T k => ⟨k.1.1.1, ⟨k.1.1.2, k.1.2⟩, k.2⟩)
    have s5 := Lib.hid (show Stb (H2 5) (fun T y => (StAt T y 10 B' x ∧ RdS T y 0 Ab nb ab fb) ∧ CmR T y 0 d A5 a5 A6 a6) from Stb.and (Stb.and (Stb.st hS5 hS10 hS11) (Stb.rd hS5)) (Stb.cm hS5))
    clear h HA hldr hdd
    go_wp2_with fail
    refine (ls_apply P5.out s5.out HT.out (by omega) d (fun T k => k.2) (.inl (by omega)) (by have := HX.out.n; omega)).mono ?_
    rintro e w6 ⟨A7, k7, rfl, h, -⟩
    have X6 := Lib.hid (HX.out.ap d)
    have hT7 := apR_T x d HX.out.sd
    obtain ⟨x', hx'⟩ : ∃ x', x' = apX x d := ⟨_, rfl⟩
    obtain ⟨r, hr⟩ : ∃ r, r = apR x d := ⟨_, rfl⟩
    rw [← hx'] at h X6
    rw [← hr] at h hT7 ⊢
    have HXR := Lib.hid (And.intro hx' hr)
    have P6 := Lib.hid (ls_keep (h.mono fun T k => ⟨k.1, k.2.1, k.2.2⟩) (Stb.calm s5.out))
    obtain ⟨v6, hv6⟩ : ∃ v, v = w6.alloc (.cells #[.int .i64 r.c, .int .i64 r.n, .int .i64 r.m, .slice A7 r.T k7] 33) := ⟨_, rfl⟩
    rw [← hv6] at P6
    clear h hx' hr P5
    go_upto_region 13 with fail
    rw [← hv6]
    clear hv6
    have B6 := Lib.hid P6.out.bel
    obtain ⟨gk2, ok2, cc2, Ac2, ac2, Ac2', ac2', ev2, hlc3, hldr2, hs3, hs4, hcb2⟩ := cms_at HL.out B6.out hlt
    cases ev2
    rw [← HLC.out] at hldr2 hs3 hs4 hcb2
    have HA2 := Lib.hid (ls_asked P6.out (Stb.and (Stb.st (fun h => h) (fun h => h) (fun h => h)) (Stb.and (Stb.calm s5.out) (Stb.rp (fun h => h)))) c hs3 hs4 hcb2 (fun T k => k.2.1.1.2) (by omega))
    clear hs3 hs4 hcb2 HC
    go_wp2_with fail
    refine HA2.out.mono ?_
    rintro e w7 ⟨A8, a8, A9, a9, rfl, h, -⟩
    rw [← HDD.out] at h ⊢
    have P7 := Lib.hid (show LS (fun T y => StAt T y 10 B' x ∧ (StAt T y 5 B1 x' ∧ (RdS T y 0 Ab nb ab fb ∧ (RpK w6.heap.size r A7 k7 T y ∧ CmR T y 0 d A8 a8 A9 a9)))) w w7 from h.mono fun T k => ⟨k.1.2.1.1.1, k.1.1, k.1.2.1.1.2, k.1.2.2, k.2⟩)
    have s7 := Lib.hid (show Stb (H2 10) (fun T y => StAt T y 5 B1 x' ∧ (RdS T y 0 Ab nb ab fb ∧ (RpK w6.heap.size r A7 k7 T y ∧ CmR T y 0 d A8 a8 A9 a9))) from Stb.and (Stb.st hSt hT5 hT6) (Stb.and (Stb.rd hSt) (Stb.and (Stb.rp hSt) (Stb.cm hSt))))
    clear h HA2 P6 s5 hldr2
    go_wp2_with fail
    refine (ls_apply P7.out s7.out HT.out (by omega) d (fun T k => k.2.2.2) (.inl (by omega)) (by have := HX.out.n; omega)).mono ?_
    rintro e w8 ⟨A10, k10, rfl, h, -⟩
    rw [← HXR.out.1, ← HXR.out.2] at h
    rw [← HXR.out.2]
    have P8 := Lib.hid (ls_keep (h.mono fun T k => ⟨k.1, k.2.1, k.2.2⟩) (Stb.calm s7.out))
    obtain ⟨v8, hv8⟩ : ∃ v, v = w8.alloc (.cells #[.int .i64 r.c, .int .i64 r.n, .int .i64 r.m, .slice A10 r.T k10] 33) := ⟨_, rfl⟩
    rw [← hv8] at P8
    clear h P7 HX
    go_upto_region 14 with fail
    rw [← hv8]
    clear hv8
    obtain ⟨T8, -, ⟨-, -, kp, -⟩, kq⟩ := P8.out.fact
    have r8 := kp.1.1
    have r9 := kq.1.1
    have HR := Lib.hid (samerep_any r.c r.n r.m r.c r.n r.m r.T r.T k7 k10 A7 A10 r.f r.f v8 kp.2.sl kq.2.sl)
    clear kp kq
    go_wp2_with fail
    refine HR.out.mono ?_
    rintro e w9 ⟨rfl, hb9⟩
    rw [repS_refl]
    have P9 := Lib.hid (P8.out.calm (Stb.and (Stb.st (fun h => h) (fun h => h) (fun h => h)) (Stb.and (Stb.calm s7.out) (Stb.rp (fun h => h)))) hb9)
    clear hb9 r8 r9 HR P8
    obtain ⟨T9, -, ⟨-, -, kp, -⟩, -⟩ := P9.out.fact
    obtain ⟨p0, p1, p2, p3⟩ := yM kp.1.1
    clear kp
    by_cases hc0 : r.c = 0
    ·have d1 : (r.c == 0) = true := beq_iff_eq.2 hc0
     by_cases hm0 : 0 < r.m
     ·have d2 : decide (0 < r.m) = true := decide_eq_true hm0
      by_cases hT0 : 0 < r.T
      ·have d3 : decide ((0 : Int) < (r.T : Int)) = true := decide_eq_true (by omega)
       have P10 := Lib.hid (show LS (fun T y => StAt T y 5 B1 x' ∧ (StAt T y 10 B' x' ∧ RdS T y 0 A7 r.T k7 r.f)) w w9 from P9.out.mono fun T k => ⟨k.2.1.1, k.1, k.2.1.2.2.1.2⟩)
       have s10 := Lib.hid (show Stb (fun _ => False) (fun T y => StAt T y 10 B' x' ∧ RdS T y 0 A7 r.T k7 r.f) from Stb.and (Stb.st (fun h => h) (fun h => h) (fun h => h)) (Stb.rd (fun h => h)))
       have HNB := Lib.hid (show r.T ≤ 1000 by omega)
       clear P9
       by_cases hjR : (j : Int) = R
       ·have d4 : ((j : Int) == R) = true := beq_iff_eq.2 hjR
        clear hjR
        go_wp2_with fail
        refine (ls_enc P10.out s10.out (by omega) (X6.out.r (by omega))).mono ?_
        rintro e w11 ⟨A11, c11, rfl, ho, h, -⟩
        obtain ⟨A12, c12, e12, hsl, -, -⟩ := ho.sl
        injection e12 with e13 e14 e15
        subst e13 e15
        have HS12 := Lib.hid hsl
        have P11 := Lib.hid (show LS (fun T y => StAt T y 10 B' x' ∧ RdS T y 0 A7 r.T k7 r.f) w w11 from h.mono fun T k => k.2)
        clear ho h hsl e14 P10
        go_wp2_with fail
        refine (ls_back (t := 5) P11.out s10.out (by omega) (X6.out.r (by omega)) HS12.out).mono ?_
        rintro e w12 ⟨B2, rfl, h⟩
        have P12 := Lib.hid h
        clear h P11
        go_wp2_with fail
        refine ⟨⟨j + 1, x', B2, A7, r.T, k7, r.f, by omega, by omega, rfl, by rw [Int.natCast_succ], rfl, HNB.out, P12.out.mono fun T k => ⟨⟨k.1, k.2.1⟩, k.2.2⟩, X6.out.up (by omega)⟩, ?_⟩
        simp only [intOf]
        omega
       ·have d4 : ((j : Int) == R) = false := beq_eq_false_iff_ne.2 hjR
        clear hjR
        go_wp2_with fail
        refine ⟨⟨j + 1, x', B1, A7, r.T, k7, r.f, by omega, by omega, rfl, by rw [Int.natCast_succ], rfl, HNB.out, P10.out.mono fun T k => ⟨⟨k.1, k.2.1⟩, k.2.2⟩, X6.out.up (by omega)⟩, ?_⟩
        simp only [intOf]
        omega
      ·have d3 : decide ((0 : Int) < (r.T : Int)) = false := decide_eq_false (by omega)
       have P10 := Lib.hid (show LS (fun T y => StAt T y 5 B1 x' ∧ (StAt T y 10 B' x' ∧ RdS T y 0 Ab nb ab fb)) w w9 from P9.out.mono fun T k => ⟨k.2.1.1, k.1, k.2.1.2.1⟩)
       have s10 := Lib.hid (show Stb (fun _ => False) (fun T y => StAt T y 10 B' x' ∧ RdS T y 0 Ab nb ab fb) from Stb.and (Stb.st (fun h => h) (fun h => h) (fun h => h)) (Stb.rd (fun h => h)))
       have HNB := Lib.hid (show nb ≤ 1000 by omega)
       clear P9
       by_cases hjR : (j : Int) = R
       ·have d4 : ((j : Int) == R) = true := beq_iff_eq.2 hjR
        clear hjR
        go_wp2_with fail
        refine (ls_enc P10.out s10.out (by omega) (X6.out.r (by omega))).mono ?_
        rintro e w11 ⟨A11, c11, rfl, ho, h, -⟩
        obtain ⟨A12, c12, e12, hsl, -, -⟩ := ho.sl
        injection e12 with e13 e14 e15
        subst e13 e15
        have HS12 := Lib.hid hsl
        have P11 := Lib.hid (show LS (fun T y => StAt T y 10 B' x' ∧ RdS T y 0 Ab nb ab fb) w w11 from h.mono fun T k => k.2)
        clear ho h hsl e14 P10
        go_wp2_with fail
        refine (ls_back (t := 5) P11.out s10.out (by omega) (X6.out.r (by omega)) HS12.out).mono ?_
        rintro e w12 ⟨B2, rfl, h⟩
        have P12 := Lib.hid h
        clear h P11
        go_wp2_with fail
        refine ⟨⟨j + 1, x', B2, Ab, nb, ab, fb, by omega, by omega, rfl, by rw [Int.natCast_succ], rfl, HNB.out, P12.out.mono fun T k => ⟨⟨k.1, k.2.1⟩, k.2.2⟩, X6.out.up (by omega)⟩, ?_⟩
        simp only [intOf]
        omega
       ·have d4 : ((j : Int) == R) = false := beq_eq_false_iff_ne.2 hjR
        clear hjR
        go_wp2_with fail
        refine ⟨⟨j + 1, x', B1, Ab, nb, ab, fb, by omega, by omega, rfl, by rw [Int.natCast_succ], rfl, HNB.out, P10.out.mono fun T k => ⟨⟨k.1, k.2.1⟩, k.2.2⟩, X6.out.up (by omega)⟩, ?_⟩
        simp only [intOf]
        omega
     ·have d2 : decide (0 < r.m) = false := decide_eq_false hm0
      have P10 := Lib.hid (show LS (fun T y => StAt T y 5 B1 x' ∧ (StAt T y 10 B' x' ∧ RdS T y 0 Ab nb ab fb)) w w9 from P9.out.mono fun T k => ⟨k.2.1.1, k.1, k.2.1.2.1⟩)
      have s10 := Lib.hid (show Stb (fun _ => False) (fun T y => StAt T y 10 B' x' ∧ RdS T y 0 Ab nb ab fb) from Stb.and (Stb.st (fun h => h) (fun h => h) (fun h => h)) (Stb.rd (fun h => h)))
      have HNB := Lib.hid (show nb ≤ 1000 by omega)
      clear P9
      by_cases hjR : (j : Int) = R
      ·have d4 : ((j : Int) == R) = true := beq_iff_eq.2 hjR
       clear hjR
       go_wp2_with fail
       refine (ls_enc P10.out s10.out (by omega) (X6.out.r (by omega))).mono ?_
       rintro e w11 ⟨A11, c11, rfl, ho, h, -⟩
       obtain ⟨A12, c12, e12, hsl, -, -⟩ := ho.sl
       injection e12 with e13 e14 e15
       subst e13 e15
       have HS12 := Lib.hid hsl
       have P11 := Lib.hid (show LS (fun T y => StAt T y 10 B' x' ∧ RdS T y 0 Ab nb ab fb) w w11 from h.mono fun T k => k.2)
       clear ho h hsl e14 P10
       go_wp2_with fail
       refine (ls_back (t := 5) P11.out s10.out (by omega) (X6.out.r (by omega)) HS12.out).mono ?_
       rintro e w12 ⟨B2, rfl, h⟩
       have P12 := Lib.hid h
       clear h P11
       go_wp2_with fail
       refine ⟨⟨j + 1, x', B2, Ab, nb, ab, fb, by omega, by omega, rfl, by rw [Int.natCast_succ], rfl, HNB.out, P12.out.mono fun T k => ⟨⟨k.1, k.2.1⟩, k.2.2⟩, X6.out.up (by omega)⟩, ?_⟩
       simp only [intOf]
       omega
      ·have d4 : ((j : Int) == R) = false := beq_eq_false_iff_ne.2 hjR
       clear hjR
       go_wp2_with fail
       refine ⟨⟨j + 1, x', B1, Ab, nb, ab, fb, by omega, by omega, rfl, by rw [Int.natCast_succ], rfl, HNB.out, P10.out.mono fun T k => ⟨⟨k.1, k.2.1⟩, k.2.2⟩, X6.out.up (by omega)⟩, ?_⟩
       simp only [intOf]
       omega
    ·have d1 : (r.c == 0) = false := beq_eq_false_iff_ne.2 hc0
     have P10 := Lib.hid (show LS (fun T y => StAt T y 5 B1 x' ∧ (StAt T y 10 B' x' ∧ RdS T y 0 Ab nb ab fb)) w w9 from P9.out.mono fun T k => ⟨k.2.1.1, k.1, k.2.1.2.1⟩)
     have s10 := Lib.hid (show Stb (fun _ => False) (fun T y => StAt T y 10 B' x' ∧ RdS T y 0 Ab nb ab fb) from Stb.and (Stb.st (fun h => h) (fun h => h) (fun h => h)) (Stb.rd (fun h => h)))
     have HNB := Lib.hid (show nb ≤ 1000 by omega)
     clear P9
     by_cases hjR : (j : Int) = R
     ·have d4 : ((j : Int) == R) = true := beq_iff_eq.2 hjR
      clear hjR
      go_wp2_with fail
      refine (ls_enc P10.out s10.out (by omega) (X6.out.r (by omega))).mono ?_
      rintro e w11 ⟨A11, c11, rfl, ho, h, -⟩
      obtain ⟨A12, c12, e12, hsl, -, -⟩ := ho.sl
      injection e12 with e13 e14 e15
      subst e13 e15
      have HS12 := Lib.hid hsl
      have P11 := Lib.hid (show LS (fun T y => StAt T y 10 B' x' ∧ RdS T y 0 Ab nb ab fb) w w11 from h.mono fun T k => k.2)
      clear ho h hsl e14 P10
      go_wp2_with fail
      refine (ls_back (t := 5) P11.out s10.out (by omega) (X6.out.r (by omega)) HS12.out).mono ?_
      rintro e w12 ⟨B2, rfl, h⟩
      have P12 := Lib.hid h
      clear h P11
      go_wp2_with fail
      refine ⟨⟨j + 1, x', B2, Ab, nb, ab, fb, by omega, by omega, rfl, by rw [Int.natCast_succ], rfl, HNB.out, P12.out.mono fun T k => ⟨⟨k.1, k.2.1⟩, k.2.2⟩, X6.out.up (by omega)⟩, ?_⟩
      simp only [intOf]
      omega
     ·have d4 : ((j : Int) == R) = false := beq_eq_false_iff_ne.2 hjR
      clear hjR
      go_wp2_with fail
      refine ⟨⟨j + 1, x', B1, Ab, nb, ab, fb, by omega, by omega, rfl, by rw [Int.natCast_succ], rfl, HNB.out, P10.out.mono fun T k => ⟨⟨k.1, k.2.1⟩, k.2.2⟩, X6.out.up (by omega)⟩, ?_⟩
      simp only [intOf]
      omega
   ·have hd2 : decide ((j : Int) < 25) = false := by simp; omega
    have Q9 := Lib.hid (show LS (fun T y => StAt T y 5 B1 x ∧ StAt T y 10 B' x) w wo from P.out.mono fun T k => k.1)
    clear P
    go_upto_region 24 with fail
    refine yF [([0, 3], 1, false), ([2], 4, false)] [5, 6, 7] (by kernel_rfl) (by kernel_rfl) (fun _ _ _ _ _ h => h) fun Y => ?_
    have Q10 := Lib.hid (Q9.out.calm (Stb.and (Stb.st (fun h => h) (fun h => h) (fun h => h)) (Stb.st (fun h => h) (fun h => h) (fun h => h))) Y.below)
    obtain ⟨w10, hw10⟩ : ∃ w10, w10 = Y.val := ⟨_, rfl⟩
    rw [← hw10] at Q10 ⊢
    clear hw10 Y Q9
    simp only [wpFs, pk, List.getElem?_cons_zero, List.getElem?_cons_succ]
    repeat (go_big_quiet_step (fail))
    refine wpQuiet_nil ?_
    go_wp2_with fail
    refine (ls_enc Q10.out (Stb.st (fun h => h) (fun h => h) (fun h => h)) (by omega) (HX.out.r (by omega))).mono ?_
    rintro e w11 ⟨A11, c11, rfl, ho, h, hb⟩
    obtain ⟨S, hS⟩ : ∃ S, S = sxS x := ⟨_, rfl⟩
    have cv11 : ∀ y : After w11, (convert 22 9 (.slice A11 (eSx x).length c11)).run Tryz.prog y.val = .ok (.string (sxS x)) y.val := fun y => conv_own (ho.below y.below (Nat.le_refl _))
    rw [← hS] at cv11
    have HSS := Lib.hid hS
    have Q11 := Lib.hid (show LS (fun T y => StAt T y 10 B' x ∧ StAt T y 5 B1 x) w w11 from h.mono fun T k => ⟨k.2, k.1⟩)
    have HB := Lib.hid hb
    clear h ho hS Q10 hb
    go_wp2_with fail
    first | refine ⟨HB.out, ?_⟩ | refine ⟨.inr HB.out, ?_⟩
    show wpQuiet _ _ _ _ _ _
    repeat (go_big_quiet_step (fail))
    refine wpQuiet_nil ?_
    clear cv11 HB
    go_wp2_with fail
    refine (ls_enc Q11.out (Stb.st (fun h => h) (fun h => h) (fun h => h)) (by omega) (HX.out.r (by omega))).mono ?_
    rintro e w12 ⟨A12, c12, rfl, ho, h, hb⟩
    have cv12 : ∀ y : After w12, (convert 22 9 (.slice A12 (eSx x).length c12)).run Tryz.prog y.val = .ok (.string (sxS x)) y.val := fun y => conv_own (ho.below y.below (Nat.le_refl _))
    rw [← HSS.out] at cv12
    have BE := Lib.hid h.bel
    have HB := Lib.hid hb
    clear h ho Q11 hb
    go_wp2_with fail
    first | refine ⟨HB.out, ?_⟩ | refine ⟨.inr HB.out, ?_⟩
    show wpQuiet _ _ _ _ _ _
    repeat (go_big_quiet_step (fail))
    refine wpQuiet_nil ?_
    clear cv12 HB
    go_wp2_with fail
    go_ret
    exact ⟨rfl, BE.out⟩
  ·have hd : decide ((j : Int) < (l1.length : Int)) = false := by simp; omega
   have Q9 := Lib.hid (show LS (fun T y => StAt T y 5 B1 x ∧ StAt T y 10 B' x) w wo from P.out.mono fun T k => k.1)
   clear P
   go_upto_region 24 with fail
   refine yF [([0, 3], 1, false), ([2], 4, false)] [5, 6, 7] (by kernel_rfl) (by kernel_rfl) (fun _ _ _ _ _ h => h) fun Y => ?_
   have Q10 := Lib.hid (Q9.out.calm (Stb.and (Stb.st (fun h => h) (fun h => h) (fun h => h)) (Stb.st (fun h => h) (fun h => h) (fun h => h))) Y.below)
   obtain ⟨w10, hw10⟩ : ∃ w10, w10 = Y.val := ⟨_, rfl⟩
   rw [← hw10] at Q10 ⊢
   clear hw10 Y Q9
   simp only [wpFs, pk, List.getElem?_cons_zero, List.getElem?_cons_succ]
   repeat (go_big_quiet_step (fail))
   refine wpQuiet_nil ?_
   go_wp2_with fail
   refine (ls_enc Q10.out (Stb.st (fun h => h) (fun h => h) (fun h => h)) (by omega) (HX.out.r (by omega))).mono ?_
   rintro e w11 ⟨A11, c11, rfl, ho, h, hb⟩
   obtain ⟨S, hS⟩ : ∃ S, S = sxS x := ⟨_, rfl⟩
   have cv11 : ∀ y : After w11, (convert 22 9 (.slice A11 (eSx x).length c11)).run Tryz.prog y.val = .ok (.string (sxS x)) y.val := fun y => conv_own (ho.below y.below (Nat.le_refl _))
   rw [← hS] at cv11
   have HSS := Lib.hid hS
   have Q11 := Lib.hid (show LS (fun T y => StAt T y 10 B' x ∧ StAt T y 5 B1 x) w w11 from h.mono fun T k => ⟨k.2, k.1⟩)
   have HB := Lib.hid hb
   clear h ho hS Q10 hb
   go_wp2_with fail
   first | refine ⟨HB.out, ?_⟩ | refine ⟨.inr HB.out, ?_⟩
   show wpQuiet _ _ _ _ _ _
   repeat (go_big_quiet_step (fail))
   refine wpQuiet_nil ?_
   clear cv11 HB
   go_wp2_with fail
   refine (ls_enc Q11.out (Stb.st (fun h => h) (fun h => h) (fun h => h)) (by omega) (HX.out.r (by omega))).mono ?_
   rintro e w12 ⟨A12, c12, rfl, ho, h, hb⟩
   have cv12 : ∀ y : After w12, (convert 22 9 (.slice A12 (eSx x).length c12)).run Tryz.prog y.val = .ok (.string (sxS x)) y.val := fun y => conv_own (ho.below y.below (Nat.le_refl _))
   rw [← HSS.out] at cv12
   have BE := Lib.hid h.bel
   have HB := Lib.hid hb
   clear h ho Q11 hb
   go_wp2_with fail
   first | refine ⟨HB.out, ?_⟩ | refine ⟨.inr HB.out, ?_⟩
   show wpQuiet _ _ _ _ _ _
   repeat (go_big_quiet_step (fail))
   refine wpQuiet_nil ?_
   clear cv12 HB
   go_wp2_with fail
   go_ret
   exact ⟨rfl, BE.out⟩
set_option maxRecDepth 100000 in
theorem lifted (os : Os) (started : os.Started) (H : Type) (enc : TypeId × Value → H) :
  ReturnsInHanded {} Tryz.checked os 5 .any (fun w args => (Rows.storeBackSpec.pre enc Tryz.prog Tryz.f5 [] false w args ∧ laidMetH Tryz.prog laidL w) ∧ sizedMet enc Tryz.prog Tryz.f5 (OpenSpec.ofChange Rows.storeBackSpec) false w args) (Rows.storeBackSpec.post enc Tryz.prog Tryz.f5 false true false false) := by
 refine returnsInHanded_of_change_and (C := Tryz.checked) (X := fun w _ => laidMetH Tryz.prog laidL w) (fun _ _ _ hh h => h.of_heap hh) own started (by kernel_rfl) Tryz.func5
  (ChangeSpec.witness_shaped (enc := enc) (C := Tryz.checked) (os := os) (X := fun w _ => laidMetH Tryz.prog laidL w) false (World.doorLaid Tryz.prog 14 os) #[.slice none 0 0, .slice none 0 0, .int .i64 0] 8 rfl (World.shaped_of_RefB (by kernel_rfl) (by kernel_rfl)) (by kernel_rfl) (by kernel_rfl) (by kernel_rfl) (door_met os _)) ?_
 intro W base args ds gs before hval0 hW _ hsz0 hL _
 have hval : ∀ (j : Nat) t v, Tryz.f5.params[j]? = some t → args[j]? = some v → Value.okWide Tryz.prog W .any base t v := hval0
 have hW' := hW
 obtain ⟨p, q, hA0, hV, rfl, hfz, hnd⟩ := hW
 have hA : DataW.TrodAll enc Tryz.prog W 0 (fun _ => true) true Tryz.f5.params.toList args.toList ds p := hA0
 rw [Tryz.params5] at hA hval
 have hsz : (DataW.weightsEach Tryz.prog (Tryz.f5.params.toList ++ Rows.storeBackSpec.plain.varTypes Tryz.prog) (ds ++ gs)).all (· ≤ reachBytes) = true := hsz0
 rw [Tryz.params5] at hsz
 clear hsz0
 obtain ⟨v0, vs0, d0, ds0, p0, q0, hargs, rfl, rfl, h0, r0⟩ := trodAll_cons hA
 obtain ⟨v1, vs1, d1, ds1, p1, q1, rfl, rfl, rfl, h1, r1⟩ := trodAll_cons r0
 obtain ⟨v2, vs2, d2, ds2, p2, q2, rfl, rfl, rfl, h2, r2⟩ := trodAll_cons r1
 obtain ⟨rfl, rfl, rfl⟩ := trodAll_nil r2
 obtain rfl : args = #[v0, v1, v2] := by cases args; simp_all
 obtain ⟨rfl, rfl⟩ := trodVars_none hV
 have k0 := h0
 have lt0 : ∀ x ∈ p0, x.block < W.heap.size := by obtain ⟨m, hm⟩ := k0; exact DataW.trod_lt m _ _ _ hm
 obtain ⟨A0, n0, c0, a0, rfl, hs0, hm0⟩ := open_sl Tryz.underlying22 Tryz.underlying5 (by kernel_rfl) (hval 0 22 v0 rfl rfl) h0
 have hz0 : n0 ≤ 140737488351232 := by have := reach_sl Tryz.underlying22 k0 hsz (j := 0) rfl rfl; rw [show Tryz.prog.bytesOf 5 = 1 by kernel_rfl] at this; omega
 have k1 := h1
 have lt1 : ∀ x ∈ p1, x.block < W.heap.size := by obtain ⟨m, hm⟩ := k1; exact DataW.trod_lt m _ _ _ hm
 obtain ⟨l1, hl1⟩ := open_cms (hval 1 23 v1 rfl rfl) h1 hsz (j := 1) rfl rfl
 obtain ⟨a2, rfl, rfl, rfl, w2⟩ := open_int Tryz.underlying3 (hval 2 3 v2 rfl rfl) h2
 clear hA0 hval0
 refine (walk a0 n0 c0 A0 v1 l1 a2 W hs0 hm0 hz0 hl1 w2 (tab_of hL)).mono fun e W' ⟨he, bel⟩ => ?_
 subst he
 exact ⟨_, rfl, _, _, _, [], _, [], hW', trodAll_mk1 (shut_bool Tryz.underlying4 _), (trodAll_cons_mk (Below.trod laidOut (by kernel_rfl) (of_decide_eq_true (by kernel_rfl)) k0 bel lt0) (trodAll_cons_mk (Below.trod laidOut (by kernel_rfl) (of_decide_eq_true (by kernel_rfl)) k1 bel lt1) (trodAll_cons_mk (shut_int Tryz.underlying3 w2) trodAll_mk0))), rfl, bel.frame _, fun h => by cases h⟩
set_option maxHeartbeats 4000000 in
theorem over : Rows.storeBackRow.holds Tryz.pinned (OpenSpec.ofChange Rows.storeBackSpec) :=
 OpenClaim.holds_of_wide 5 Tryz.f5 rfl rfl rfl rfl rfl rfl rfl ⟨rfl, rfl, rfl, rfl, rfl⟩ rfl rfl rfl rfl rfl (by as_aux_lemma => kernel_rfl) Tryz.func5 (by as_aux_lemma => kernel_rfl)
  (of_decide_eq_true (by as_aux_lemma => kernel_rfl)) (by unfold Func.isWrapper; first | (rw [if_pos (by decide +kernel)]; as_aux_lemma => kernel_rfl) | (rw [if_neg (by decide +kernel)]; exact ⟨rfl, rfl⟩))
  (fun os started H enc _ => lifted os started H enc)
set_option maxHeartbeats 4000000 in
theorem proved : Rows.StoreBackCardSaid :=
 Claim7.holds_tied_plain_at .later [] [.data] true (true, "ef13907c1c22fa2efd37217ce8d311b19c0fecaf9c64df184703d01d535a1dd6") true
  over (fun _ h => by cases h) (by as_aux_lemma => kernel_rfl) (fun _ h => by cases h) storeBack_row_tie rfl ⟨rfl, rfl⟩ (by as_aux_lemma => kernel_rfl) rfl
  (fun f fn hf hfn => by
   obtain rfl : f = 5 := Option.some.inj ((show Tryz.prog.funcNamed "strongroom/strongroomlaw16.StoreBack" = some 5 by as_aux_lemma => kernel_rfl).symm.trans hf) |>.symm
   obtain rfl : fn = Tryz.f5 := (Option.some.inj (Tryz.func5.symm.trans hfn)).symm
   exact ⟨by as_aux_lemma => kernel_rfl, fun j t ht => by
    rw [Tryz.params5] at ht
    have hm : t ∈ [22, 23, 3] := by simpa using Array.mem_of_getElem? ht
    have hall : ([22, 23, 3].all fun u => !Tryz.prog.wantsStandIn u) = true := by as_aux_lemma => kernel_rfl
    exact (show Tryz.prog.wantsStandIn t = false by simpa using List.all_eq_true.1 hall t hm)⟩)
  (by as_aux_lemma => kernel_rfl)
#print axioms proved
end Go.Proofs.YteffjpdcghlnlaaGreatDoor.storeBack
