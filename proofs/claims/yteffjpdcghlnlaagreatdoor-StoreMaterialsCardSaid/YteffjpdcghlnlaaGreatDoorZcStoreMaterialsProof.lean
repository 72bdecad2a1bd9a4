/- The statement StoreMaterials: the law strongroomlaw16.StoreMaterials answers true for every input, and leaves its arguments as they were. Condition: the package variables that the row lists read at the call as the text of the program lays them; the card ties that. -/
import Derived.Test.YteffjpdcghlnlaaGreatDoorRows
import Derived.Test.YteffjpdcghlnlaaGreatDoorZcLib
import Derived.Test.YteffjpdcghlnlaaGreatDoorZcStB3
import Derived.Test.YteffjpdcghlnlaaGreatDoorZcStRd
import Derived.Test.YteffjpdcghlnlaaGreatDoorZcTab
import Derived.Test.YteffjpdcghlnlaaGreatDoorCards
import Derived.Test.YteffjpdcghlnlaaGreatDoorTie
import Derived.SevenTiedAt
namespace Go.Proofs.YteffjpdcghlnlaaGreatDoor.storeMaterials
open Go.ChangeShapes Go.WideShapes Go.ChangeAt Go.RowKit
open Go.Proofs.YteffjpdcghlnlaaGreatDoor.Oct
set_option linter.unusedVariables false
theorem own : ownKnob Tryz.prog.godebug = none := by kernel_rfl
theorem laidOut : laidOutB Tryz.prog = true := by kernel_rfl
theorem ver_sl (w : World) (g o : Nat) (x : Ve) (h : ∀ j, j < 34 → w.cell? ⟨g, o + j, none⟩ = (veC x)[j]?) (hg : g < w.heap.size) : Sl w w.heap.size (some ⟨g, o, none⟩) 32 32 x.m :=
 ⟨Nat.le_refl _, fun _ => ⟨g, o, rfl, hg, fun i hi => by rw [h i (by omega)]; exact veC_m x i hi⟩⟩
def strM (f : Nat → BitVec 8) := Oct.strOf 32 f
set_option maxRecDepth 20000 in
set_option maxHeartbeats 16000000 in
theorem walk (a0 : Nat → BitVec 8) (n0 c0 : Nat) (A0 : Option Addr) (a1 : Nat → BitVec 8) (n1 c1 : Nat) (A1 : Option Addr) (w : World) (hs0 : Sl w w.heap.size A0 n0 c0 a0) (hm0 : c0 ≤ maxLen) (hs1 : Sl w w.heap.size A1 n1 c1 a1) (hm1 : c1 ≤ maxLen) (htab : Tab w) :
  Calls Tryz.prog 8 #[.slice A0 n0 c0, .slice A1 n1 c1] w fun e w' => e = .returned (.bool true) ∧ Below w.heap.size w w' := by
 have HT := Lib.hid htab
 have HS := Lib.hid hs0
 have hlc := hs0.le
 have HM := Lib.hid hm0
 have HS1 := Lib.hid hs1
 have hlc1 := hs1.le
 have HM1 := Lib.hid hm1
 have hS5 : ¬ H2 5 0 := hS0
 have h20 : ¬ H2 5 20 := by unfold H2; omega
 have bO := co_bO
 clear hs0 hm0 htab hs1 hm1
 go_enter Tryz.func8, Tryz.ntmps8
 go_wp2_with fail
 refine (shown16_any w HT.out).mono ?_
 rintro e w1 ⟨rfl, hb1⟩
 have B1 := Lib.hid hb1
 clear hb1
 go_wp2_with fail
 refine (few16_any A0 n0 c0 hlc HM.out w1).mono ?_
 rintro e w1' ⟨rfl, rfl⟩
 obtain ⟨N, hN⟩ : ∃ N, N = min n0 100 := ⟨_, rfl⟩
 rw [← hN]
 have hN1 : N ≤ 100 := by omega
 have hN2 : N ≤ n0 := by omega
 have HN := Lib.hid hN
 clear hN
 go_wp2_with fail
 refine (ls_start (t := 5) HT.out B1.out HS.out N hN1 hN2 (by omega)).mono ?_
 rintro e w0 ⟨B, rfl, h⟩
 have Q0 := Lib.hid h
 have X0 := Lib.hid (SxB.new a0 N)
 clear h B1
 go_wp2_with fail
 refine (few16_any A0 n0 c0 hlc HM.out w0).mono ?_
 rintro e w0' ⟨rfl, rfl⟩
 rw [← HN.out]
 go_wp2_with fail
 have P1 := Lib.hid ((Q0.out.sl HS.out).sl HS1.out)
 have sK : Stb (fun _ => False) (fun T y => (((StAt T y 5 B (st0 a0 N) ∧ True) ∧ RdS T y 0 A0 n0 c0 a0) ∧ RdS T y 0 A1 n1 c1 a1)) := Stb.and (Stb.and (Stb.and (Stb.st (fun h => h) (fun h => h) (fun h => h)) Stb.triv) (Stb.rd (fun h => h))) (Stb.rd (fun h => h))
 refine (ls_rnew P1.out sK (t := 20) (by omega) (f := a0) (N := N) (fun T k => k.1.2.upto N hN2) (by omega)).mono ?_
 rintro e w2 ⟨g, rfl, h, -⟩
 obtain ⟨x1, x2, x3, x4, dm, h1, h2, h3, h4, h5, h6, h7, h8⟩ := run_mat a0 N n1 a1
 obtain ⟨d0, hd0⟩ : ∃ d0 : St, d0 = updS newS a0 N := ⟨_, rfl⟩
 rw [← hd0] at h h5 h6 h8
 have HR := Lib.hid (And.intro h1 (And.intro h2 (And.intro h3 (And.intro h7 h8))))
 have HC := Lib.hid h4
 have HD1 := Lib.hid h5
 have HD2 := Lib.hid h6
 have Q1 := Lib.hid (show LS (fun T y => StAt T y 5 B (st0 a0 N) ∧ (RdS T y 0 A1 n1 c1 a1 ∧ DrAt T y 20 g d0 1)) w w2 from h.mono fun T k => ⟨k.1.1.1.1, k.1.2, k.2⟩)
 clear h h1 h2 h3 h4 h5 h6 h7 h8 hd0 Q0 P1 sK
 have s1 := Lib.hid (show Stb (H2 5) (fun T y => RdS T y 0 A1 n1 c1 a1 ∧ DrAt T y 20 g d0 1) from Stb.and (Stb.rd hS5) (Stb.dr h20 hS5))
 go_wp2_with fail
 refine (yY Q1.out s1.out HT.out (by omega) cmO (fun T k => CmR.nothing T _ _ rfl rfl) (.inl (by omega)) (by have := X0.out.n; omega)).mono ?_
 rintro e w3 ⟨A3, k3, rfl, h, -⟩
 rw [HR.out.1] at h
 have X1 := Lib.hid (show SxB 2 x1 from by have h := X0.out.ap cmO; rw [HR.out.1] at h; exact h)
 have Q2 := Lib.hid (h.mono (K' := fun T y => StAt T y 5 B x1 ∧ (RdS T y 0 A1 n1 c1 a1 ∧ DrAt T y 20 g d0 1)) fun T k => ⟨k.1, k.2.1⟩)
 clear h Q1 X0 bO
 have bd := co_bC
 go_wp2_with fail
 refine (yY Q2.out s1.out HT.out (by omega) (cmC 1 1) (fun T k => CmR.nothing T _ _ rfl rfl) (.inl (by omega)) (by have := X1.out.n; omega)).mono ?_
 rintro e w4 ⟨A4, k4, rfl, h, -⟩
 rw [HR.out.2.1] at h
 have X2 := Lib.hid (show SxB 3 x2 from by have h := X1.out.ap (cmC 1 1); rw [HR.out.2.1] at h; exact h)
 have Q3 := Lib.hid (h.mono (K' := fun T y => (StAt T y 5 B x2 ∧ RdS T y 0 A1 n1 c1 a1) ∧ DrAt T y 20 g d0 1) fun T k => ⟨⟨k.1, k.2.1.1⟩, k.2.1.2⟩)
 clear h Q2 X1 bd
 go_wp2_with fail
 refine (ls_rdraw Q3.out (Stb.and (Stb.st (by omega) (by omega) (by omega)) (Stb.rd (by omega))) (by omega) (by omega) (by omega)).mono ?_
 rintro e w5 ⟨Aa, ca, rfl, h, -⟩
 have Q4 := Lib.hid (h.mono (K' := fun T y => StAt T y 5 B x2 ∧ ((RdS T y 0 A1 n1 c1 a1 ∧ RdS T y 0 Aa 32 ca (drM d0)) ∧ DrAt T y 20 g (drD d0) (1 + 1))) fun T k => ⟨k.1.1.1, ⟨k.1.1.2, k.1.2⟩, k.2⟩)
 clear h Q3 s1
 have s4 := Lib.hid (show Stb (H2 5) (fun T y => (RdS T y 0 A1 n1 c1 a1 ∧ RdS T y 0 Aa 32 ca (drM d0)) ∧ DrAt T y 20 g (drD d0) (1 + 1)) from Stb.and (Stb.and (Stb.rd hS5) (Stb.rd hS5)) (Stb.dr h20 hS5))
 have bd := co_bS 1 2 n1 a1 A1 c1
 go_wp2_with fail
 refine (yY Q4.out s4.out HT.out (by omega) (cmS 1 2 n1 a1) (fun T k => CmR.data k.1.1 rfl) (.inl (by omega)) (by have := X2.out.n; omega)).mono ?_
 rintro e w6 ⟨A6, k6, rfl, h, -⟩
 rw [HR.out.2.2.1] at h
 have X3 := Lib.hid (show SxB 4 x3 from by have h := X2.out.ap (cmS 1 2 n1 a1); rw [HR.out.2.2.1] at h; exact h)
 have Q5 := Lib.hid (ls_keep (h.mono fun T k => ⟨k.1, k.2.1, k.2.2⟩) (Stb.calm s4.out))
 obtain ⟨r, hr⟩ : ∃ r, r = apR x2 (cmS 1 2 n1 a1) := ⟨_, rfl⟩
 rw [← hr] at Q5 HC ⊢
 obtain ⟨v6, hv6⟩ : ∃ v, v = w6.alloc (.cells #[.int .i64 r.c, .int .i64 r.n, .int .i64 r.m, .slice A6 r.T k6] 33) := ⟨_, rfl⟩
 rw [← hv6] at Q5
 clear h Q4 X2 bd hr
 go_upto_region 10 with fail
 rw [← hv6]
 clear hv6
 obtain ⟨T6, -, -, kp⟩ := Q5.out.fact
 obtain ⟨p0, p1, p2, p3⟩ := cells4 kp.1.1
 have rr6 := Lib.hid kp.1.1
 clear kp p1 p2 p3
 by_cases hT : 1 ≤ n1 ∧ n1 ≤ 64
 case' pos =>
  have hc := HC.out.2 hT
  have d1 : (r.c == 0) = true := beq_iff_eq.2 hc
  have HDD := Lib.hid (HD1.out hT)
  have HV := Lib.hid hc
  have Q6 := Lib.hid (Q5.out.mono (K' := fun T y => (StAt T y 5 B x3 ∧ (RdS T y 0 A1 n1 c1 a1 ∧ (RdS T y 0 Aa 32 ca (drM d0) ∧ RpK w6.heap.size r A6 k6 T y))) ∧ DrAt T y 20 g (drD d0) (1 + 1)) fun T k => ⟨⟨k.1, k.2.1.1.1, k.2.1.1.2, k.2.2⟩, k.2.1.2⟩)
  clear Q5 hc s4 rr6
  go_wp2_with fail
  refine (ls_rreseed Q6.out (Stb.and (Stb.st (by omega) (by omega) (by omega)) (Stb.and (Stb.rd (by omega)) (Stb.and (Stb.rd (by omega)) (Stb.rp (by omega))))) (by omega) (fun T k => k.2.1) (by omega)).mono ?_
  rintro e w7 ⟨rfl, h, -⟩
  rw [← HDD.out] at h
  have Q7 := Lib.hid (show ∃ nn : Int, 0 ≤ nn ∧ nn ≤ 10 ∧ LS (fun T y => StAt T y 5 B x3 ∧ ((RdS T y 0 Aa 32 ca (drM d0) ∧ RpK w6.heap.size r A6 k6 T y) ∧ DrAt T y 20 g dm nn)) w w7 from ⟨1, by omega, by omega, h.mono fun T k => ⟨k.1.1, ⟨k.1.2.2.1, k.1.2.2.2⟩, k.2⟩⟩)
  clear h Q6 p0 HDD
  obtain ⟨nn, hn0, hn1, h⟩ := Q7.out
  obtain ⟨T7, -, ⟨-, kp⟩, -⟩ := h.fact
  obtain ⟨p0, -, -, -⟩ := cells4 kp.1.1
  have e1 : decide ((1 : Int) ≤ (n1 : Int)) = true := decide_eq_true (by omega)
  have e2 : decide ((n1 : Int) ≤ 64) = true := decide_eq_true (by omega)
  have HQ := Lib.hid (And.intro hn0 (And.intro hn1 h))
  clear h kp Q7 hn0 hn1
  have bd := co_bR
  go_upto_region 14 with fail
 case' neg =>
  have d1 : (r.c == 0) = false := beq_eq_false_iff_ne.2 fun h => hT (HC.out.1 h)
  have HDD := Lib.hid (HD2.out hT)
  obtain ⟨w7, hw7⟩ : ∃ w7, w7 = v6 := ⟨_, rfl⟩
  rw [← hw7] at Q5 p0 ⊢
  have HQ := Lib.hid (show (0 : Int) ≤ 2 ∧ (2 : Int) ≤ 10 ∧ LS (fun T y => StAt T y 5 B x3 ∧ ((RdS T y 0 Aa 32 ca (drM d0) ∧ RpK w6.heap.size r A6 k6 T y) ∧ DrAt T y 20 g dm 2)) w w7 from ⟨by omega, by omega, by rw [HDD.out]; exact Q5.out.mono fun T k => ⟨k.1, ⟨k.2.1.1.2, k.2.2⟩, k.2.1.2⟩⟩)
  obtain ⟨nn, hnn⟩ : ∃ nn : Int, nn = 2 := ⟨_, rfl⟩
  rw [← hnn] at HQ
  clear Q5 s4 rr6 hw7 hnn HDD
  have bd := co_bR
  by_cases h1 : 1 ≤ n1
  case' pos =>
   have e1 : decide ((1 : Int) ≤ (n1 : Int)) = true := decide_eq_true (by omega)
   have e2 : decide ((n1 : Int) ≤ 64) = false := decide_eq_false (by omega)
   go_upto_region 14 with fail
  case' neg =>
   have e1 : decide ((1 : Int) ≤ (n1 : Int)) = false := decide_eq_false (by omega)
   go_upto_region 14 with fail
 all_goals
  clear p0 d1 e1
  have s7 := Lib.hid (show Stb (H2 5) (fun T y => (RdS T y 0 Aa 32 ca (drM d0) ∧ RpK w6.heap.size r A6 k6 T y) ∧ DrAt T y 20 g dm nn) from Stb.and (Stb.and (Stb.rd hS5) (Stb.rp hS5)) (Stb.dr h20 hS5))
  go_wp2_with fail
  refine (yY HQ.out.2.2 s7.out HT.out (by omega) (cmR 1 3 1) (fun T k => CmR.nothing T _ _ rfl rfl) (.inl (by omega)) (by have := X3.out.n; omega)).mono ?_
  rintro e w8 ⟨A8, k8, rfl, h, -⟩
  rw [HR.out.2.2.2.1] at h
  have Q8 := Lib.hid (h.mono (K' := fun T y => (StAt T y 5 B x4 ∧ RdS T y 0 Aa 32 ca (drM d0)) ∧ DrAt T y 20 g dm nn) fun T k => ⟨⟨k.1, k.2.1.1.1⟩, k.2.1.2⟩)
  clear h bd
  go_wp2_with fail
  refine (ls_rdraw Q8.out (Stb.and (Stb.st (by omega) (by omega) (by omega)) (Stb.rd (by omega))) (by omega) (by have := HQ.out.2.1; omega) HQ.out.1).mono ?_
  rintro e w9 ⟨Ab, cb, rfl, h, -⟩
  have Q9 := Lib.hid (h.mono (K' := fun T y => StAt T y 5 B x4 ∧ (RdS T y 0 Aa 32 ca (drM d0) ∧ RdS T y 0 Ab 32 cb (drM dm))) fun T k => ⟨k.1.1.1, k.1.1.2, k.1.2⟩)
  clear h Q8 s7
  go_wp2_with fail
  refine (ls_rings Q9.out (Stb.and (Stb.rd (fun h => h)) (Stb.rd (fun h => h))) (by omega)).mono ?_
  rintro e w10 ⟨v, T', rfl, hR, hL, -⟩
  have BE := Lib.hid hL.bel
  obtain ⟨T10, -, ka, kb⟩ := hL.fact
  rw [HR.out.2.2.2.2] at hR
  obtain ⟨A9, c9, rfl, hc9, -, hat⟩ := hR.form
  obtain ⟨gr, cur, rfl, -, hrow, -, -, hcc⟩ := hat (by show 0 < 1; omega)
  obtain ⟨-, vi, h5, h6⟩ := hcc 0 (by show 0 < 1; omega)
  obtain ⟨A10, c10, rfl, hc10, -, hat2⟩ := h6.form
  obtain ⟨g2, cur2, rfl, -, hrow2, -, -, hcc2⟩ := hat2 (by show 0 < 2; omega)
  have hgl2 : g2 < w10.heap.size := zK hrow2
  have hsl : ∀ (i : Nat) (hi : i < 2), Sl w10 w10.heap.size (some ⟨g2, i * 34, none⟩) 32 32 (([⟨drM d0, 0, false⟩, ⟨drM dm, 0, false⟩] : List Ve)[i]).m := fun i hi => ver_sl w10 g2 (i * 34) _ (fun j hj => by rw [zF hrow2]; exact hcc2 i j hi hj) hgl2
  have k0 := key_sl_at g2 0
  have k1 := key_sl_at g2 34
  have V0 := Lib.hid (hsl 0 (by omega))
  have V1 := Lib.hid (hsl 1 (by omega))
  have V2 := Lib.hid ka.sl
  have V3 := Lib.hid kb.sl
  have hgl : gr < w10.heap.size := zK hrow
  have q1 : w10.cell? ⟨gr, 1, none⟩ = some (.slice (some ⟨g2, 0, none⟩) 2 c10) := by rw [zF hrow]; exact h5
  have QQ1 := Lib.hid q1
  rw [show ([⟨false, [⟨drM d0, 0, false⟩, ⟨drM dm, 0, false⟩]⟩] : List Rg).length = 1 from rfl] at hc9 ⊢
  have hc9' : 1 ≤ c9 := hc9
  have hc10' : 2 ≤ c10 := hc10
  clear hsl hR hL hat hrow hcc hc10 hat2 hrow2 hcc2 h5 h6 ka kb Q9 hc9 q1
  go_wp2_with fail
  refine yL [] [0, 1, 2, 3, 4, 5, 6, 7, 8, 9, 10, 11, 12, 13, 14, 15, 16, 17, 18, 19, 20, 21, 22, 23, 24, 25, 26, 27, 28, 29, 30, 31, 32, 33, 34, 35, 36, 37] (by kernel_rfl) (by kernel_rfl) (fun _ _ _ _ _ h => h) fun X => ?_
  obtain ⟨w11, hw11⟩ : ∃ w11, w11 = X.val := ⟨_, rfl⟩
  have B11 := Lib.hid (show Below w10.heap.size w10 w11 by rw [hw11]; exact X.below)
  have BE2 := Lib.hid (onto BE.out BE.out.size B11.out)
  obtain ⟨M0, hM0⟩ : ∃ M, M = strM (drM d0) := ⟨_, rfl⟩
  obtain ⟨M1, hM1⟩ : ∃ M, M = strM (drM dm) := ⟨_, rfl⟩
  have v0 : ∀ y : After w11, (convert 22 9 (.slice (some ⟨g2, 0, none⟩) 32 32)).run Tryz.prog y.val = .ok (.string M0) y.val := fun y => by rw [hM0]; exact conv_sl (V0.out.below (onto B11.out B11.out.size y.below))
  have v1 : ∀ y : After w11, (convert 22 9 (.slice (some ⟨g2, 34, none⟩) 32 32)).run Tryz.prog y.val = .ok (.string M1) y.val := fun y => by rw [hM1]; exact conv_sl (V1.out.below (onto B11.out B11.out.size y.below))
  have v2 : ∀ y : After w11, (convert 22 9 (.slice Aa 32 ca)).run Tryz.prog y.val = .ok (.string M0) y.val := fun y => by rw [hM0]; exact conv_sl (V2.out.below (onto B11.out B11.out.size y.below))
  have v3 : ∀ y : After w11, (convert 22 9 (.slice Ab 32 cb)).run Tryz.prog y.val = .ok (.string M1) y.val := fun y => by rw [hM1]; exact conv_sl (V3.out.below (onto B11.out B11.out.size y.below))
  have q1 : ∀ y : After w11, y.val.cell? ⟨gr, 1, none⟩ = some (.slice (some ⟨g2, 0, none⟩) 2 c10) := fun y => by rw [(onto B11.out B11.out.size y.below).cell (p := ⟨gr, 1, none⟩) hgl]; exact QQ1.out
  rw [← hw11]
  clear hw11 X hM0 hM1
  simp only [wpFs, pk, List.getElem?_cons_zero, List.getElem?_cons_succ]
  repeat (go_big_quiet_step (fail))
  refine wpQuiet_nil ?_
  go_wp2_with fail
  go_ret
  exact ⟨rfl, BE2.out⟩
set_option maxRecDepth 100000 in
theorem lifted (os : Os) (started : os.Started) (H : Type) (enc : TypeId × Value → H) :
  ReturnsInHanded {} Tryz.checked os 8 .any (fun w args => (Rows.storeMaterialsSpec.pre enc Tryz.prog Tryz.f8 [] false w args ∧ laidMetH Tryz.prog laidL w) ∧ sizedMet enc Tryz.prog Tryz.f8 (OpenSpec.ofChange Rows.storeMaterialsSpec) false w args) (Rows.storeMaterialsSpec.post enc Tryz.prog Tryz.f8 false true false false) := by
 refine returnsInHanded_of_change_and (C := Tryz.checked) (X := fun w _ => laidMetH Tryz.prog laidL w) (fun _ _ _ hh h => h.of_heap hh) own started (by kernel_rfl) Tryz.func8
  (ChangeSpec.witness_shaped (enc := enc) (C := Tryz.checked) (os := os) (X := fun w _ => laidMetH Tryz.prog laidL w) false (World.doorLaid Tryz.prog 14 os) #[.slice none 0 0, .slice none 0 0] 8 rfl (World.shaped_of_RefB (by kernel_rfl) (by kernel_rfl)) (by kernel_rfl) (by kernel_rfl) (by kernel_rfl) (door_met os _)) ?_
 intro W base args ds gs before hval0 hW _ hsz0 hL _
 have hval : ∀ (j : Nat) t v, Tryz.f8.params[j]? = some t → args[j]? = some v → Value.okWide Tryz.prog W .any base t v := hval0
 have hW' := hW
 obtain ⟨p, q, hA0, hV, rfl, hfz, hnd⟩ := hW
 have hA : DataW.TrodAll enc Tryz.prog W 0 (fun _ => true) true Tryz.f8.params.toList args.toList ds p := hA0
 rw [Tryz.params8] at hA hval
 obtain ⟨v0, vs0, d0, ds0, p0, q0, hargs, rfl, rfl, h0, r0⟩ := trodAll_cons hA
 obtain ⟨v1, vs1, d1, ds1, p1, q1, rfl, rfl, rfl, h1, r1⟩ := trodAll_cons r0
 obtain ⟨rfl, rfl, rfl⟩ := trodAll_nil r1
 obtain rfl : args = #[v0, v1] := by cases args; simp_all
 obtain ⟨rfl, rfl⟩ := trodVars_none hV
 have k0 := h0
 have lt0 : ∀ x ∈ p0, x.block < W.heap.size := by obtain ⟨m, hm⟩ := k0; exact DataW.trod_lt m _ _ _ hm
 obtain ⟨A0, n0, c0, a0, rfl, hs0, hm0⟩ := open_sl Tryz.underlying22 Tryz.underlying5 (by kernel_rfl) (hval 0 22 v0 rfl rfl) h0
 have k1 := h1
 have lt1 : ∀ x ∈ p1, x.block < W.heap.size := by obtain ⟨m, hm⟩ := k1; exact DataW.trod_lt m _ _ _ hm
 obtain ⟨A1, n1, c1, a1, rfl, hs1, hm1⟩ := open_sl Tryz.underlying22 Tryz.underlying5 (by kernel_rfl) (hval 1 22 v1 rfl rfl) h1
 clear hA0 hval0
 refine (walk a0 n0 c0 A0 a1 n1 c1 A1 W hs0 hm0 hs1 hm1 (tab_of hL)).mono fun e W' ⟨he, bel⟩ => ?_
 subst he
 exact ⟨_, rfl, _, _, _, [], _, [], hW', trodAll_mk1 (shut_bool Tryz.underlying4 _), (trodAll_cons_mk (Below.trod laidOut (by kernel_rfl) (of_decide_eq_true (by kernel_rfl)) k0 bel lt0) (trodAll_cons_mk (Below.trod laidOut (by kernel_rfl) (of_decide_eq_true (by kernel_rfl)) k1 bel lt1) trodAll_mk0)), rfl, bel.frame _, fun h => by cases h⟩
set_option maxHeartbeats 4000000 in
theorem over : Rows.storeMaterialsRow.holds Tryz.pinned (OpenSpec.ofChange Rows.storeMaterialsSpec) :=
 OpenClaim.holds_of_wide 8 Tryz.f8 rfl rfl rfl rfl rfl rfl rfl ⟨rfl, rfl, rfl, rfl, rfl⟩ rfl rfl rfl rfl rfl (by as_aux_lemma => kernel_rfl) Tryz.func8 (by as_aux_lemma => kernel_rfl)
  (of_decide_eq_true (by as_aux_lemma => kernel_rfl)) (by unfold Func.isWrapper; first | (rw [if_pos (by decide +kernel)]; as_aux_lemma => kernel_rfl) | (rw [if_neg (by decide +kernel)]; exact ⟨rfl, rfl⟩))
  (fun os started H enc _ => lifted os started H enc)
set_option maxHeartbeats 4000000 in
theorem proved : Rows.StoreMaterialsCardSaid :=
 Claim7.holds_tied_plain_at .later [] [.data] true (true, "ef13907c1c22fa2efd37217ce8d311b19c0fecaf9c64df184703d01d535a1dd6") true
  over (fun _ h => by cases h) (by as_aux_lemma => kernel_rfl) (fun _ h => by cases h) storeMaterials_row_tie rfl ⟨rfl, rfl⟩ (by as_aux_lemma => kernel_rfl) rfl
  (fun f fn hf hfn => by
   obtain rfl : f = 8 := Option.some.inj ((show Tryz.prog.funcNamed "strongroom/strongroomlaw16.StoreMaterials" = some 8 by as_aux_lemma => kernel_rfl).symm.trans hf) |>.symm
   obtain rfl : fn = Tryz.f8 := (Option.some.inj (Tryz.func8.symm.trans hfn)).symm
   exact ⟨by as_aux_lemma => kernel_rfl, fun j t ht => by
    rw [Tryz.params8] at ht
    have hm : t ∈ [22] := by simpa using Array.mem_of_getElem? ht
    have hall : ([22].all fun u => !Tryz.prog.wantsStandIn u) = true := by as_aux_lemma => kernel_rfl
    exact (show Tryz.prog.wantsStandIn t = false by simpa using List.all_eq_true.1 hall t hm)⟩)
  (by as_aux_lemma => kernel_rfl)
#print axioms proved
end Go.Proofs.YteffjpdcghlnlaaGreatDoor.storeMaterials
