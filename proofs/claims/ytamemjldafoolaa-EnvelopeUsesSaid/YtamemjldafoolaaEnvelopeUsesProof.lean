/- The statement EnvelopeUses: the law strongroomlaw14.EnvelopeUses answers true for every input, and leaves its arguments as they were. No further condition. -/
import Derived.Test.YtamemjldafoolaaRows
import Derived.Test.YtamemjldafoolaaLib
import Derived.Test.YtamemjldafoolaaEvS
namespace Go.Proofs.Ytamemjldafoolaa.envelopeUses
open Go.ChangeShapes Go.WideShapes Go.ChangeAt Go.RowKit
open Go.Proofs.Ytamemjldafoolaa.Oct
set_option linter.unusedVariables false

theorem own : ownKnob Try.prog.godebug = none := by kernel_rfl
theorem laidOut : laidOutB Try.prog = true := by kernel_rfl

theorem nonC_fin : ∀ j : Fin 16, ∀ k : Fin 12, nonC j.val k.val = upd (fun _ => 0#8) 11 (BitVec.ofNat 8 j.val) k.val := by unfold nonC; decide +kernel
set_option maxRecDepth 20000 in
set_option maxHeartbeats 4000000 in
theorem walk (a0 : Nat → BitVec 8) (a1 : Nat → BitVec 8) (n1 c1 : Nat) (A1 : Option Addr) (w : World) (hs1 : Sl w w.heap.size A1 n1 c1 a1) (hm1 : c1 ≤ maxLen) :
    Calls Try.prog 5 #[.agg (ba 64 a0), .slice A1 n1 c1] w fun e w' => e = .returned (.bool true) ∧ Below w.heap.size w w' := by
  have HS1 := Lib.hid hs1
  obtain ⟨w0, hw0⟩ : ∃ w0, w0 = w.alloc (.cells (ba 64 a0) 48) := ⟨_, rfl⟩
  have B0 := Lib.hid (show Below w.heap.size w w0 by rw [hw0]; exact (Below.refl w.heap.size w).alloc (by simp) _)
  have q0 : row w0 w.heap.size = some (ba 64 a0) := by rw [hw0]; exact row_alloc_at _ _ _ _ rfl
  obtain ⟨H, hH⟩ : ∃ H, H = w.heap.size := ⟨_, rfl⟩
  have HH := Lib.hid hH
  rw [← hH] at q0
  have Q0 := Lib.hid q0
  clear hs1 hH q0
  go_enter Try.func5, Try.ntmps5
  go_wp2_with fail
  rw [← hw0, ← HH.out]
  clear hw0
  refine (shown_any w0).mono ?_
  rintro e w1 ⟨rfl, hb1⟩
  have B1 := Lib.hid (onto B0.out B0.out.size hb1)
  have Q1 := Lib.hid (carry hb1 Q0.out)
  clear hb1 Q0 B0
  go_wp2_with fail
  refine (wnew_any w1).mono ?_
  rintro e w2 ⟨B, rfl, hk2, hB, hb2⟩
  have HBH := Lib.hid (show H ≠ B by have := row_lt Q1.out; omega)
  have HBw := Lib.hid (show w.heap.size ≤ B by have := B1.out.size; omega)
  have K2 := Lib.hid hk2
  have B2 := Lib.hid (onto B1.out B1.out.size hb2)
  have Q2 := Lib.hid (carry hb2 Q1.out)
  clear hk2 hB hb2 Q1 B1
  by_cases hlong : 64 < n1
  · have hd : decide ((64 : Int) < (n1 : Int)) = true := by simp; omega
    clear hlong
    go_wp2_with fail
    go_ret
    exact ⟨rfl, B2.out⟩
  · have hd : decide ((64 : Int) < (n1 : Int)) = false := by simp; omega
    have hn64 : n1 ≤ 64 := by omega
    clear hlong
    have r2 := Q2.out
    go_wp2_with fail
    clear r2
    refine (wcr_any B [] a0 w2 K2.out).mono ?_
    rintro e w3 ⟨rfl, hk3, hc3⟩
    obtain ⟨c1', c2', c3'⟩ := cr1 a0
    rw [c1'] at hk3
    rw [c2', c3']
    have K3 := Lib.hid hk3
    have B3 := Lib.hid (hc3.on B2.out HBw.out (Nat.le_refl _))
    have Q3 := Lib.hid (hc3.row Q2.out HBH.out)
    clear hk3 hc3 c1' c2' c3' K2 B2 Q2
    go_wp2_with fail
    have HT1 := Lib.hid (fun x (hb : Below w.heap.size w x) => (HS1.out.below hb).more hb.size)
    have HO1 := Lib.hid (HS1.out.off HBw.out)
    go_loopw [9] (fun iv wr => ∃ j : Nat, j ≤ 16 ∧ iv = .int .i64 j ∧ KpW wr B (ks1 a0 j) ∧ Below w.heap.size w wr ∧ row wr H = some (ba 64 a0)) (fun iv _ => 16 - (intOf iv).toNat)
    case atStart => exact ⟨0, by omega, rfl, K3.out, B3.out, Q3.out⟩
    case round =>
      clear K3 B3 Q3
      obtain ⟨j, hj, rfl, hk, hb, hq⟩ := hrel
      obtain ⟨w4, rfl⟩ : ∃ w4 : World, w4 = wr := ⟨_, rfl⟩
      have K4 := Lib.hid hk
      have B4 := Lib.hid hb
      have Q4 := Lib.hid hq
      have T4 := Lib.hid (HT1.out _ hb)
      clear hk hb hq
      by_cases hlt : j < 16
      · have hd : decide ((j : Int) < 16) = true := by simp; omega
        obtain ⟨e1, e2, e3, e4, e5⟩ := en1 a0 j n1 0 hlt hn64 (by omega)
        obtain ⟨-, f1, f2, f3, f4, f5⟩ := bl_ok (i := 1) (v := 1) (L := n1 + 16) (n := nonC j) (b := sealF a0 (nonC j) nF 0 a1 n1) (by omega) (by omega) (by omega) (by omega) (by omega) (by omega)
        have f6 := rdE_ok (bl_ok (i := 1) (v := 1) (L := n1 + 16) (n := nonC j) (b := sealF a0 (nonC j) nF 0 a1 n1) (by omega) (by omega) (by omega) (by omega) (by omega) (by omega)).1
        have E5 := Lib.hid (e5 a1 nF)
        have E := Lib.hid (And.intro e1 (And.intro e2 (And.intro e3 e4)))
        have FF := Lib.hid (And.intro f1 (And.intro f2 (And.intro f3 f6)))
        have F4 := Lib.hid f4
        clear e1 e2 e3 e4 e5 f1 f2 f3 f4 f5 f6
        go_wp2_with fail
        refine (pen_any B (ks1 a0 j) 1 a1 n1 c1 A1 nF 0 0 none w4 K4.out T4.out HO1.out (Sl.nothing _ _ _ _ _) Off.nil).mono ?_
        rintro e w5 ⟨v, rfl, ho, hk5, hc5⟩
        obtain ⟨e1, e2, e3, e4⟩ := E.out
        rw [e1, e2]
        rw [e3] at hk5
        rw [e4, E5.out] at ho
        obtain ⟨A5, c5, rfl, h5, -, -⟩ := ho.sl
        obtain ⟨F, hF⟩ : ∃ F, F = blF 1 1 (nonC j) (sealF a0 (nonC j) nF 0 a1 n1) := ⟨_, rfl⟩
        obtain ⟨X, hX⟩ : ∃ F, F = blL 1 1 (n1 + 16) := ⟨_, rfl⟩
        have hXb : X ≤ 1000 := by rw [hX]; unfold blL; have := hdL_le 1 1; omega
        rw [← hX, ← hF] at h5
        rw [← hX]
        rw [← hX, ← hF] at FF
        rw [← hX, ← hF] at F4
        have S5 := Lib.hid h5
        have K5 := Lib.hid hk5
        have B5 := Lib.hid (hc5.on B4.out HBw.out (Nat.le_refl _))
        have Q5 := Lib.hid (hc5.row Q4.out HBH.out)
        clear e1 e2 e3 e4 ho h5 hk5 hc5 hF hX K4 B4 Q4 T4 E E5
        go_wp2_with fail
        refine (prd_any X c5 A5 F w5 S5.out (by omega)).mono ?_
        rintro e w6 ⟨A6, c6, rfl, h6, -, hb6⟩
        obtain ⟨f1, f2, f3, f6⟩ := FF.out
        rw [f1, f2, f3, f6]
        obtain ⟨rn, hrn⟩ : ∃ z, z = rdN X F := ⟨_, rfl⟩
        rw [← hrn]
        rw [← hrn] at F4
        obtain ⟨nB, hnB⟩ : ∃ z : Bf, z = upd (fun _ => 0#8) 11 (BitVec.ofNat 8 j) := ⟨_, rfl⟩
        have hq : eqB 12 rn nB = true := (eqB_iff _ _ _).2 fun k hk => by rw [F4.out k hk, hnB]; exact nonC_fin ⟨j, hlt⟩ ⟨k, hk⟩
        have hl : (ba 12 fun _ => 0#8).setIfInBounds 11 (.int .u8 (j : Int)) = ba 12 nB := by
          rw [hnB, ← ba_set, ← I_of8, show (j : Int) % 256 = j by omega]
        have b7 := hb6.alloc hb6.size (.cells (ba 12 rn) 24)
        have r7 : row (w6.alloc (.cells (ba 12 rn) 24)) w6.heap.size = some (ba 12 rn) := row_alloc_at _ _ _ _ rfl
        have K7 := Lib.hid (K5.out.below b7)
        have B7 := Lib.hid (onto B5.out B5.out.size b7)
        have Q7 := Lib.hid (carry b7 Q5.out)
        clear f1 f2 f3 f6 hrn hnB FF F4 h6 hb6 b7 K5 B5 Q5 S5
        go_wp2_with fail
        go_roundw
        case rel => exact ⟨j + 1, by omega, rfl, K7.out, B7.out, Q7.out⟩
        case measure => simp [intOf]; omega
      · obtain rfl : j = 16 := by omega
        have hd : decide (((16 : Nat) : Int) < 16) = false := by decide
        go_wp2_with fail
        -- no more
        refine (pen_any B (ks1 a0 16) 1 a1 n1 c1 A1 nF 0 0 none w4 K4.out T4.out HO1.out (Sl.nothing _ _ _ _ _) Off.nil).mono ?_
        obtain ⟨e1, e2, e3, e4⟩ := en1_full a0 n1 0 hn64 (by omega)
        rintro e w5 ⟨v5, rfl, -, hk5, hc5⟩
        rw [e1, e2]
        rw [e3] at hk5
        have K5 := Lib.hid hk5
        have B5 := Lib.hid (hc5.on B4.out HBw.out (Nat.le_refl _))
        have Q5 := Lib.hid (hc5.row Q4.out HBH.out)
        have r5 := Q5.out
        clear e1 e2 e3 e4 hk5 hc5 K4 B4 Q4 T4
        go_wp2_with fail
        clear r5
        -- rotated
        obtain ⟨m2, hm2⟩ : ∃ m, m = offF a0 32 := ⟨_, rfl⟩
        rw [← hm2]
        clear hm2
        refine (wrt_any B (ks1 a0 16) 1 m2 w5 K5.out).mono ?_
        obtain ⟨e1, e2, e3⟩ := rt1 a0 m2 16
        rintro e w6 ⟨rfl, hk6, hc6⟩
        rw [e1, e2]
        rw [e3] at hk6
        have K6 := Lib.hid (show KpW w6 B (ksL ([⟨a0, ((16 : Nat) : Int), false⟩] ++ [⟨m2, ((0 : Nat) : Int), false⟩])) from hk6)
        have B6 := Lib.hid (hc6.on B5.out HBw.out (Nat.le_refl _))
        have T6 := Lib.hid (HT1.out _ B6.out)
        clear e1 e2 e3 hk6 hc6 K5 B5 Q5
        go_wp2_with fail
        -- once more
        refine (pen_any B _ 1 a1 n1 c1 A1 nF 0 0 none w6 K6.out T6.out HO1.out (Sl.nothing _ _ _ _ _) Off.nil).mono ?_
        obtain ⟨e1, e2, e3, e4, e5⟩ := enG [⟨a0, ((16 : Nat) : Int), false⟩] m2 0 n1 0 (by omega) hn64 (by omega)
        rintro e w7 ⟨v7, rfl, -, -, hc7⟩
        rw [e1, e2]
        have B7 := Lib.hid (hc7.on B6.out HBw.out (Nat.le_refl _))
        clear e1 e2 e3 e4 e5 hc7 K6 B6 T6
        go_wp2_with fail
        go_ret
        exact ⟨rfl, B7.out⟩

set_option maxRecDepth 100000 in
theorem lifted (os : Os) (started : os.Started) (H : Type) (enc : TypeId × Value → H) :
    ReturnsInHanded {} Try.checked os 5 .any (Rows.envelopeUsesSpec.pre6 enc Try.prog Try.f5 Rows.envelopeUsesRow.domain false) (Rows.envelopeUsesSpec.post enc Try.prog Try.f5 false true false false) := by
  refine returnsInHanded_of_change (C := Try.checked) own started (by kernel_rfl) Try.func5
    (ChangeSpec.witness6 (enc := enc) (C := Try.checked) false ⟨#[], #[.agg (Array.replicate 64 (.int .u8 0)), .slice none 0 0], []⟩ 8 (by kernel_rfl) (by kernel_rfl) (by kernel_rfl) (by kernel_rfl)) ?_
  intro W base args ds gs before hval0 hW hcnd _
  have hval : ∀ (j : Nat) t v, Try.f5.params[j]? = some t → args[j]? = some v → Value.okWide Try.prog W .any base t v := hval0
  have hW' := hW
  obtain ⟨p, q, hA0, hV, rfl, hfz, hnd⟩ := hW
  have hA : DataW.TrodAll enc Try.prog W 0 (fun _ => true) true Try.f5.params.toList args.toList ds p := hA0
  rw [Try.params5] at hA hval
  obtain ⟨v0, vs0, d0, ds0, p0, q0, hargs, rfl, rfl, h0, r0⟩ := trodAll_cons hA
  obtain ⟨v1, vs1, d1, ds1, p1, q1, rfl, rfl, rfl, h1, r1⟩ := trodAll_cons r0
  obtain ⟨rfl, rfl, rfl⟩ := trodAll_nil r1
  obtain rfl : args = #[v0, v1] := by cases args; simp_all
  obtain ⟨rfl, rfl⟩ := trodVars_none hV
  have k0 := h0
  have lt0 : ∀ x ∈ p0, x.block < W.heap.size := by obtain ⟨m, hm⟩ := k0; exact DataW.trod_lt m _ _ _ hm
  obtain ⟨a0, rfl⟩ := open_bytes2 Try.underlying48 Try.underlying39 Try.underlying5 (by decide : 2 * 32 = 64) (by kernel_rfl) (by kernel_rfl) (by kernel_rfl) (hval 0 48 v0 rfl rfl) h0
  have k1 := h1
  have lt1 : ∀ x ∈ p1, x.block < W.heap.size := by obtain ⟨m, hm⟩ := k1; exact DataW.trod_lt m _ _ _ hm
  obtain ⟨A1, n1, c1, a1, rfl, hs1, hm1⟩ := open_sl Try.underlying25 Try.underlying5 (by kernel_rfl) (hval 1 25 v1 rfl rfl) h1
  clear hA0 hval0
  refine (walk a0 a1 n1 c1 A1 W hs1 hm1).mono fun e W' ⟨he, bel⟩ => ?_
  subst he
  exact ⟨_, rfl, _, _, _, [], _, [], hW', trodAll_mk1 (shut_bool Try.underlying4 _), (trodAll_cons_mk (Below.trod laidOut (by kernel_rfl) (of_decide_eq_true (by kernel_rfl)) k0 bel lt0) (trodAll_cons_mk (Below.trod laidOut (by kernel_rfl) (of_decide_eq_true (by kernel_rfl)) k1 bel lt1) trodAll_mk0)), rfl, bel.frame _, fun h => by cases h⟩

theorem over : Rows.envelopeUsesRow.holds Try.pinned (OpenSpec.ofChange Rows.envelopeUsesSpec) :=
  OpenClaim.holds_of_wide 5 Try.f5 rfl rfl rfl rfl rfl rfl rfl ⟨rfl, rfl, rfl, rfl, rfl⟩ rfl rfl rfl rfl rfl (by kernel_rfl) Try.func5 (by kernel_rfl)
    (of_decide_eq_true (by kernel_rfl)) (by unfold Func.isWrapper; first | (rw [if_pos (by decide +kernel)]; kernel_rfl) | (rw [if_neg (by decide +kernel)]; exact ⟨rfl, rfl⟩))
    (fun os started H enc _ => lifted os started H enc)

theorem proved : Rows.EnvelopeUsesSaid := over
#print axioms proved
end Go.Proofs.Ytamemjldafoolaa.envelopeUses
