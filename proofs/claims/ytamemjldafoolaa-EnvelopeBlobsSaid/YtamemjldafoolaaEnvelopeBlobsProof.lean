/- The statement EnvelopeBlobs: the law strongroomlaw14.EnvelopeBlobs answers true for every input, and leaves its arguments as they were. No further condition. -/
import Derived.Test.YtamemjldafoolaaRows
import Derived.Test.YtamemjldafoolaaLib
import Derived.Test.YtamemjldafoolaaEvS
import Derived.Test.YtamemjldafoolaaEvR
import Derived.Test.YtamemjldafoolaaOpTwo
import Derived.Deep.DeepCutAuto
import Derived.Deep.CutBlock
namespace Go.Proofs.Ytamemjldafoolaa.envelopeBlobs
open Go.ChangeShapes Go.WideShapes Go.ChangeAt Go.RowKit
open Go.Proofs.Ytamemjldafoolaa.Oct
set_option linter.unusedVariables false

theorem own : ownKnob Try.prog.godebug = none := by kernel_rfl
theorem laidOut : laidOutB Try.prog = true := by kernel_rfl

set_option maxRecDepth 20000 in
set_option maxHeartbeats 4000000 in
theorem walk (x0 y0 : Int) (a1 : Nat → BitVec 8) (a2 : Nat → BitVec 8) (n2 c2 : Nat) (A2 : Option Addr) (w : World) (hx0 : i64B x0) (hy0 : i64B y0) (hs2 : Sl w w.heap.size A2 n2 c2 a2) (hm2 : c2 ≤ maxLen) :
    Calls Try.prog 3 #[.agg #[.int .i64 x0, .int .i64 y0], .agg (ba 12 a1), .slice A2 n2 c2] w fun e w' => e = .returned (.bool true) ∧ Below w.heap.size w w' := by
  have HS2 := Lib.hid hs2
  have hn2 := hs2.le
  obtain ⟨w0, hw0⟩ : ∃ w0, w0 = (w.alloc (.cells #[.int .i64 x0, .int .i64 y0] 22)).alloc (.cells (ba 12 a1) 24) := ⟨_, rfl⟩
  have B0 := Lib.hid (show Below w.heap.size w w0 by rw [hw0]; exact ((Below.refl w.heap.size w).alloc (by simp) _).alloc (by simp) _)
  have q0 : row w0 w.heap.size = some #[.int .i64 x0, .int .i64 y0] := by rw [hw0]; simp [go_sem]
  have q1 : row w0 (w.heap.size + 1) = some (ba 12 a1) := by rw [hw0]; simp [go_sem]
  have HX := Lib.hid (And.intro hx0 hy0)
  obtain ⟨G, hG⟩ : ∃ G, G = w.heap.size + 1 := ⟨_, rfl⟩
  obtain ⟨H, hH⟩ : ∃ H, H = w.heap.size := ⟨_, rfl⟩
  have HG := Lib.hid hG
  have HH := Lib.hid hH
  rw [← hG] at q1
  rw [← hH] at q0
  clear hs2 hx0 hy0 hG hH
  go_enter Try.func3, Try.ntmps3
  go_wp2_with fail
  rw [← hw0, ← HG.out, ← HH.out]
  clear hw0
  refine (shown_any w0).mono ?_
  rintro e w1 ⟨rfl, hb1⟩
  have B1 := Lib.hid (onto B0.out B0.out.size hb1)
  have r0 := carry hb1 q0
  have r1 := carry hb1 q1
  clear hb1 q0 q1 B0
  go_wp2_with fail
  refine (few_any A2 n2 c2 hn2 hm2 _).mono ?_
  rintro e w1' ⟨rfl, rfl⟩
  obtain ⟨N, hN⟩ : ∃ N, N = min n2 200 := ⟨_, rfl⟩
  rw [← hN]
  have hN2 : N ≤ 200 := by omega
  have S1 := Lib.hid (((HS2.out.upto N (by omega)).below B1.out).more B1.out.size)
  have c0 : w1.cell? ⟨H, 0, none⟩ = some (.int .i64 x0) := by rw [cell_row r0]; rfl
  have c1 : w1.cell? ⟨H, 1, none⟩ = some (.int .i64 y0) := by rw [cell_row r0]; rfl
  clear hN HS2 hn2 hm2
  have Q0 := Lib.hid r0
  have Q1 := Lib.hid r1
  clear r0 r1
  obtain ⟨b, hb⟩ : ∃ b, b = (decide ((1 : Int) ≤ x0) && decide ((1 : Int) ≤ y0)) := ⟨_, rfl⟩
  have HB := Lib.hid hb
  clear hb
  go_upto_region 3 with fail
  go_cut [35] from 28 to 34 (fun bv wx => bv = .bool b ∧ wx = w1)
  case first =>
    cases h1 : decide ((1 : Int) ≤ x0)
    · go_wp2_with fail
      go_meet
      exact ⟨by rw [HB.out, h1]; rfl, rfl⟩
    · cases h2 : decide ((1 : Int) ≤ y0)
      · go_wp2_with fail
        go_meet
        exact ⟨by rw [HB.out, h1, h2]; rfl, rfl⟩
      · go_wp2_with fail
        go_meet
        exact ⟨by rw [HB.out, h1, h2]; rfl, rfl⟩
  obtain ⟨rfl, rfl⟩ := hcut
  obtain ⟨w1, rfl⟩ : ∃ w : World, w = wc := ⟨_, rfl⟩
  go_upto_if 35 with fail
  go_cut [8, 9, 10, 11, 12, 13, 14] from 36 to 106 (fun _ _ _ _ _ _ _ wx => Below w1.heap.size w1 wx)
  case first =>
    cases b
    · go_wp2_with fail
      go_meet
      exact Below.refl _ _
    · have h1 : decide ((1 : Int) ≤ x0) = true := by have := HB.out; simp at this; simp; omega
      have h2 : decide ((1 : Int) ≤ y0) = true := by have := HB.out; simp at this; simp; omega
      obtain ⟨i, rfl⟩ : ∃ i : Nat, x0 = i := ⟨x0.toNat, by simp at h1; omega⟩
      obtain ⟨v, rfl⟩ : ∃ i : Nat, y0 = i := ⟨y0.toNat, by simp at h2; omega⟩
      have hi1 : 1 ≤ i := by simp at h1; omega
      have hv1 : 1 ≤ v := by simp at h2; omega
      have hi2 : i < 9223372036854775808 := by have := HX.out.1.2; omega
      have hv2 : v < 9223372036854775808 := by have := HX.out.2.2; omega
      have rN := Q1.out
      go_wp2_with fail
      refine (pbl_any i v a1 a2 N c2 A2 w1 hi2 hv2 S1.out (by omega)).mono ?_
      rintro e w2 ⟨r8, rfl, ho, hb2⟩
      obtain ⟨A8, c8, rfl, h8, -, -⟩ := ho.sl
      obtain ⟨X, hX⟩ : ∃ X, X = blL i v N := ⟨_, rfl⟩
      obtain ⟨F, hF⟩ : ∃ X, X = blF i v a1 a2 := ⟨_, rfl⟩
      rw [← hX, ← hF] at h8
      rw [← hX]
      have hXb : X ≤ 1000 := by rw [hX]; unfold blL; have := hdL_le i v; omega
      have HFX := Lib.hid (And.intro hX hF)
      have S8 := Lib.hid h8
      have S2 := Lib.hid ((S1.out.below hb2).more hb2.size)
      have q0 := Lib.hid (carry hb2 Q0.out)
      have q1 := Lib.hid (carry hb2 Q1.out)
      have B2 := Lib.hid hb2
      clear ho h8 hb2 hX hF rN S1 c0 c1
      go_wp2_with fail
      refine (prd_any X c8 A8 F w2 S8.out (by omega)).mono ?_
      rintro e w3 ⟨A12, c12, rfl, h12, -, hb3⟩
      obtain ⟨ri, hri⟩ : ∃ z, z = rdI X F := ⟨_, rfl⟩
      obtain ⟨rv, hrv⟩ : ∃ z, z = rdV X F := ⟨_, rfl⟩
      obtain ⟨rn, hrn⟩ : ∃ z, z = rdN X F := ⟨_, rfl⟩
      obtain ⟨rl, hrl⟩ : ∃ z, z = rdL X F := ⟨_, rfl⟩
      obtain ⟨re, hre⟩ : ∃ z, z = rdE X F := ⟨_, rfl⟩
      rw [← hrl] at h12
      rw [← hri, ← hrv, ← hrn, ← hrl, ← hre]
      have HR := Lib.hid (And.intro hri (And.intro hrv (And.intro hrn (And.intro hrl hre))))
      have b4 := hb3.alloc hb3.size (.cells (ba 12 rn) 24)
      have b34 := (Below.refl w3.heap.size w3).alloc (Nat.le_refl _) (.cells (ba 12 rn) 24)
      have r4 : row (w3.alloc (.cells (ba 12 rn) 24)) w3.heap.size = some (ba 12 rn) := row_alloc_at _ _ _ _ rfl
      have S8' := Lib.hid ((S8.out.below b4).more b4.size)
      have S12 := Lib.hid ((h12.below b34).more b34.size)
      have S4 := Lib.hid ((S2.out.below b4).more b4.size)
      have p0 := Lib.hid (carry b4 q0.out)
      have p1 := Lib.hid (carry b4 q1.out)
      have B4 := Lib.hid (onto B2.out B2.out.size b4)
      obtain ⟨D, hD⟩ : ∃ D, D = w3.heap.size := ⟨_, rfl⟩
      rw [← hD] at r4
      have HD := Lib.hid hD
      clear h12 hb3 hri hrv hrn hrl hre b4 b34 S8 S2 q0 q1 B2 hD
      go_wp2_with fail
      rw [← HD.out]
      clear HD
      generalize w3.alloc (.cells (ba 12 rn) 24) = w4 at r4 S8' S12 S4 p0 p1 B4 ⊢
      refine flow_seen [([0, 1, 2, 3, 4, 5, 6, 7], 8, false)] [9, 10] (by kernel_rfl) (by kernel_rfl) (fun _ _ _ _ _ h => h) fun Z => ?_
      have u0 := carry Z.below p0.out
      have u1 := carry Z.below p1.out
      have u4 := carry Z.below r4
      have T8 := Lib.hid ((S8'.out.below Z.below).more Z.below.size)
      have T12 := Lib.hid ((S12.out.below Z.below).more Z.below.size)
      have T4 := Lib.hid ((S4.out.below Z.below).more Z.below.size)
      have B5 := Lib.hid (onto B4.out B4.out.size Z.below)
      clear r4 S8' S12 S4 p0 p1 B4
      generalize Z.val = w5 at u0 u1 u4 T8 T12 T4 B5 ⊢
      clear Z
      obtain ⟨ST, hST⟩ : ∃ S, S = Oct.strOf X F := ⟨_, rfl⟩
      have HST := Lib.hid hST
      have k0 : ∀ x : After w5, x.val.cell? ⟨H, 0, none⟩ = some (.int .i64 i) := fun x => by rw [cell_row (carry x.below u0)]; rfl
      have k1 : ∀ x : After w5, x.val.cell? ⟨H, 1, none⟩ = some (.int .i64 v) := fun x => by rw [cell_row (carry x.below u0)]; rfl
      have k4 := After.row u1
      have cv : ∀ x : After w5, (convert 25 9 (.slice A8 X c8)).run Try.prog x.val = .ok (.string ST) x.val := fun x => by
        rw [HST.out]; exact run_str sli_u u8_u str_u (After.sl T8.out x)
      clear hST
      simp only [wpFs, pk, List.getElem?_cons_zero, List.getElem?_cons_succ]
      repeat (go_big_quiet_step (fail))
      refine wpQuiet_nil ?_
      clear k0 k1 k4 cv
      have U0 := Lib.hid u0
      have U1 := Lib.hid u1
      have U4 := Lib.hid u4
      clear u0 u1 u4
      go_wp2_with fail
      refine (rbl_any i v a1 a2 N c2 A2 w5 hi2 hv2 T4.out (by omega)).mono ?_
      rintro e w6 ⟨r9, rfl, ho, hb6⟩
      have HO := Lib.hid ho
      obtain ⟨A9, c9, rfl, h9, -, -⟩ := ho.sl
      rw [← HFX.out.1, ← HFX.out.2] at h9
      rw [← HFX.out.1]
      have S9 := Lib.hid h9
      have V12 := Lib.hid ((T12.out.below hb6).more hb6.size)
      have V4 := Lib.hid ((T4.out.below hb6).more hb6.size)
      have t0 := Lib.hid (carry hb6 U0.out)
      have t1 := Lib.hid (carry hb6 U1.out)
      have t4 := Lib.hid (carry hb6 U4.out)
      have B6 := Lib.hid (onto B5.out B5.out.size hb6)
      have hb6' := Lib.hid hb6
      clear ho h9 hb6 T8 T12 T4 U0 U1 U4 B5
      go_wp2_with fail
      refine ⟨.inr hb6'.out, ?_⟩
      clear hb6'
      have cv9 : ∀ x : After w6, (convert 25 9 (.slice A9 X c9)).run Try.prog x.val = .ok (.string ST) x.val := fun x => by
        rw [HST.out]; exact run_str sli_u u8_u str_u (After.sl S9.out x)
      show wpQuiet _ _ _ _ _ _
      repeat (go_big_quiet_step (fail))
      refine wpQuiet_nil ?_
      clear cv9
      have g0 : w6.cell? ⟨H, 0, none⟩ = some (.int .i64 i) := by rw [cell_row t0.out]; rfl
      have g1 : w6.cell? ⟨H, 1, none⟩ = some (.int .i64 v) := by rw [cell_row t0.out]; rfl
      have g2 := t1.out
      have g4 := t4.out
      by_cases hf : 16 ≤ N ∧ N ≤ 80
      · obtain ⟨-, e1, e2, e3, e4, e5⟩ := bl_ok (n := a1) (b := a2) hi2 hv2 hi1 hv1 hf.1 hf.2
        obtain ⟨a1', a2', a3', a4', a5'⟩ := HR.out
        have hre : re = 0 := by rw [a5', HFX.out.1, HFX.out.2, rdE_ok (bl_ok (n := a1) (b := a2) hi2 hv2 hi1 hv1 hf.1 hf.2).1]
        have hri : ri = i := by rw [a1', HFX.out.1, HFX.out.2, e1]
        have hrv : rv = v := by rw [a2', HFX.out.1, HFX.out.2, e2]
        have hrl : rl = N := by rw [a4', HFX.out.1, HFX.out.2, e3]
        have hq : eqB 12 rn a1 = true := (eqB_iff _ _ _).2 fun k hk => by rw [a3', HFX.out.1, HFX.out.2]; exact e4 k hk
        have hF : rdF F = a2 := by rw [HFX.out.2, e5]
        have hd1 : decide ((16 : Int) ≤ (N : Int)) = true := by simp; omega
        have hd2 : decide ((N : Int) ≤ 80) = true := by simp; omega
        have V := V12.out
        subst hre hri hrv hrl
        rw [hF] at V
        obtain ⟨SA, hSA⟩ : ∃ S, S = Oct.strOf rl a2 := ⟨_, rfl⟩
        have s1 := run_str (P := Try.prog) sli_u u8_u str_u V
        have s2 := run_str (P := Try.prog) sli_u u8_u str_u V4.out
        rw [← hSA] at s1 s2
        clear e1 e2 e3 e4 e5 a1' a2' a3' a4' a5' hF V hSA hf
        go_wp2_with fail
        go_meet
        exact B6.out
      · have hre : re = 140 := by
          rw [HR.out.2.2.2.2, HFX.out.1, HFX.out.2, rdE_no (by rw [bl_B hi2 hv2 hi1 hv1]; simpa using hf)]
        subst hre
        by_cases h16 : 16 ≤ N
        · have hd1 : decide ((16 : Int) ≤ (N : Int)) = true := by simp; omega
          have hd2 : decide ((N : Int) ≤ 80) = false := by simp; omega
          clear hf h16
          go_wp2_with fail
          go_meet
          exact B6.out
        · have hd1 : decide ((16 : Int) ≤ (N : Int)) = false := by simp; omega
          clear hf h16
          go_wp2_with fail
          go_meet
          exact B6.out
  have C1 := Lib.hid hcut
  have S2 := Lib.hid ((S1.out.below hcut).more hcut.size)
  have B2 := Lib.hid (onto B1.out B1.out.size hcut)
  clear c0 c1 hcut S1 B1 Q0 Q1
  go_wp2_with fail
  refine (prd_any N c2 A2 a2 wc S2.out (by omega)).mono ?_
  rintro e w3 ⟨A12, c12, rfl, h12, -, hb3⟩
  obtain ⟨ri, hri⟩ : ∃ z, z = rdI N a2 := ⟨_, rfl⟩
  obtain ⟨rv, hrv⟩ : ∃ z, z = rdV N a2 := ⟨_, rfl⟩
  obtain ⟨rn, hrn⟩ : ∃ z, z = rdN N a2 := ⟨_, rfl⟩
  obtain ⟨rl, hrl⟩ : ∃ z, z = rdL N a2 := ⟨_, rfl⟩
  obtain ⟨re, hre⟩ : ∃ z, z = rdE N a2 := ⟨_, rfl⟩
  rw [← hrl] at h12
  rw [← hri, ← hrv, ← hrn, ← hrl, ← hre]
  have HR := Lib.hid (And.intro hri (And.intro hrv (And.intro hrn (And.intro hrl hre))))
  have b4 := hb3.alloc hb3.size (.cells (ba 12 rn) 24)
  have b34 := (Below.refl w3.heap.size w3).alloc (Nat.le_refl _) (.cells (ba 12 rn) 24)
  have r4 : row (w3.alloc (.cells (ba 12 rn) 24)) w3.heap.size = some (ba 12 rn) := row_alloc_at _ _ _ _ rfl
  have S12 := Lib.hid ((h12.below b34).more b34.size)
  have S4 := Lib.hid ((S2.out.below b4).more b4.size)
  have B4 := Lib.hid (onto B2.out B2.out.size b4)
  obtain ⟨D, hD⟩ : ∃ D, D = w3.heap.size := ⟨_, rfl⟩
  rw [← hD] at r4
  have HD := Lib.hid hD
  clear h12 hb3 hri hrv hrn hrl hre b4 b34 S2 B2 hD
  go_wp2_with fail
  rw [← HD.out]
  clear HD
  generalize w3.alloc (.cells (ba 12 rn) 24) = w4 at r4 S12 S4 B4 ⊢
  refine (rrd_any N c2 A2 a2 w4 S4.out (by omega)).mono ?_
  rintro e w5 ⟨v5, rfl, ho, hb5⟩
  obtain ⟨A5, c5, rfl, h5, -, -⟩ := ho.sl
  obtain ⟨hri, hrv, hrn, hrl, hre⟩ := HR.out
  rw [← hrl] at h5
  rw [← hri, ← hrv, ← hrn, ← hrl, ← hre]
  clear hri hrv hrn hrl hre
  have b6 := hb5.alloc hb5.size (.cells (ba 12 rn) 24)
  have b56 := (Below.refl w5.heap.size w5).alloc (Nat.le_refl _) (.cells (ba 12 rn) 24)
  have r6 : row (w5.alloc (.cells (ba 12 rn) 24)) w5.heap.size = some (ba 12 rn) := row_alloc_at _ _ _ _ rfl
  have t4 := carry b6 r4
  have S5 := (h5.below b56).more b56.size
  have T12 := (S12.out.below b6).more b6.size
  have B6 := Lib.hid (onto B4.out B4.out.size b6)
  obtain ⟨E, hE⟩ : ∃ D, D = w5.heap.size := ⟨_, rfl⟩
  rw [← hE] at r6
  have HE := Lib.hid hE
  have hq := eqB_refl 12 rn
  obtain ⟨SA, hSA⟩ : ∃ S, S = Oct.strOf rl (rdF a2) := ⟨_, rfl⟩
  have HS6 := Lib.hid S5
  have HT6 := Lib.hid T12
  clear ho h5 hb5 b6 b56 r4 S12 S4 B4 hE S5 T12
  obtain ⟨w6, hw6⟩ : ∃ w6, w6 = w5.alloc (.cells (ba 12 rn) 24) := ⟨_, rfl⟩
  rw [← hw6] at r6 t4 HS6 HT6 B6
  have s1 := run_str (P := Try.prog) sli_u u8_u str_u HS6.out
  have s2 := run_str (P := Try.prog) sli_u u8_u str_u HT6.out
  rw [← hSA] at s1 s2
  have HW6 := Lib.hid hw6
  clear hSA hw6
  go_upto_region 13 with fail
  rw [← HE.out, ← HW6.out]
  clear HE HW6
  go_wp2_with fail
  go_ret
  exact ⟨rfl, B6.out⟩

set_option maxRecDepth 100000 in
theorem lifted (os : Os) (started : os.Started) (H : Type) (enc : TypeId × Value → H) :
    ReturnsInHanded {} Try.checked os 3 .any (Rows.envelopeBlobsSpec.pre6 enc Try.prog Try.f3 Rows.envelopeBlobsRow.domain false) (Rows.envelopeBlobsSpec.post enc Try.prog Try.f3 false true false false) := by
  refine returnsInHanded_of_change (C := Try.checked) own started (by kernel_rfl) Try.func3
    (ChangeSpec.witness6 (enc := enc) (C := Try.checked) false ⟨#[], #[.agg #[.int .i64 0, .int .i64 0], .agg (Array.replicate 12 (.int .u8 0)), .slice none 0 0], []⟩ 8 (by kernel_rfl) (by kernel_rfl) (by kernel_rfl) (by kernel_rfl)) ?_
  intro W base args ds gs before hval0 hW hcnd _
  have hval : ∀ (j : Nat) t v, Try.f3.params[j]? = some t → args[j]? = some v → Value.okWide Try.prog W .any base t v := hval0
  have hW' := hW
  obtain ⟨p, q, hA0, hV, rfl, hfz, hnd⟩ := hW
  have hA : DataW.TrodAll enc Try.prog W 0 (fun _ => true) true Try.f3.params.toList args.toList ds p := hA0
  rw [Try.params3] at hA hval
  obtain ⟨v0, vs0, d0, ds0, p0, q0, hargs, rfl, rfl, h0, r0⟩ := trodAll_cons hA
  obtain ⟨v1, vs1, d1, ds1, p1, q1, rfl, rfl, rfl, h1, r1⟩ := trodAll_cons r0
  obtain ⟨v2, vs2, d2, ds2, p2, q2, rfl, rfl, rfl, h2, r2⟩ := trodAll_cons r1
  obtain ⟨rfl, rfl, rfl⟩ := trodAll_nil r2
  obtain rfl : args = #[v0, v1, v2] := by cases args; simp_all
  obtain ⟨rfl, rfl⟩ := trodVars_none hV
  have k0 := h0
  have lt0 : ∀ x ∈ p0, x.block < W.heap.size := by obtain ⟨m, hm⟩ := k0; exact DataW.trod_lt m _ _ _ hm
  obtain ⟨xa0, ya0, rfl, hxa0, hya0⟩ := open_two (t := 22) (e := 3) (by kernel_rfl) (by kernel_rfl) (by kernel_rfl) (by kernel_rfl) (hval 0 22 v0 rfl rfl) h0
  have k1 := h1
  have lt1 : ∀ x ∈ p1, x.block < W.heap.size := by obtain ⟨m, hm⟩ := k1; exact DataW.trod_lt m _ _ _ hm
  obtain ⟨a1, rfl⟩ := open_bytes Try.underlying24 Try.underlying5 (by kernel_rfl) (by kernel_rfl) (hval 1 24 v1 rfl rfl) h1
  have k2 := h2
  have lt2 : ∀ x ∈ p2, x.block < W.heap.size := by obtain ⟨m, hm⟩ := k2; exact DataW.trod_lt m _ _ _ hm
  obtain ⟨A2, n2, c2, a2, rfl, hs2, hm2⟩ := open_sl Try.underlying25 Try.underlying5 (by kernel_rfl) (hval 2 25 v2 rfl rfl) h2
  clear hA0 hval0
  refine (walk xa0 ya0 a1 a2 n2 c2 A2 W hxa0 hya0 hs2 hm2).mono fun e W' ⟨he, bel⟩ => ?_
  subst he
  exact ⟨_, rfl, _, _, _, [], _, [], hW', trodAll_mk1 (shut_bool Try.underlying4 _), (trodAll_cons_mk (Below.trod laidOut (by kernel_rfl) (of_decide_eq_true (by kernel_rfl)) k0 bel lt0) (trodAll_cons_mk (Below.trod laidOut (by kernel_rfl) (of_decide_eq_true (by kernel_rfl)) k1 bel lt1) (trodAll_cons_mk (Below.trod laidOut (by kernel_rfl) (of_decide_eq_true (by kernel_rfl)) k2 bel lt2) trodAll_mk0))), rfl, bel.frame _, fun h => by cases h⟩

theorem over : Rows.envelopeBlobsRow.holds Try.pinned (OpenSpec.ofChange Rows.envelopeBlobsSpec) :=
  OpenClaim.holds_of_wide 3 Try.f3 rfl rfl rfl rfl rfl rfl rfl ⟨rfl, rfl, rfl, rfl, rfl⟩ rfl rfl rfl rfl rfl (by kernel_rfl) Try.func3 (by kernel_rfl)
    (of_decide_eq_true (by kernel_rfl)) (by unfold Func.isWrapper; first | (rw [if_pos (by decide +kernel)]; kernel_rfl) | (rw [if_neg (by decide +kernel)]; exact ⟨rfl, rfl⟩))
    (fun os started H enc _ => lifted os started H enc)

theorem proved : Rows.EnvelopeBlobsSaid := over
#print axioms proved
end Go.Proofs.Ytamemjldafoolaa.envelopeBlobs
