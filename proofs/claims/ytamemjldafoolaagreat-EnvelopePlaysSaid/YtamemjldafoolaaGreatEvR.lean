/- Contracts of the reference's Blob and Read. -/
import Derived.Test.YtamemjldafoolaaGreatEvC
import Derived.Test.YtamemjldafoolaaGreatLib
namespace Go.Proofs.YtamemjldafoolaaGreat.Oct
open Go.ChangeShapes Go.WideShapes Go.ChangeAt Go.RowKit
set_option linter.unusedVariables false

set_option maxRecDepth 20000 in
set_option maxHeartbeats 2000000 in
theorem rbl_any (i v : Nat) (n : Bf) (b : Bf) (L c : Nat) (A : Option Addr) (w : World) (hi : i < 9223372036854775808) (hv : v < 9223372036854775808) (hb : Sl w w.heap.size A L c b) (hL : L ≤ 1099511627776) :
    Calls Tryz.prog 36 #[.int .i64 i, .int .i64 v, .agg (ba 12 n), .slice A L c] w fun e w' => ∃ r, e = .returned r ∧ Own w' w.heap.size 5 r (blL i v L) (blF i v n b) ∧ Below w.heap.size w w' := by
  obtain ⟨w0, hw0⟩ : ∃ w0, w0 = w.alloc (.cells (ba 12 n) 78) := ⟨_, rfl⟩
  have q0 : row w0 w.heap.size = some (ba 12 n) := by rw [hw0]; exact row_alloc_at _ _ _ _ rfl
  have B0 := Lib.hid (show Below w.heap.size w w0 by rw [hw0]; exact (Below.refl w.heap.size w).alloc (by simp) _)
  have HSB := Lib.hid hb
  have HW0 := Lib.hid hw0
  obtain ⟨G, hG⟩ : ∃ G, G = w.heap.size := ⟨_, rfl⟩
  have HG := Lib.hid hG
  rw [← hG] at q0
  clear hb hw0 hG
  go_enter Tryz.func36, Tryz.ntmps36
  go_wp2_with fail
  rw [← HW0.out, ← HG.out]
  refine (rput_any i 0 0 none nF w0 (Sl.nothing _ _ _ _ _) (by omega) hi).mono ?_
  rintro e w1 ⟨v1, rfl, ho1, hb1⟩
  rw [catF_zero, Nat.zero_add] at ho1
  obtain ⟨A1, c1, rfl, h1, -, -⟩ := ho1.sl
  have q1 := carry hb1 q0
  have B1 := Lib.hid (onto B0.out B0.out.size hb1)
  have S1 := Lib.hid h1
  clear ho1 h1 hb1 q0 B0 HW0
  go_wp2_with fail
  have hle := encL_le i
  refine (rput_any v (encL i) c1 A1 (encF i) w1 S1.out (by omega) hv).mono ?_
  rintro e w2 ⟨v2, rfl, ho2, hb2⟩
  have q2 := carry hb2 q1
  have B2 := Lib.hid (onto B1.out B1.out.size hb2)
  rw [show encL i + encL v = hdL i v from rfl] at ho2
  obtain ⟨N, hN⟩ : ∃ N, N = hdL i v := ⟨_, rfl⟩
  have hN18 : N ≤ 18 := by rw [hN]; exact (hdL_le i v).2
  rw [← hN] at ho2
  have O2 := Lib.hid (show Own w2 w.heap.size 5 v2 N (hdF i v) from (ho2.base B1.out.size))
  have HN := Lib.hid hN
  have hz2 := B2.out.size
  have SN := Sl.of_row q2 w2.heap.size (row_lt q2)
  have sA := non_sl_a G w2
  clear ho2 hb2 q1 B1 S1 hle hN
  go_wp2_with (at_builtin; first
    | (refine wpl_appB rfl (.tmp 22) (.tmp 23) rfl sli_u u8_info O2.out SN (by omega) hz2 rfl rfl ?_
       intro v3 w3 ho3 hg3 ht3
       have B3 := Lib.hid (O2.out.after hg3 B2.out hz2 (Nat.le_refl _))
       have O3 := Lib.hid ho3
       have S3 := Lib.hid ((HSB.out.below B3.out).more B3.out.size)
       have hz3 := B3.out.size
       clear ho3 hg3 ht3 q2 B2 O2 hz2 SN sA)
    | (refine wpl_appB rfl (.tmp 24) (.tmp 25) rfl sli_u u8_info O3.out S3.out (by omega) hz3 rfl rfl ?_
       intro v4 w4 ho4 hg4 ht4))
  have B4 := Lib.hid (O3.out.after hg4 B3.out hz3 (Nat.le_refl _))
  have O4 := Lib.hid (show Own w4 w.heap.size 5 v4 (blL i v L) (blF i v n b) by
    have := ho4
    rw [HN.out] at this
    unfold blF blL
    exact this)
  clear ho4 hg4 ht4
  go_ret
  exact ⟨_, rfl, O4.out, B4.out⟩

/-- what Take answers, refused or not -/
def taV (n : Nat) (f : Bf) : Nat := if tkE n f = 0 then tkV f else 0
def taM (n : Nat) (f : Bf) : Nat := if tkE n f = 0 then n - tkL f else 0
theorem taP_one {n : Nat} {f : Bf} {w : World} {e : Ending} {w' : World} (h : taP n f w e w') : ∃ A c, e = .returned (.tuple #[.int .i64 (taV n f : Nat), .slice A (taM n f) c, .int .i64 (tkE n f : Nat)]) ∧ Sl w' w'.heap.size A (taM n f) c (offF f (tkL f)) ∧ Below w.heap.size w w' := by
  rcases h with ⟨hz, rfl, hb⟩ | ⟨hz, v, rfl, ho, hb⟩
  · refine ⟨none, 0, ?_, ?_, hb⟩
    · unfold taV taM; rw [if_neg hz, if_neg hz]; rfl
    · unfold taM; rw [if_neg hz]; exact Sl.nothing _ _ _ _ _
  · obtain ⟨A, c, rfl, h1, -, -⟩ := ho.sl
    refine ⟨A, c, ?_, ?_, hb⟩
    · unfold taV taM; rw [if_pos hz, if_pos hz, hz]; rfl
    · unfold taM; rw [if_pos hz]; exact h1
theorem rdB_parts (n : Nat) (f : Bf) : rdB n f = true ∧ tkE n f = 0 ∧ tkE (taM n f) (rdR f) = 0 ∧ 1 ≤ taV n f ∧ 1 ≤ taV (taM n f) (rdR f) ∧ 28 ≤ taM (taM n f) (rdR f) ∧ taM (taM n f) (rdR f) ≤ 92 ∨
    rdB n f = false ∧ (tkE n f ≠ 0 ∨ tkE n f = 0 ∧ (tkE (taM n f) (rdR f) ≠ 0 ∨ tkE (taM n f) (rdR f) = 0 ∧ (taV n f < 1 ∨ 1 ≤ taV n f ∧ (taV (taM n f) (rdR f) < 1 ∨ 1 ≤ taV (taM n f) (rdR f) ∧ (taM (taM n f) (rdR f) < 28 ∨ 28 ≤ taM (taM n f) (rdR f) ∧ 92 < taM (taM n f) (rdR f)))))) := by
  by_cases h1 : tkE n f = 0
  · have m1 : taM n f = n - tkL f := by unfold taM; rw [if_pos h1]
    have v1 : taV n f = tkV f := by unfold taV; rw [if_pos h1]
    rw [m1, v1]
    by_cases h2 : tkE (n - tkL f) (rdR f) = 0
    · have m2 : taM (n - tkL f) (rdR f) = n - tkL f - tkL (rdR f) := by unfold taM; rw [if_pos h2]
      have v2 : taV (n - tkL f) (rdR f) = tkV (rdR f) := by unfold taV; rw [if_pos h2]
      rw [m2, v2]
      unfold rdB
      rw [decide_eq_true_eq, decide_eq_false_iff_not]
      omega
    · refine .inr ⟨?_, .inr ⟨h1, .inl h2⟩⟩
      rw [Bool.eq_false_iff]; intro h; exact h2 (rdB_iff.1 h).2.2.1
  · refine .inr ⟨?_, .inl h1⟩
    rw [Bool.eq_false_iff]; intro h; exact h1 (rdB_iff.1 h).1
/-- a nonce in one block, and whatever in another one -/
def RdC (a b : Nat) (N : Bf) (w : World) : Prop := (∃ c0, row w a = some (ba 12 c0)) ∧ row w b = some (ba 12 N)
def RdD (a b : Nat) (N : Bf) (w : World) : Prop := row w a = some (ba 12 N) ∧ row w b = some (ba 12 N)
theorem RdC.of {a b : Nat} {N c0 : Bf} {w : World} (h : row w a = some (ba 12 c0)) (k : row w b = some (ba 12 N)) : RdC a b N w := ⟨⟨_, h⟩, k⟩
theorem RdC.fst {a b : Nat} {N : Bf} {w : World} (h : RdC a b N w) : ∃ c0, row w a = some (ba 12 c0) := h.1
theorem RdC.snd {a b : Nat} {N : Bf} {w : World} (h : RdC a b N w) : row w b = some (ba 12 N) := h.2
theorem RdC.alloc {a b : Nat} {N : Bf} (w : World) (z : Obj) (h : RdC a b N w) : RdC a b N (w.alloc z) := by
  obtain ⟨⟨c0, h1⟩, h2⟩ := h
  exact ⟨⟨c0, row_alloc h1 z⟩, row_alloc h2 z⟩
theorem RdC.drewN {a b : Nat} {N : Bf} {w : World} (h : RdC a b N w) (n : Nat) : RdC a b N (w.drewN n) := by
  obtain ⟨⟨c0, h1⟩, h2⟩ := h
  exact ⟨⟨c0, by rw [row_drewN]; exact h1⟩, by rw [row_drewN]; exact h2⟩
theorem RdD.alloc {a b : Nat} {N : Bf} (w : World) (z : Obj) (h : RdD a b N w) : RdD a b N (w.alloc z) := ⟨row_alloc h.1 z, row_alloc h.2 z⟩
theorem RdD.c {a b : Nat} {N : Bf} {w : World} (h : RdD a b N w) : RdC a b N w := ⟨⟨_, h.1⟩, h.2⟩
set_option maxRecDepth 20000 in
set_option maxHeartbeats 4000000 in
theorem rrd_any (n c : Nat) (A : Option Addr) (f : Bf) (w : World) (hs : Sl w w.heap.size A n c f) (hn : n ≤ 140737488355328) :
    Calls Tryz.prog 39 #[.slice A n c] w fun e w' => ∃ v, e = .returned (.tuple #[.int .i64 (rdI n f), .int .i64 (rdV n f), .agg (ba 12 (rdN n f)), v, .int .i64 (rdE n f)]) ∧ Own w' w.heap.size 5 v (rdL n f) (rdF f) ∧ Below w.heap.size w w' := by
  have hno : rdB n f = false → ∀ (tm : Array Value), tm.getD 2 undef = .int .i64 0 → tm.getD 3 undef = .int .i64 0 → tm.getD 4 undef = .pointer (some ⟨w.heap.size, 0, none⟩) → tm.getD 5 undef = .slice none 0 0 → tm.getD 6 undef = .int .i64 140 → ∀ (w2 : World), Below w.heap.size w w2 → row w2 w.heap.size = some (ba 12 fun _ => 0#8) →
      bodyPost Tryz.prog Tryz.f39 (fun e w' => ∃ v, e = .returned (.tuple #[.int .i64 (rdI n f), .int .i64 (rdV n f), .agg (ba 12 (rdN n f)), v, .int .i64 (rdE n f)]) ∧ Own w' w.heap.size 5 v (rdL n f) (rdF f) ∧ Below w.heap.size w w') .ret { tmps := tm, defers := [] } w2 := by
    intro hB tm e2 e3 e4 e5 e6 w2 hb q2
    refine bodyPost_ret (v := .tuple #[.int .i64 0, .int .i64 0, .agg (ba 12 fun _ => 0#8), .slice none 0 0, .int .i64 140]) ?_ rfl ⟨_, ?_, by rw [rdL_no hB]; exact Own.nil _ _ _ _, hb⟩
    · have hr := res_rd (P := Tryz.prog) (fn := Tryz.f39) (p := 2) (q := 3) (r := 4) (u := 5) (v := 6) rfl tm w2 w.heap.size (ba 12 fun _ => 0#8) _ e4 q2 non_u rfl (by rw [ba_size]; exact non_i)
      rw [e2, e3, e5, e6] at hr
      exact hr
    · rw [rdI_no hB, rdV_no hB, rdN_no hB, rdE_no hB]
  have HNO := Lib.hid hno
  clear hno
  obtain ⟨w0, hw0⟩ : ∃ w0, w0 = (w.alloc (.cells (ba 12 fun _ => 0#8) 78)).alloc (.cells (ba 12 fun _ => 0#8) 78) := ⟨_, rfl⟩
  have q0 : row w0 w.heap.size = some (ba 12 fun _ => 0#8) := by rw [hw0]; simp [go_sem]
  have q1 : row w0 (w.heap.size + 1) = some (ba 12 fun _ => 0#8) := by rw [hw0]; simp [go_sem]
  have b0 : Below w.heap.size w w0 := by rw [hw0]; exact ((Below.refl w.heap.size w).alloc (by simp) _).alloc (by simp) _
  have B0 := Lib.hid b0
  have H0 := Lib.hid (rtake_num n c A f w0 ((hs.below b0).more b0.size) hn)
  have HE1 := Lib.hid hw0
  obtain ⟨G, hG⟩ : ∃ G, G = w.heap.size + 1 := ⟨_, rfl⟩
  rw [← hG] at q1
  have HG := Lib.hid hG
  have HQ0 := Lib.hid q0
  have HQ1 := Lib.hid q1
  clear hs hw0 b0 hG q0 q1
  go_enter Tryz.func39, Tryz.ntmps39
  go_wp2_with fail
  rw [← HE1.out, ← HG.out]
  clear HE1
  refine H0.out.mono ?_
  rintro e w1 ht
  obtain ⟨A1, c1, rfl, h1, hb1⟩ := taP_one ht
  have hr0 := carry hb1 HQ0.out
  have hr1 := carry hb1 HQ1.out
  have B1 := Lib.hid (onto B0.out B0.out.size hb1)
  obtain ⟨V, hV⟩ : ∃ V, V = taV n f := ⟨_, rfl⟩
  obtain ⟨M, hM⟩ : ∃ V, V = taM n f := ⟨_, rfl⟩
  obtain ⟨E, hE⟩ : ∃ V, V = tkE n f := ⟨_, rfl⟩
  have hMn : M ≤ 140737488355328 := by rw [hM]; unfold taM; split <;> omega
  rw [← hM] at h1
  have H1 := Lib.hid (rtake_num M c1 A1 (rdR f) w1 h1 hMn)
  have HP := Lib.hid (rdB_parts n f)
  rw [← hM, ← hE, ← hV] at HP
  rw [← hV, ← hM, ← hE]
  have HV := Lib.hid hV
  have HM := Lib.hid hM
  have HE := Lib.hid hE
  clear ht h1 hb1 H0 B0 HQ0 HQ1 hV hM hE
  go_wp2_with fail
  refine H1.out.mono ?_
  rintro e w2 ht
  obtain ⟨A2, c2, rfl, h2, hb2⟩ := taP_one ht
  have hs0 := carry hb2 hr0
  have hs1 := carry hb2 hr1
  have B2 := Lib.hid (onto B1.out B1.out.size hb2)
  obtain ⟨V2, hV2⟩ : ∃ V, V = taV M (rdR f) := ⟨_, rfl⟩
  obtain ⟨M2, hM2⟩ : ∃ V, V = taM M (rdR f) := ⟨_, rfl⟩
  obtain ⟨E2, hE2⟩ : ∃ V, V = tkE M (rdR f) := ⟨_, rfl⟩
  rw [← hM2] at h2
  have S2 := Lib.hid h2
  rw [← hM2, ← hE2, ← hV2] at HP
  rw [← hV2, ← hM2, ← hE2]
  have HV2 := Lib.hid hV2
  have HM2 := Lib.hid hM2
  have HE2 := Lib.hid hE2
  clear ht h2 hb2 H1 B1 hV2 hM2 hE2 hr0 hr1
  rcases HP.out with ⟨hB, a1, a2, a3, a4, a5, a6⟩ | ⟨hB, hno⟩
  · have HB := Lib.hid hB
    have HVV := Lib.hid (show (V : Int) = rdI n f by rw [rdI_ok hB, HV.out]; unfold taV; rw [if_pos (by rw [← HE.out]; exact a1)])
    have e1 : tkE n f = 0 := by rw [← HE.out]; exact a1
    have e2 : tkE (n - tkL f) (rdR f) = 0 := by have h := a2; rw [HE2.out, HM.out] at h; unfold taM at h; rwa [if_pos e1] at h
    have hm1 : M = n - tkL f := by rw [HM.out]; unfold taM; rw [if_pos e1]
    have hm2 : M2 = n - tkL f - tkL (rdR f) := by rw [HM2.out, hm1]; unfold taM; rw [if_pos e2]
    have HVV2 := Lib.hid (show (V2 : Int) = rdV n f by rw [rdV_ok hB, HV2.out, hm1]; unfold taV; rw [if_pos e2])
    have HML := Lib.hid (show M2 - 12 = rdL n f by rw [rdL_ok hB, hm2])
    have hd1 : decide ((V : Int) < 1) = false := by simp; omega
    have hd2 : decide ((V2 : Int) < 1) = false := by simp; omega
    have hd3 : decide ((M2 : Int) < 28) = false := by simp; omega
    have hd4 : decide ((92 : Int) < (M2 : Int)) = false := by simp; omega
    have hM2a : 28 ≤ M2 := a5
    have hM2b : M2 ≤ 92 := a6
    subst a1 a2
    obtain ⟨g, hg⟩ : ∃ g, g = offF (rdR f) (tkL (rdR f)) := ⟨_, rfl⟩
    rw [← hg] at S2
    have HEN := Lib.hid (show ba 12 (putF (fun _ => 0#8) 0 12 g) = ba 12 (rdN n f) from ba_ext fun i hi => by
      rw [rdN_ok hB, hg]
      unfold putF rdO rdR
      rw [offF_offF, if_pos (by omega), Nat.sub_zero])
    have HEF := Lib.hid (show offF g 12 = rdF f by
      rw [hg]; unfold rdF rdO rdR; rw [offF_offF, offF_offF, Nat.add_assoc])
    obtain ⟨ga, oa, rfl, hga, hcell⟩ := S2.out.at_ (by omega)
    have HCE := Lib.hid hcell
    have hMc := S2.out.le
    obtain ⟨w3, hw3⟩ : ∃ w3, w3 = w2.alloc (.cells (ba 12 fun _ => 0#8) 78) := ⟨_, rfl⟩
    obtain ⟨D, hD⟩ : ∃ D, D = w2.heap.size := ⟨_, rfl⟩
    have HR3 := Lib.hid (show row w3 D = some (ba 12 fun _ => 0#8) by rw [hw3, hD]; exact row_alloc_at _ _ _ _ rfl)
    have b3 : Below w2.heap.size w2 w3 := by rw [hw3]; exact (Below.refl _ _).alloc (Nat.le_refl _) _
    have q0 := Lib.hid (carry b3 hs0)
    have hGD : w.heap.size ≠ D := by have := row_lt hs0; omega
    have HW3 := Lib.hid hw3
    have HD := Lib.hid hD
    have B3 := Lib.hid b3
    have hgaD : ga < D := by omega
    have hBD := B2.out.size
    clear HP hB hm1 hm2 HE HE2 a3 a4 a5 a6 HV HV2 HM HM2 hs0 hg hcell hw3 hD b3
    go_wp2_with fail
    rw [← HW3.out, ← HD.out]
    clear hs1
    go_loopw [14] (fun iv wr => ∃ j : Nat, j ≤ 12 ∧ iv = .int .i64 j ∧ wr = w3.setRow D (ba 12 (putF (fun _ => 0#8) 0 j g))) (fun iv _ => 12 - (intOf iv).toNat)
    case atStart => exact ⟨0, by omega, rfl, by
      rw [show ba 12 (putF (fun _ => 0#8) 0 0 g) = ba 12 fun _ => 0#8 from ba_ext fun i hi => by unfold putF; rw [if_neg (by omega)], setRow_self HR3.out]⟩
    case round =>
      obtain ⟨j, hj, rfl, rfl⟩ := hrel
      have hrow := row_setRow HR3.out (ba 12 (putF (fun _ => 0#8) 0 j g))
      have hbw : Below w2.heap.size w2 (w3.setRow D (ba 12 (putF (fun _ => 0#8) 0 j g))) := below_setRow B3.out (Nat.le_of_eq HD.out.symm) _
      by_cases hlt : j < 12
      · have hd : decide ((j : Int) < 12) = true := by simp; omega
        have hjM : j < M2 := by omega
        have hc1 := (hbw.cell (p := ⟨ga, oa + j, none⟩) (by have := HD.out; omega)).trans (HCE.out j hjM)
        have hcl : (w3.setRow D (ba 12 (putF (fun _ => 0#8) 0 j g))).cell? ⟨D, j, none⟩ = some (.int .u8 (I (putF (fun _ => 0#8) 0 j g j))) := by rw [cell_row hrow, ba_get _ _ _ (by omega)]
        have hfz : (w3.setRow D (ba 12 (putF (fun _ => 0#8) 0 j g))).frozen? ⟨D, j, none⟩ = false := froz_row hrow _
        have HW := Lib.hid (show ((w3.setRow D (ba 12 (putF (fun _ => 0#8) 0 j g))).setCell ⟨D, j, none⟩ (.int .u8 (I (g j)))) = w3.setRow D (ba 12 (putF (fun _ => 0#8) 0 (j + 1) g)) by
          rw [setCell_row hrow, ba_set, setRow_setRow]
          congr 2
          funext i
          unfold upd putF
          by_cases hi : i = j
          · rw [if_pos hi, if_pos (by omega), hi, Nat.sub_zero]
          · rw [if_neg hi]
            by_cases h2 : i < j
            · rw [if_pos (by omega), if_pos (by omega)]
            · rw [if_neg (by omega), if_neg (by omega)])
        clear hrow hbw
        generalize w3.setRow D (ba 12 (putF (fun _ => 0#8) 0 j g)) = wr at hc1 hcl hfz HW ⊢
        go_wp2
        rw [HW.out]
        go_roundw
        case rel => exact ⟨j + 1, by omega, rfl, rfl⟩
        case measure => simp [intOf]; omega
      · obtain rfl : j = 12 := by omega
        have hd : decide (((12 : Nat) : Int) < 12) = false := by decide
        have S3 := Lib.hid ((S2.out.below hbw).more hbw.size)
        have B4 := Lib.hid (onto B2.out B2.out.size hbw)
        have k0 : row (w3.setRow D (ba 12 (putF (fun _ => 0#8) 0 12 g))) w.heap.size = some (ba 12 fun _ => 0#8) := by rw [row_setRow_other _ _ _ _ hGD]; exact q0.out
        rw [HEN.out] at hrow S3 B4 k0 ⊢
        obtain ⟨N, hN⟩ : ∃ a, a = rdN n f := ⟨_, rfl⟩
        rw [← hN] at hrow S3 B4 k0 ⊢
        have HN := Lib.hid hN
        clear hbw hN HCE HEN HW3
        generalize w3.setRow D (ba 12 N) = w4 at hrow S3 B4 k0 ⊢
        go_wp2_with fail
        obtain ⟨R, hR⟩ : ∃ R, R = w.heap.size := ⟨_, rfl⟩
        rw [← hR] at k0
        have HR := Lib.hid hR
        have fr := run_from sli_u u8_i (some (⟨ga, oa, none⟩ : Addr)) M2 c2 12 (by omega)
        rw [show ((12 : Nat) : Int) = 12 from rfl] at fr
        have S4 := Lib.hid (S3.out.from_ 12 (by omega))
        rw [HEF.out, HML.out] at S4
        rw [HML.out] at fr
        obtain ⟨L, hL⟩ : ∃ a, a = rdL n f := ⟨_, rfl⟩
        rw [← hL] at fr S4
        have hL80 : L ≤ 80 := by rw [hL]; exact rdL_le
        have HL := Lib.hid hL
        obtain ⟨AC, hAC⟩ : ∃ a, a = cutA (some (⟨ga, oa, none⟩ : Addr)) c2 12 := ⟨_, rfl⟩
        rw [← hAC] at fr S4
        have K4 := Lib.hid (RdC.of k0 hrow)
        have hRl := row_lt k0
        rw [← hR]
        clear hL hAC hrow k0 S3 HEF HML hR
        refine flow_many [.inl [0, 1, 2, 4, 5], pS 3, pU 3, pE 6, .inl [7, 8], pE 9, .inl [10, 11]] (RdC R D N) [R] (by kernel_rfl) (by kernel_rfl) (fun _ _ _ _ _ h => h) (fun _ _ _ _ _ h => h) RdC.alloc (K4.out.drewN 1) (fun k hk => by simp at hk; rw [hk]; exact hRl) ?_
        have hne : Nonempty (In (RdC R D N)) := ⟨⟨w4, K4.out⟩⟩
        have B5 := Lib.hid (below_drewN (Below.refl w4.heap.size w4) 1)
        have z5 : (w4.drewN 1).heap.size = w4.heap.size := rfl
        obtain ⟨w5, hw5⟩ : ∃ w5, w5 = w4.drewN 1 := ⟨_, rfl⟩
        rw [← hw5] at B5 z5 ⊢
        clear hw5
        have q1 : ∀ y : In (RdC R D N), row y.val D = some (ba 12 N) := fun y => y.ok.snd
        refine wpM_q ?_
        simp only [pk, List.getElem?_cons_zero, List.getElem?_cons_succ]
        repeat (go_big_quiet_step (fail))
        refine wpQuiet_nil ?_
        clear q1 fr
        refine wpM_s (fun p => .slice (some ⟨p, 0, none⟩) 0 0) (.cells #[] 5) _ rfl rfl (fun w => ex_bs0 _ rfl w) ?_
        refine wpM_u _ _ _ 67 (.head _) rfl rfl (fun y hy p hp1 hp2 hp3 hp4 => ?_)
        refine wpM_e _ rfl (fun y2 hy2 => ?_)
        have hp1 : w4.heap.size ≤ p := hp1
        have B7 := Lib.hid (onto (onto B5.out B5.out.size y.below) (by have := B5.out.size; have := y.below.size; omega) y2.below)
        have O7 := Lib.hid (show Own y2.val w4.heap.size 5 (.slice (some ⟨p, 0, none⟩) 0 0) 0 nF from own_new (by rw [y2.below.block p hp2]; exact hp4) hp1)
        have C7 := Lib.hid hy2
        have HP3 := Lib.hid hp3
        obtain ⟨w7, hw7⟩ : ∃ w7, w7 = y2.val := ⟨_, rfl⟩
        rw [← hw7] at B7 O7 C7 ⊢
        clear hw7 hy2 hy hp3 hp4 hp2 B5 y2 y
        have S7 := Lib.hid (S4.out.below B7.out)
        go_wp2_with (at_builtin; refine wpl_appB rfl (.tmp 67) (.tmp 69) rfl sli_u u8_info O7.out S7.out (by omega) (by have := B7.out.size; omega) rfl rfl ?_; intro v8 w8 ho8 hg8 ht8)
        rw [catF_zero, Nat.zero_add] at ho8
        have B8 := Lib.hid (O7.out.after hg8 B7.out B7.out.size (Nat.le_refl _))
        have O8 := Lib.hid ho8
        have hRp : R ≠ p := by omega
        have hDp : D ≠ p := by have := row_lt (K4.out.snd); omega
        obtain ⟨c7, hc7⟩ := C7.out.fst
        have R8 := Lib.hid (RdC.of (N := N) (grown_row hg8 hc7 (fun e => hRp (Option.some.inj e).symm)) (grown_row hg8 C7.out.snd (fun e => hDp (Option.some.inj e).symm)))
        have z8 := B8.out.size
        refine same_class (C := RdC R D N) [R] ((Frm.app hg8).more (fun k hk => by
          have hk : k = p := by simpa [Value.ownBlock] using hk
          rw [hk]; exact .head _)) (fun k hk => by
            have hk : k = R := by simpa using hk
            rw [hk]
            obtain ⟨c8, hc8⟩ := R8.out.fst
            exact ⟨.inl (.tail _ (.head _)), row_lt hc8⟩) R8.out RdC.alloc ?_
        clear ho8 hg8 ht8 O7 S7 C7 HP3 B7 hc7
        refine wpM_q ?_
        simp only [pk, List.getElem?_cons_zero, List.getElem?_cons_succ]
        repeat (go_big_quiet_step (fail))
        refine wpQuiet_nil ?_
        refine wpM_e _ rfl (fun y hy => ?_)
        have B9 := Lib.hid (onto B8.out z8 y.below)
        have O9 := Lib.hid (O8.out.below y.below (Nat.le_refl _))
        have C9 := Lib.hid hy.snd
        have C9' := Lib.hid hy.fst
        obtain ⟨w9, hw9⟩ : ∃ w9, w9 = y.val := ⟨_, rfl⟩
        rw [← hw9] at B9 O9 C9 C9' ⊢
        clear hw9 hy B8 O8 R8 y z8
        obtain ⟨c9, r9⟩ := C9'.out
        have hRl2 := row_lt r9
        have f9 := Frm.row (hot := [R]) w9 (ba 12 N) (p := R) (by simp)
        have t1 := row_setRow r9 (ba 12 N)
        have t2 : row (w9.setRow R (ba 12 N)) D = some (ba 12 N) := by rw [row_setRow_other _ _ _ _ (by have := HR.out; omega)]; exact C9.out
        have HT := Lib.hid (show RdD R D N (w9.setRow R (ba 12 N)) from ⟨t1, t2⟩)
        have HF := Lib.hid f9
        have B10 := Lib.hid (below_setRow (onto B4.out B4.out.size B9.out) (Nat.le_of_eq HR.out.symm : w.heap.size ≤ R) (ba 12 N))
        have O10 := Lib.hid (O9.out.setRow R (fun e => by have := (O9.out.lt e).1; omega) (ba 12 N))
        clear t1 t2 f9
        go_wp2_with fail
        generalize w9.setRow R (ba 12 N) = w10 at HT HF B10 O10 ⊢
        refine new_class (C := RdC R D N) (RdD R D N) [R] HF.out (fun k hk => by
            have hk : k = R := by simpa using hk
            rw [hk]
            exact ⟨.inl (.head _), row_lt HT.out.1⟩) HT.out (fun _ h => h.c) RdD.alloc ?_
        clear hne
        have hne : Nonempty (In (RdD R D N)) := ⟨⟨w10, HT.out⟩⟩
        refine wpM_q ?_
        simp only [pk, List.getElem?_cons_zero, List.getElem?_cons_succ]
        repeat (go_big_quiet_step (fail))
        refine wpQuiet_nil ?_
        refine wpM_nil (fun y => ?_)
        have B11 := Lib.hid (onto B10.out B10.out.size y.below)
        have O11 := Lib.hid (O10.out.below y.below (Nat.le_refl _))
        have r11 := Lib.hid (carry y.below HT.out.1)
        obtain ⟨w11, hw11⟩ : ∃ w9, w9 = y.val := ⟨_, rfl⟩
        rw [← hw11] at B11 O11 r11 ⊢
        clear hw11 y
        go_wp2
        refine bodyPost_ret (v := .tuple #[.int .i64 V, .int .i64 V2, .agg (ba 12 N), v8, .int .i64 0]) ?_ rfl ⟨v8, ?_, ?_, B11.out⟩
        · exact res_rd (P := Tryz.prog) (fn := Tryz.f39) (p := 2) (q := 3) (r := 4) (u := 5) (v := 6) rfl _ w11 R (ba 12 N) _ rfl r11.out non_u rfl (by rw [ba_size]; exact non_i)
        · rw [HVV.out, HVV2.out, HN.out, rdE_ok HB.out]
        · rw [← HL.out]
          exact O11.out.base B4.out.size
  · have HB := Lib.hid hB
    clear hB HP
    have hcase : (((E : Int) != 0) = true) ∨ (((E : Int) != 0) = false ∧ ((E2 : Int) != 0) = true) ∨ (((E : Int) != 0) = false ∧ ((E2 : Int) != 0) = false ∧ decide ((V : Int) < 1) = true) ∨
        (((E : Int) != 0) = false ∧ ((E2 : Int) != 0) = false ∧ decide ((V : Int) < 1) = false ∧ decide ((V2 : Int) < 1) = true) ∨
        (((E : Int) != 0) = false ∧ ((E2 : Int) != 0) = false ∧ decide ((V : Int) < 1) = false ∧ decide ((V2 : Int) < 1) = false ∧ decide ((M2 : Int) < 28) = true) ∨
        (((E : Int) != 0) = false ∧ ((E2 : Int) != 0) = false ∧ decide ((V : Int) < 1) = false ∧ decide ((V2 : Int) < 1) = false ∧ decide ((M2 : Int) < 28) = false ∧ decide ((92 : Int) < (M2 : Int)) = true) := by
      simp
      omega
    clear hno
    rcases hcase with g1 | ⟨g1, g2⟩ | ⟨g1, g2, g3⟩ | ⟨g1, g2, g3, g4⟩ | ⟨g1, g2, g3, g4, g5⟩ | ⟨g1, g2, g3, g4, g5, g6⟩
    all_goals
      go_wp2_with fail
    all_goals
      refine flow_seen [([0, 1, 2], 3, false)] [4, 5] (by kernel_rfl) (by kernel_rfl) (fun _ _ _ _ _ h => h) fun X => ?_
      have u0 := carry X.below hs0
      have u1 := carry X.below hs1
      have B3 := Lib.hid (onto B2.out B2.out.size X.below)
      clear hs0 hs1 B2 S2
      generalize X.val = w3 at u0 u1 B3 ⊢
      clear X
      have k1 := After.row u1
      simp only [wpFs, pk, List.getElem?_cons_zero, List.getElem?_cons_succ]
      repeat (go_big_quiet_step (fail))
      refine wpQuiet_nil ?_
      clear k1
      have e3 : w3.setRow w.heap.size (ba 12 fun _ => 0#8) = w3 := setRow_self u0
      go_wp2_with fail
      clear e3
      refine ⟨.inr (Below.refl _ _), ?_⟩
      show wpQuiet _ _ _ _ _ _
      repeat (go_big_quiet_step (fail))
      refine wpQuiet_nil ?_
      go_wp2
      exact HNO.out HB.out _ rfl rfl rfl rfl rfl _ B3.out u0
end Go.Proofs.YtamemjldafoolaaGreat.Oct
