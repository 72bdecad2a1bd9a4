/- Contracts of envelope's open, Decrypt, Rewrap. -/
import Derived.Test.YtamemjldafoolaaGreatEvD
namespace Go.Proofs.YtamemjldafoolaaGreat.Oct
open Go.ChangeShapes Go.WideShapes Go.ChangeAt Go.RowKit
set_option linter.unusedVariables false

section
variable {K : Ks} {n : Nat} {f s : Bf} {S : Nat}
theorem dc_long (h : 32 < S) : dcE K n f s S = 2 := by unfold dcE; rw [if_pos h]
theorem dc_blob (h : ¬ 32 < S) (hr : rdB n f = false) : dcE K n f s S = 140 := by unfold dcE; rw [if_neg h, if_pos hr]
theorem dc_mat (h : ¬ 32 < S) (hr : rdB n f = true) (hm : mtE K (rdI n f) (rdV n f) ≠ 0) : dcE K n f s S = mtE K (rdI n f) (rdV n f) := by unfold dcE; rw [if_neg h, if_neg (by rw [hr]; decide), if_neg hm]
theorem dc_op (h : ¬ 32 < S) (hr : rdB n f = true) (hm : mtE K (rdI n f) (rdV n f) = 0) : dcE K n f s S = opC (mtM K (rdI n f) (rdV n f)) (rdN n f) s S (rdF f) (rdL n f) := by unfold dcE; rw [if_neg h, if_neg (by rw [hr]; decide), if_pos hm]
theorem dcI_no (h : dcE K n f s S ≠ 0) : dcI K n f s S = 0 := by unfold dcI; rw [if_neg h]
theorem dcL_no (h : dcE K n f s S ≠ 0) : dcL K n f s S = 0 := by unfold dcL; rw [if_neg h]
theorem dcI_ok (h : dcE K n f s S = 0) : dcI K n f s S = rdI n f := by unfold dcI; rw [if_pos h]
theorem dcL_ok (h : dcE K n f s S = 0) : dcL K n f s S = rdL n f - 16 := by unfold dcL; rw [if_pos h]
theorem dcL_le : dcL K n f s S ≤ 64 := by
  unfold dcL
  split
  · have := rdL_le (n := n) (f := f); omega
  · omega
end
set_option maxRecDepth 20000 in
set_option maxHeartbeats 4000000 in
theorem pop_any (B : Nat) (K : Ks) (f : Bf) (n c : Nat) (A : Option Addr) (s : Bf) (S cS : Nat) (AS : Option Addr) (w : World) (hk : KpW w B K) (hf : Sl w w.heap.size A n c f) (hn : n ≤ 140737488355328) (hs : Sl w w.heap.size AS S cS s) :
    Calls Tryz.prog 38 #[.pointer (some ⟨B, 0, none⟩), .slice A n c, .slice AS S cS] w fun e w' => ∃ v, e = .returned (.tuple #[.int .i64 (dcI K n f s S), v, .int .i64 (dcE K n f s S)]) ∧ Own w' w.heap.size 5 v (dcL K n f s S) (dcF K n f) ∧ Below w.heap.size w w' := by
  have hno : ∀ E : Int, dcE K n f s S = E → E ≠ 0 → ∀ (tm : Array Value), tm.getD 6 undef = .int .i64 0 → tm.getD 7 undef = .slice none 0 0 → tm.getD 8 undef = .int .i64 E → ∀ (w2 : World), Below w.heap.size w w2 →
      bodyPost Tryz.prog Tryz.f38 (fun e w' => ∃ v, e = .returned (.tuple #[.int .i64 (dcI K n f s S), v, .int .i64 (dcE K n f s S)]) ∧ Own w' w.heap.size 5 v (dcL K n f s S) (dcF K n f) ∧ Below w.heap.size w w') .ret { tmps := tm, defers := [] } w2 := by
    intro E hE h0 tm e6 e7 e8 w2 hb
    have hne : dcE K n f s S ≠ 0 := by rw [hE]; exact h0
    refine bodyPost_ret (v := .tuple #[.int .i64 0, .slice none 0 0, .int .i64 E]) ?_ rfl ⟨_, by rw [dcI_no hne, hE], by rw [dcL_no hne]; exact Own.nil _ _ _ _, hb⟩
    simp at e6 e7 e8
    simp [results, Tryz.results38, go_sem, e6, e7, e8]
  have HNO := Lib.hid hno
  have HK := Lib.hid hk
  have HS := Lib.hid hs
  have HF := Lib.hid hf
  clear hno hk hs hf
  by_cases hlong : 32 < S
  · have hd : decide ((32 : Int) < (S : Int)) = true := by simp; omega
    have HE := Lib.hid (dc_long (K := K) (n := n) (f := f) (s := s) hlong)
    clear hlong
    go_enter Tryz.func38, Tryz.ntmps38
    go_wp2_with fail
    exact HNO.out 2 HE.out (by decide) _ rfl rfl rfl _ (Below.refl _ _)
  · have hd : decide ((32 : Int) < (S : Int)) = false := by simp; omega
    have HNL := Lib.hid hlong
    clear hlong
    go_enter Tryz.func38, Tryz.ntmps38
    go_wp2_with fail
    refine (prd_any n c A f w HF.out hn).mono ?_
    rintro e w1 ⟨A1, c1, rfl, h1, -, hb1⟩
    have b2 := hb1.alloc hb1.size (.cells (ba 12 (rdN n f)) 78)
    have r2 : row (w1.alloc (.cells (ba 12 (rdN n f)) 78)) w1.heap.size = some (ba 12 (rdN n f)) := row_alloc_at _ _ _ _ rfl
    have b12 := (Below.refl w1.heap.size w1).alloc (Nat.le_refl _) (.cells (ba 12 (rdN n f)) 78)
    have S2 := Lib.hid ((h1.below b12).more b12.size)
    have B2 := Lib.hid b2
    clear h1 hb1 b2 b12
    rcases rdE_cases (n := n) (f := f) with ⟨hE, hB⟩ | ⟨hE, hB⟩
    · rw [hE]
      have HB := Lib.hid hB
      clear hB hE
      obtain ⟨i, hi⟩ : ∃ i, i = rdI n f := ⟨_, rfl⟩
      obtain ⟨v, hv⟩ : ∃ i, i = rdV n f := ⟨_, rfl⟩
      obtain ⟨L, hL⟩ : ∃ i, i = rdL n f := ⟨_, rfl⟩
      obtain ⟨N, hN⟩ : ∃ i, i = rdN n f := ⟨_, rfl⟩
      have hL80 : L ≤ 80 := by rw [hL]; exact rdL_le
      rw [← hL] at S2
      rw [← hi, ← hv, ← hL, ← hN]
      rw [← hN] at r2 S2 B2
      have HI := Lib.hid hi
      have HV := Lib.hid hv
      have HL := Lib.hid hL
      have HN := Lib.hid hN
      clear hi hv hL hN
      obtain ⟨G, hG⟩ : ∃ G, G = w1.heap.size := ⟨_, rfl⟩
      rw [← hG] at r2
      have HG := Lib.hid hG
      clear hG
      go_wp2_with fail
      rw [← HG.out]
      clear HG
      generalize w1.alloc (.cells (ba 12 N) 78) = w2 at r2 S2 B2 ⊢
      refine (wmt_any B K i v w2 (HK.out.below B2.out)).mono ?_
      rintro e w3 ⟨rfl, hb3⟩
      obtain ⟨m, hm⟩ : ∃ m, m = mtM K i v := ⟨_, rfl⟩
      rw [← hm]
      have HM := Lib.hid hm
      have b4 := hb3.alloc hb3.size (.cells (ba 32 m) 32)
      have q2 := carry b4 r2
      have q3 : row (w3.alloc (.cells (ba 32 m) 32)) w3.heap.size = some (ba 32 m) := row_alloc_at _ _ _ _ rfl
      have S4 := Lib.hid ((S2.out.below b4).more b4.size)
      have B4 := Lib.hid (onto B2.out B2.out.size b4)
      clear hb3 b4 hm r2 S2 B2
      obtain ⟨H, hH⟩ : ∃ G, G = w3.heap.size := ⟨_, rfl⟩
      rw [← hH] at q3
      have HH := Lib.hid hH
      clear hH
      by_cases hme : mtE K i v = 0
      · have HME := Lib.hid hme
        rw [hme]
        clear hme
        go_wp2_with fail
        rw [← HH.out]
        clear HH
        generalize w3.alloc (.cells (ba 32 m) 32) = w4 at q2 q3 S4 B4 ⊢
        refine (gopen_any m N s S cS AS (rdF f) L c1 A1 w4 ((HS.out.below B4.out).more B4.out.size) S4.out (by have := HNL.out; omega) (by omega)).mono ?_
        rintro e w5 ⟨v5, rfl, ho5, hb5⟩
        have HD := Lib.hid (show dcE K n f s S = opC m N s S (rdF f) L by rw [dc_op HNL.out HB.out (by rw [← HI.out, ← HV.out]; exact HME.out), HM.out, HI.out, HV.out, HN.out, HL.out])
        have B5 := Lib.hid (onto B4.out B4.out.size hb5)
        have HO := Lib.hid (ho5.base B4.out.size)
        obtain ⟨E, hE⟩ : ∃ E, E = opC m N s S (rdF f) L := ⟨_, rfl⟩
        have HE := Lib.hid hE
        rw [← hE]
        clear hb5 ho5 hE q2 q3 S4 B4
        by_cases h0 : E = 0
        · subst h0
          go_wp2_with fail
          have e1 : dcE K n f s S = 0 := by rw [HD.out, ← HE.out]
          refine bodyPost_ret (v := .tuple #[.int .i64 i, v5, .int .i64 0]) (by simp [results, Tryz.results38, go_sem]) rfl ⟨v5, by rw [e1, dcI_ok e1, HI.out], ?_, B5.out⟩
          have ho := HO.out
          rw [show opL m N s S (rdF f) L = dcL K n f s S by unfold opL; rw [← HE.out, if_pos rfl, dcL_ok e1, HL.out]] at ho
          refine ho.congr fun k _ => ?_
          unfold dcF
          rw [HM.out, HI.out, HV.out, HN.out]
        · have hne : (E == 0) = false := by simpa using h0
          have HE0 := Lib.hid h0
          clear h0
          go_wp2_with fail
          exact HNO.out E (by rw [HD.out, ← HE.out]) HE0.out _ rfl rfl rfl _ B5.out
      · obtain ⟨E, hE⟩ : ∃ E, E = mtE K i v := ⟨_, rfl⟩
        rw [← hE] at hme ⊢
        have hne : (E == 0) = false := by simpa using hme
        have HE := Lib.hid hE
        have HE0 := Lib.hid hme
        clear hme hE
        go_wp2_with fail
        exact HNO.out E (by rw [HE.out, dc_mat HNL.out HB.out (by rw [← HI.out, ← HV.out, ← HE.out]; exact HE0.out), HI.out, HV.out]) HE0.out _ rfl rfl rfl _ B4.out
    · rw [hE]
      have HE := Lib.hid (dc_blob (K := K) (s := s) HNL.out hB)
      clear hE hB
      go_wp2_with fail
      exact HNO.out 140 HE.out (by decide) _ rfl rfl rfl _ B2.out
set_option maxRecDepth 20000 in
set_option maxHeartbeats 4000000 in
theorem pdc_any (B : Nat) (K : Ks) (f : Bf) (n c : Nat) (A : Option Addr) (s : Bf) (S cS : Nat) (AS : Option Addr) (w : World) (hk : KpW w B K) (hf : Sl w w.heap.size A n c f) (hn : n ≤ 140737488355328) (hs : Sl w w.heap.size AS S cS s) :
    Calls Tryz.prog 18 #[.pointer (some ⟨B, 0, none⟩), .slice A n c, .slice AS S cS] w fun e w' => ∃ v, e = .returned (.tuple #[v, .int .i64 (dcE K n f s S)]) ∧ Own w' w.heap.size 5 v (dcL K n f s S) (dcF K n f) ∧ Below w.heap.size w w' := by
  have H0 := Lib.hid (pop_any B K f n c A s S cS AS w hk hf hn hs)
  clear hk hf hs
  go_enter Tryz.func18, Tryz.ntmps18
  go_wp2_with fail
  refine H0.out.mono ?_
  rintro e w1 ⟨v, rfl, ho, hb⟩
  have HO := Lib.hid ho
  have HB := Lib.hid hb
  clear ho hb H0
  obtain ⟨E, hE⟩ : ∃ E, E = dcE K n f s S := ⟨_, rfl⟩
  obtain ⟨I, hI⟩ : ∃ E, E = dcI K n f s S := ⟨_, rfl⟩
  rw [← hE, ← hI]
  clear hI
  have HE := Lib.hid hE
  clear hE
  go_wp2_with fail
  exact bodyPost_ret (v := .tuple #[v, .int .i64 E]) (by simp [results, Tryz.results18, go_sem]) rfl ⟨v, by rw [HE.out], HO.out, HB.out⟩
section
variable {K : Ks} {n : Nat} {f s : Bf} {S : Nat}
theorem rw_no (h : dcE K n f s S ≠ 0) : rwE K n f s S = dcE K n f s S ∧ rwV K n f s S = 0 ∧ rwK K n f s S = K ∧ rwL K n f s S = 0 := by
  refine ⟨by unfold rwE; rw [if_neg h], by unfold rwV; rw [if_neg h], by unfold rwK; rw [if_neg h], by unfold rwL; rw [if_neg h]⟩
theorem rw_ok (h : dcE K n f s S = 0) : rwE K n f s S = enE K (dcI K n f s S) (dcL K n f s S) S ∧ rwV K n f s S = enV K (dcI K n f s S) (dcL K n f s S) S ∧ rwK K n f s S = enK K (dcI K n f s S) (dcL K n f s S) S ∧ rwL K n f s S = enL K (dcI K n f s S) (dcL K n f s S) S := by
  refine ⟨by unfold rwE; rw [if_pos h], by unfold rwV; rw [if_pos h], by unfold rwK; rw [if_pos h], by unfold rwL; rw [if_pos h]⟩
theorem rwK_ok (ok : okK K) : okK (rwK K n f s S) := by
  unfold rwK
  split
  · exact enK_ok ok
  · exact ok
end
set_option maxRecDepth 20000 in
set_option maxHeartbeats 4000000 in
theorem prw_any (B : Nat) (K : Ks) (f : Bf) (n c : Nat) (A : Option Addr) (s : Bf) (S cS : Nat) (AS : Option Addr) (w : World) (hk : KpW w B K) (hf : Sl w w.heap.size A n c f) (hn : n ≤ 140737488355328) (hs : Sl w w.heap.size AS S cS s) (hos : Off B S AS) :
    Calls Tryz.prog 20 #[.pointer (some ⟨B, 0, none⟩), .slice A n c, .slice AS S cS] w fun e w' => ∃ v, e = .returned (.tuple #[v, .int .i64 (rwV K n f s S), .int .i64 (rwE K n f s S)]) ∧ Own w' w.heap.size 5 v (rwL K n f s S) (rwF K n f s S) ∧ KpW w' B (rwK K n f s S) ∧ Chg B w w' := by
  have H0 := Lib.hid (pop_any B K f n c A s S cS AS w hk hf hn hs)
  have HK := Lib.hid hk
  have HS := Lib.hid hs
  have HOS := Lib.hid hos
  clear hk hf hs hos
  go_enter Tryz.func20, Tryz.ntmps20
  go_wp2_with fail
  refine H0.out.mono ?_
  rintro e w1 ⟨v, rfl, ho, hb⟩
  obtain ⟨A1, c1, rfl, h1, -, -⟩ := ho.sl
  have HOT := Lib.hid (Off.own ho HK.out.lt)
  have T1 := Lib.hid h1
  have HB := Lib.hid hb
  clear ho hb H0 h1
  obtain ⟨E, hE⟩ : ∃ E, E = dcE K n f s S := ⟨_, rfl⟩
  obtain ⟨I, hI⟩ : ∃ E, E = dcI K n f s S := ⟨_, rfl⟩
  obtain ⟨L, hL⟩ : ∃ E, E = dcL K n f s S := ⟨_, rfl⟩
  rw [← hL] at T1 HOT
  rw [← hE, ← hI, ← hL]
  have HE := Lib.hid hE
  have HI := Lib.hid hI
  have HL := Lib.hid hL
  clear hE hI hL
  by_cases h0 : E = 0
  · subst h0
    have e0 := HE.out
    obtain ⟨e1, e2, e3, e4⟩ := rw_ok e0.symm
    rw [← HI.out, ← HL.out] at e1 e2 e3 e4
    have E1 := Lib.hid e1
    have E2 := Lib.hid e2
    have E3 := Lib.hid e3
    have E4 := Lib.hid e4
    clear e0 e1 e2 e3 e4
    go_wp2_with fail
    refine (pen_any B K I (dcF K n f) L c1 A1 s S cS AS w1 (HK.out.below HB.out) T1.out HOT.out ((HS.out.below HB.out).more HB.out.size) HOS.out).mono ?_
    rintro e w2 ⟨v, rfl, ho, hk2, hc2⟩
    obtain ⟨V, hV⟩ : ∃ E, E = enV K I L S := ⟨_, rfl⟩
    obtain ⟨E, hE⟩ : ∃ E, E = enE K I L S := ⟨_, rfl⟩
    rw [← hV, ← hE]
    have HO := Lib.hid (ho.base HB.out.size)
    have HK2 := Lib.hid hk2
    have HC2 := Lib.hid ((Chg.of HB.out).trans hc2)
    have HVV := Lib.hid hV
    have HEE := Lib.hid hE
    clear ho hk2 hc2 hV hE
    go_wp2_with fail
    refine bodyPost_ret (v := .tuple #[v, .int .i64 V, .int .i64 E]) (by simp [results, Tryz.results20, go_sem]) rfl ⟨v, by rw [E1.out, E2.out, HVV.out, HEE.out], ?_, by rw [E3.out]; exact HK2.out, HC2.out⟩
    rw [E4.out]
    refine HO.out.congr fun k _ => ?_
    unfold rwF
    rw [← HI.out, ← HL.out]
  · have hne : (E == 0) = false := by simpa using h0
    have HN := Lib.hid h0
    clear h0
    go_wp2_with fail
    obtain ⟨e1, e2, e3, e4⟩ := rw_no (K := K) (n := n) (f := f) (s := s) (S := S) (by rw [← HE.out]; exact HN.out)
    exact bodyPost_ret (v := .tuple #[.slice none 0 0, .int .i64 0, .int .i64 E]) (by simp [results, Tryz.results20, go_sem]) rfl ⟨_, by rw [e1, e2, ← HE.out], by rw [e4]; exact Own.nil _ _ _ _, by rw [e3]; exact HK.out.below HB.out, Chg.of HB.out⟩
end Go.Proofs.YtamemjldafoolaaGreat.Oct
