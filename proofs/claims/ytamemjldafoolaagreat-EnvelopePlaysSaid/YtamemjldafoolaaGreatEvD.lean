/- Contract of envelope's Encrypt. -/
import Derived.Test.YtamemjldafoolaaGreatEvC
import Derived.Test.YtamemjldafoolaaGreatGcmAll
namespace Go.Proofs.YtamemjldafoolaaGreat.Oct
open Go.ChangeShapes Go.WideShapes Go.ChangeAt Go.RowKit
set_option linter.unusedVariables false

set_option maxRecDepth 20000 in
set_option maxHeartbeats 4000000 in
theorem pen_any (B : Nat) (K : Ks) (id : Int) (t : Bf) (L cL : Nat) (AL : Option Addr) (s : Bf) (S cS : Nat) (AS : Option Addr) (w : World) (hk : KpW w B K) (ht : Sl w w.heap.size AL L cL t) (hot : Off B L AL) (hs : Sl w w.heap.size AS S cS s) (hos : Off B S AS) :
    Calls Tryz.prog 16 #[.pointer (some ⟨B, 0, none⟩), .int .i64 id, .slice AL L cL, .slice AS S cS] w fun e w' => ∃ v, e = .returned (.tuple #[v, .int .i64 (enV K id L S), .int .i64 (enE K id L S)]) ∧ Own w' w.heap.size 5 v (enL K id L S) (enF K id t L s S) ∧ KpW w' B (enK K id L S) ∧ Chg B w w' := by
  have HK := Lib.hid hk
  have HT := Lib.hid ht
  have HS := Lib.hid hs
  have HOT := Lib.hid hot
  have HOS := Lib.hid hos
  clear ht hs hot hos hk
  by_cases hlong : 64 < L ∨ 32 < S
  · obtain ⟨e1, e2, e3, e4⟩ := en_long (K := K) (id := id) hlong
    have HE := Lib.hid e1
    have HV := Lib.hid e2
    have HKK := Lib.hid e3
    have HL := Lib.hid e4
    have hfin : ∀ (tm : Array Value), tm.getD 8 undef = .slice none 0 0 → tm.getD 9 undef = .int .i64 0 → tm.getD 10 undef = .int .i64 2 →
        bodyPost Tryz.prog Tryz.f16 (fun e w' => ∃ v, e = .returned (.tuple #[v, .int .i64 (enV K id L S), .int .i64 (enE K id L S)]) ∧ Own w' w.heap.size 5 v (enL K id L S) (enF K id t L s S) ∧ KpW w' B (enK K id L S) ∧ Chg B w w') .ret { tmps := tm, defers := [] } w := by
      intro tm e8 e9 e10
      refine bodyPost_ret (v := .tuple #[.slice none 0 0, .int .i64 0, .int .i64 2]) ?_ rfl ⟨_, by rw [HE.out, HV.out], by rw [HL.out]; exact Own.nil _ _ _ _, by rw [HKK.out]; exact HK.out, Chg.refl _ _⟩
      simp at e8 e9 e10
      simp [results, Tryz.results16, go_sem, e8, e9, e10]
    have HFIN := Lib.hid hfin
    clear e1 e2 e3 e4 hfin
    by_cases hl : 64 < L
    · have hd : decide ((64 : Int) < (L : Int)) = true := by simp; omega
      clear hlong hl
      go_enter Tryz.func16, Tryz.ntmps16
      go_wp2_with fail
      exact HFIN.out _ rfl rfl rfl
    · have hd : decide ((64 : Int) < (L : Int)) = false := by simp; omega
      have hd2 : decide ((32 : Int) < (S : Int)) = true := by simp; omega
      clear hlong hl
      go_enter Tryz.func16, Tryz.ntmps16
      go_wp2_with fail
      exact HFIN.out _ rfl rfl rfl
  · have hd : decide ((64 : Int) < (L : Int)) = false := by simp; omega
    have hd2 : decide ((32 : Int) < (S : Int)) = false := by simp; omega
    have HNL := Lib.hid hlong
    clear hlong
    go_enter Tryz.func16, Tryz.ntmps16
    go_wp2_with fail
    refine (wus_any B K id w HK.out).mono ?_
    rintro e w1 ⟨rfl, hk1, hc1⟩
    have hs1 := hc1.size
    have HK1 := Lib.hid hk1
    have HC1 := Lib.hid hc1
    have T1 := Lib.hid (hc1.sl_up HT.out HOT.out)
    have U1 := Lib.hid (hc1.sl_up HS.out HOS.out)
    clear hk1 hc1
    by_cases hu : usE K id = 0
    · obtain ⟨i, V, C, rfl, hV, hC, hi1, hi8, hV1, hV4, hC16⟩ := us_nat hu HK.out.ok
      obtain ⟨m, hm⟩ : ∃ m, m = usM K (i : Int) := ⟨_, rfl⟩
      have HU := Lib.hid hu
      have HV := Lib.hid hV
      have HC := Lib.hid hC
      have HM := Lib.hid hm
      rw [hV, hC, hu, ← hm]
      have b2 := (Below.refl w1.heap.size w1).alloc (Nat.le_refl _) (.cells (ba 32 m) 32)
      have r2 : row (w1.alloc (.cells (ba 32 m) 32)) w1.heap.size = some (ba 32 m) := row_alloc_at _ _ _ _ rfl
      have HB2 := Lib.hid b2
      clear hu hV hC hm hs1 b2
      go_wp2_with fail
      generalize w1.alloc (.cells (ba 32 m) 32) = w2 at r2 HB2 ⊢
      refine (pnc_any C (by omega) w2).mono ?_
      rintro e w3 ⟨rfl, hb3⟩
      obtain ⟨N, hN⟩ : ∃ N, N = nonC C := ⟨_, rfl⟩
      rw [← hN]
      have HN := Lib.hid hN
      have b4 := hb3.alloc hb3.size (.cells (ba 12 N) 78)
      have q2 := carry b4 r2
      have q3 : row (w3.alloc (.cells (ba 12 N) 78)) w3.heap.size = some (ba 12 N) := row_alloc_at _ _ _ _ rfl
      have B4 := Lib.hid (onto HB2.out HB2.out.size b4)
      clear hN hb3 b4 r2 HB2
      obtain ⟨G, hG⟩ : ∃ G, G = w3.heap.size := ⟨_, rfl⟩
      obtain ⟨H, hH⟩ : ∃ H, H = w1.heap.size := ⟨_, rfl⟩
      rw [← hG] at q3
      rw [← hH] at q2
      have HG := Lib.hid hG
      have HH := Lib.hid hH
      clear hG hH
      go_wp2_with fail
      rw [← HG.out, ← HH.out]
      clear HG HH
      generalize w3.alloc (.cells (ba 12 N) 78) = w4 at q2 q3 B4 ⊢
      refine flow_seen [([0, 1, 2, 3, 4, 5, 6, 9], 7, false), ([], 8, false)] [10, 11, 12] (by kernel_rfl) (by kernel_rfl) (fun _ _ _ _ _ h => h) fun X => ?_
      have u2 := carry X.below q2
      have u3 := carry X.below q3
      have B5 := Lib.hid (onto B4.out B4.out.size X.below)
      have T5 := Lib.hid ((T1.out.below B5.out).more B5.out.size)
      have U5 := Lib.hid ((U1.out.below B5.out).more B5.out.size)
      clear q2 q3 B4 T1 U1
      generalize X.val = w5 at u2 u3 B5 T5 U5 ⊢
      clear X
      have k2 := After.row u2
      have k3 := After.row u3
      simp only [wpFs, pk, List.getElem?_cons_zero, List.getElem?_cons_succ]
      repeat (go_big_quiet_step (fail))
      refine wpQuiet_nil ?_
      clear k2 k3
      have hL64 : L ≤ 64 := by have := HNL.out; omega
      have hS32 : S ≤ 32 := by have := HNL.out; omega
      go_wp2_with fail
      refine (gseal_any m N s S cS AS t L cL AL w5 U5.out T5.out (by omega) (by omega)).mono ?_
      rintro e w6 ⟨v, rfl, ho, hb6⟩
      obtain ⟨A6, c6, rfl, h6, -, -⟩ := ho.sl
      have S6 := Lib.hid h6
      have B6 := Lib.hid (onto B5.out B5.out.size hb6)
      have hb6' := Lib.hid hb6
      clear ho h6 hb6 u2 u3 T5 U5 B5
      go_wp2_with fail
      refine ⟨.inr hb6'.out, ?_⟩
      clear hb6'
      show wpQuiet _ _ _ _ _ _
      refine wpQuiet_nil ?_
      go_wp2_with fail
      refine (pbl_any i V N (sealF m N s S t L) (L + 16) c6 A6 w6 (by omega) (by omega) S6.out (by omega)).mono ?_
      rintro e w7 ⟨v, rfl, ho, hb7⟩
      have HO := Lib.hid ho
      have B7 := Lib.hid (onto B6.out B6.out.size hb7)
      have hb7' := Lib.hid hb7
      have hz6 := Lib.hid B6.out.size
      clear ho hb7 S6 B6
      go_wp2_with fail
      refine ⟨.inr hb7'.out, ?_⟩
      clear hb7'
      show wpQuiet _ _ _ _ _ _
      repeat (go_big_quiet_step (fail))
      refine wpQuiet_nil ?_
      go_wp2
      obtain ⟨e1, e2, e3, e4⟩ := en_ok (K := K) (id := (i : Int)) HNL.out HU.out
      refine bodyPost_ret (v := .tuple #[v, .int .i64 V, .int .i64 0]) (by simp [results, Tryz.results16, go_sem]) rfl ⟨v, by rw [e1, e2, HV.out], ?_, ?_, HC1.out.more B7.out⟩
      · rw [e4, HV.out, Int.toNat_natCast, Int.toNat_natCast]
        refine (HO.out.base (by have := hz6.out; have := HC1.out.size; omega)).congr fun k _ => ?_
        unfold enF
        rw [HV.out, HC.out, ← HM.out, Int.toNat_natCast, Int.toNat_natCast, Int.toNat_natCast, ← HN.out]
      · rw [e3]
        exact HK1.out.below B7.out
    · obtain ⟨u, hu2⟩ : ∃ u, u = usE K id := ⟨_, rfl⟩
      rw [← hu2] at hu ⊢
      have hne : (u == 0) = false := by simpa using hu
      have HU := Lib.hid hu2
      have HN := Lib.hid hu
      have b2 := (Below.refl w1.heap.size w1).alloc (Nat.le_refl _) (.cells (ba 32 (usM K id)) 32)
      have HB2 := Lib.hid b2
      clear hu hu2 b2 hs1
      go_wp2_with fail
      obtain ⟨e1, e2, e3, e4⟩ := en_no (K := K) (id := id) HNL.out (by rw [← HU.out]; exact HN.out)
      refine bodyPost_ret (v := .tuple #[.slice none 0 0, .int .i64 0, .int .i64 u]) (by simp [results, Tryz.results16, go_sem]) rfl ⟨_, by rw [e1, e2, ← HU.out], by rw [e4]; exact Own.nil _ _ _ _, ?_, HC1.out.more HB2.out⟩
      rw [e3]
      exact HK1.out.below HB2.out
end Go.Proofs.YtamemjldafoolaaGreat.Oct
