/- Contracts of the reference's Encrypt, Decrypt, Rewrap. -/
import Derived.Test.YtamemjldafoolaaGreatEvR
import Derived.Test.YtamemjldafoolaaGreatEvE
import Derived.Test.YtamemjldafoolaaGreatGcmAll
import Derived.Test.YtamemjldafoolaaGreatKrAll
namespace Go.Proofs.YtamemjldafoolaaGreat.Oct
open Go.ChangeShapes Go.WideShapes Go.ChangeAt Go.RowKit
set_option linter.unusedVariables false

/-- a call on one keyring: what it may change; what is new has its marks, or 0 -/
structure Fz (T T' : Mk) (t : Nat) (w w' : World) : Prop where
  fr : Fr T T' (Hk t) w w'
  mks : ∀ k, T' k = T k ∨ T' k = 0 ∨ Hk t (T' k)
section
variable {T T' T2 : Mk} {t : Nat} {w w' w2 : World}
theorem Fk.fz (h : Fk T T' t w w') : Fz T T' t w w' := ⟨h.fr, fun k => (h.mks k).imp_right .inr⟩
theorem Fz.new (h : Below w.heap.size w w') : Fz T (paint T w.heap.size 0) t w w' := ⟨Fr.new h 0, fun k => by
  by_cases hk : k < w.heap.size
  · exact .inl (paint_old hk)
  · exact .inr (.inl (paint_new (by omega)))⟩
theorem Fz.trans (h : Fz T T' t w w') (k : Fz T' T2 t w' w2) : Fz T T2 t w w2 := ⟨h.fr.trans k.fr, fun i => by
  rcases k.mks i with e | e
  · rw [e]; exact h.mks i
  · exact .inr e⟩
theorem Fz.more (h : Fz T T' t w w') (k : Below w'.heap.size w' w2) : Fz T (paint T' w'.heap.size 0) t w w2 := h.trans (Fz.new k)
theorem Fz.refl (T : Mk) (t : Nat) (w : World) : Fz T T t w w := ⟨Fr.refl _ _ _, fun _ => .inl rfl⟩
theorem KAt.new {B : Nat} {eR eV : TypeId} {K : Ks} (h : KAt T w t eR eV B K) (hb : Below w.heap.size w w') (m : Nat) : KAt (paint T w.heap.size m) w' t eR eV B K := h.fr (Fr.new (H := fun _ => False) hb m) fun _ _ e => e
theorem RdS.new {n c s : Nat} {A : Option Addr} {f : Bf} (h : RdS T w s A n c f) (hb : Below w.heap.size w w') (m : Nat) : RdS (paint T w.heap.size m) w' s A n c f := h.fr (Fr.new (H := fun _ => False) hb m) fun e => e
theorem RdS.own {D n : Nat} {u : TypeId} {A : Option Addr} {c : Nat} {f : Bf} (h : Own w' D u (.slice A n c) n f) (hD : w.heap.size ≤ D) : RdS (paint T w.heap.size 0) w' 0 A n c f := by
  obtain ⟨A', c', e', hs, _, h3⟩ := h.sl
  simp only [Value.slice.injEq] at e'
  obtain ⟨rfl, _, rfl⟩ := e'
  refine ⟨hs, fun hn a ha => ?_⟩
  rcases h3 with h0 | ⟨g, h0, hg⟩
  · rw [h0] at ha; cases ha
  · rw [h0] at ha; cases ha; exact paint_new (by show w.heap.size ≤ g; omega)
end

set_option maxRecDepth 20000 in
set_option maxHeartbeats 4000000 in
theorem ren_any (T : Mk) (t B : Nat) (K : Ks) (id : Int) (tx : Bf) (L cL : Nat) (AL : Option Addr) (s : Bf) (S cS : Nat) (AS : Option Addr) (w : World) (hk : KAt T w t 66 56 B K) (ht1 : 1 ≤ t) (ht : RdS T w 0 AL L cL tx) (hs : RdS T w 0 AS S cS s) :
    Calls Tryz.prog 17 #[.pointer (some ⟨B, 0, none⟩), .int .i64 id, .slice AL L cL, .slice AS S cS] w fun e w' => ∃ v, e = .returned (.tuple #[v, .int .i64 (enV K id L S), .int .i64 (enE K id L S)]) ∧ Own w' w.heap.size 5 v (enL K id L S) (enF K id tx L s S) ∧ ∃ T', KAt T' w' t 66 56 B (enK K id L S) ∧ Fz T T' t w w' := by
  have HK := Lib.hid hk
  have HT := Lib.hid ht
  have HS := Lib.hid hs
  have hz : ¬ Hk t 0 := fun e => by have := e.1; omega
  have HZ := Lib.hid hz
  clear ht hs hk hz
  by_cases hlong : 64 < L ∨ 32 < S
  · obtain ⟨e1, e2, e3, e4⟩ := en_long (K := K) (id := id) hlong
    have HE := Lib.hid e1
    have HV := Lib.hid e2
    have HKK := Lib.hid e3
    have HL := Lib.hid e4
    have hfin : ∀ (tm : Array Value), tm.getD 8 undef = .slice none 0 0 → tm.getD 9 undef = .int .i64 0 → tm.getD 10 undef = .int .i64 2 →
        bodyPost Tryz.prog Tryz.f17 (fun e w' => ∃ v, e = .returned (.tuple #[v, .int .i64 (enV K id L S), .int .i64 (enE K id L S)]) ∧ Own w' w.heap.size 5 v (enL K id L S) (enF K id tx L s S) ∧ ∃ T', KAt T' w' t 66 56 B (enK K id L S) ∧ Fz T T' t w w') .ret { tmps := tm, defers := [] } w := by
      intro tm e8 e9 e10
      refine bodyPost_ret (v := .tuple #[.slice none 0 0, .int .i64 0, .int .i64 2]) ?_ rfl ⟨_, by rw [HE.out, HV.out], by rw [HL.out]; exact Own.nil _ _ _ _, T, by rw [HKK.out]; exact HK.out, Fz.refl _ _ _⟩
      simp at e8 e9 e10
      simp [results, Tryz.results17, go_sem, e8, e9, e10]
    have HFIN := Lib.hid hfin
    clear e1 e2 e3 e4 hfin
    by_cases hl : 64 < L
    · have hd : decide ((64 : Int) < (L : Int)) = true := by simp; omega
      clear hlong hl
      go_enter Tryz.func17, Tryz.ntmps17
      go_wp2_with fail
      exact HFIN.out _ rfl rfl rfl
    · have hd : decide ((64 : Int) < (L : Int)) = false := by simp; omega
      have hd2 : decide ((32 : Int) < (S : Int)) = true := by simp; omega
      clear hlong hl
      go_enter Tryz.func17, Tryz.ntmps17
      go_wp2_with fail
      exact HFIN.out _ rfl rfl rfl
  · have hd : decide ((64 : Int) < (L : Int)) = false := by simp; omega
    have hd2 : decide ((32 : Int) < (S : Int)) = false := by simp; omega
    have HNL := Lib.hid hlong
    clear hlong
    go_enter Tryz.func17, Tryz.ntmps17
    go_wp2_with fail
    refine (rus_any T t B K id w HK.out).mono ?_
    rintro e w1 ⟨rfl, T1, hk1, hf1⟩
    have hs1 := hf1.fr.size
    have HK1 := Lib.hid hk1
    have HF1 := Lib.hid hf1.fz
    have T1' := Lib.hid (HT.out.fr hf1.fr HZ.out)
    have U1' := Lib.hid (HS.out.fr hf1.fr HZ.out)
    clear hk1 hf1
    by_cases hu : usE K id = 0
    · obtain ⟨i, V, C, rfl, hV, hC, hi1, hi8, hV1, hV4, hC16⟩ := us_nat hu HK.out.ok
      obtain ⟨m, hm⟩ : ∃ m, m = usM K (i : Int) := ⟨_, rfl⟩
      have HU := Lib.hid hu
      have HV := Lib.hid hV
      have HC := Lib.hid hC
      have HM := Lib.hid hm
      rw [hV, hC, hu, ← hm]
      obtain ⟨w2, hw2⟩ : ∃ w2, w2 = w1.alloc (.cells (ba 32 m) 32) := ⟨_, rfl⟩
      have b2 : Below w1.heap.size w1 w2 := by rw [hw2]; exact (Below.refl w1.heap.size w1).alloc (Nat.le_refl _) _
      have r2 : row w2 w1.heap.size = some (ba 32 m) := by rw [hw2]; exact row_alloc_at _ _ _ _ rfl
      obtain ⟨w3, hw3⟩ : ∃ w3, w3 = w2.alloc (.cells (ba 12 fun _ => 0#8) 78) := ⟨_, rfl⟩
      have b3 : Below w2.heap.size w2 w3 := by rw [hw3]; exact (Below.refl w2.heap.size w2).alloc (Nat.le_refl _) _
      have r3 : row w3 w2.heap.size = some (ba 12 fun _ => 0#8) := by rw [hw3]; exact row_alloc_at _ _ _ _ rfl
      have HW2 := Lib.hid hw2
      have HW3 := Lib.hid hw3
      have hsz2 : w2.heap.size = w1.heap.size + 1 := by rw [hw2]; simp
      obtain ⟨H, hH⟩ : ∃ H, H = w1.heap.size := ⟨_, rfl⟩
      obtain ⟨D, hD⟩ : ∃ H, H = w1.heap.size + 1 := ⟨_, rfl⟩
      rw [hsz2] at r3
      have HB3 := Lib.hid (onto b2 b2.size b3)
      have q2 := carry b3 r2
      rw [← hH] at q2
      rw [← hD] at r3
      have HHH := Lib.hid hH
      have HD := Lib.hid hD
      have Q2 := Lib.hid q2
      have R3 := Lib.hid r3
      have hHD : H ≠ D := by omega
      have hzD : w1.heap.size ≤ D := by omega
      clear hu hV hC hm hs1 hw2 hw3 b2 b3 r2 r3 q2 hH hD hsz2
      go_wp2_with fail
      rw [← HW2.out, ← HW3.out, ← HD.out, ← HHH.out]
      clear HW2 HW3
      go_loopw [16] (fun iv wr => ∃ j : Nat, j ≤ 8 ∧ iv = .int .i64 j ∧ wr = w3.setRow D (ba 12 (wrF (fun _ => 0#8) 4 8 C j))) (fun iv _ => 8 - (intOf iv).toNat)
      case atStart => exact ⟨0, by omega, rfl, by rw [wrF_zero, setRow_self R3.out]⟩
      case round =>
        obtain ⟨j, hj, rfl, rfl⟩ := hrel
        have hrow := row_setRow R3.out (ba 12 (wrF (fun _ => 0#8) 4 8 C j))
        by_cases hlt : j < 8
        · have hd : decide ((j : Int) < 8) = true := by simp; omega
          have hix : (11 : Int) - (j : Int) = ((11 - j : Nat) : Int) := by omega
          have hsh := sh_byte C j
          have hi8 : 11 - j < 12 := by omega
          have hcl : (w3.setRow D (ba 12 (wrF (fun _ => 0#8) 4 8 C j))).cell? ⟨D, 11 - j, none⟩ = some (.int .u8 (I (wrF (fun _ => 0#8) 4 8 C j (11 - j)))) := by rw [cell_row hrow, ba_get _ _ _ (by omega)]
          have hfz : (w3.setRow D (ba 12 (wrF (fun _ => 0#8) 4 8 C j))).frozen? ⟨D, 11 - j, none⟩ = false := froz_row hrow _
          have HW := Lib.hid (show ((w3.setRow D (ba 12 (wrF (fun _ => 0#8) 4 8 C j))).setCell ⟨D, 11 - j, none⟩ (.int .u8 (I (BitVec.ofNat 8 (C / 256 ^ j))))) = w3.setRow D (ba 12 (wrF (fun _ => 0#8) 4 8 C (j + 1))) by
            rw [setCell_row hrow, ba_set, setRow_setRow, ← wrF_step (fun _ => 0#8) 4 8 C j hlt, show 4 + (8 - (j + 1)) = 11 - j by omega])
          generalize w3.setRow D (ba 12 (wrF (fun _ => 0#8) 4 8 C j)) = wr at hcl hfz HW ⊢
          clear hrow
          go_wp2
          rw [HW.out]
          go_roundw
          case rel => exact ⟨j + 1, by omega, rfl, rfl⟩
          case measure => simp [intOf]; omega
        · obtain rfl : j = 8 := by omega
          have hd : decide (((8 : Nat) : Int) < 8) = false := by decide
          rw [wrF_all] at hrow ⊢
          rw [show ba 12 (putF (fun _ => 0#8) 4 8 (beN 8 C)) = ba 12 (nonC C) from ba_ext fun k hk => by
            unfold putF nonC catF
            by_cases h : k < 4
            · rw [if_neg (by omega), if_pos h]
            · rw [if_pos (by omega), if_neg h]] at hrow ⊢
          have r2 : row (w3.setRow D (ba 12 (nonC C))) H = some (ba 32 m) := by rw [row_setRow_other _ _ _ _ hHD]; exact Q2.out
          have B4 := Lib.hid (below_setRow HB3.out hzD (ba 12 (nonC C)))
          generalize w3.setRow D (ba 12 (nonC C)) = w4 at hrow r2 B4 ⊢
          obtain ⟨N, hN⟩ : ∃ N, N = nonC C := ⟨_, rfl⟩
          rw [← hN] at hrow
          have HN := Lib.hid hN
          clear hN
          go_wp2_with fail
          refine flow_seen [([0, 1, 2, 3, 4, 5, 6, 9], 7, false), ([], 8, false)] [10, 11, 12] (by kernel_rfl) (by kernel_rfl) (fun _ _ _ _ _ h => h) fun X => ?_
          have u2 := carry X.below r2
          have u3 := carry X.below hrow
          have B5 := Lib.hid (onto B4.out B4.out.size X.below)
          have T5 := Lib.hid ((T1'.out.sl.below B5.out).more B5.out.size)
          have U5 := Lib.hid ((U1'.out.sl.below B5.out).more B5.out.size)
          clear r2 hrow B4
          generalize X.val = w5 at u2 u3 B5 T5 U5 ⊢
          clear X
          have k2 := After.row u2
          have k3 := After.row u3
          simp only [wpFs, pk, List.getElem?_cons_zero, List.getElem?_cons_succ]
          repeat (go_big_quiet_step (fail))
          refine wpQuiet_nil ?_
          clear k2 k3
          have hL64 : L ≤ 64 := by have := HNL.out; omega
          have hS32 : S ≤ 32 := by have := HNL.out; omega
          go_wp2_with fail
          refine (rgseal_any m N s S cS AS tx L cL AL w5 U5.out T5.out (by omega) (by omega)).mono ?_
          rintro e w6 ⟨v, rfl, ho, hb6⟩
          obtain ⟨A6, c6, rfl, h6, -, -⟩ := ho.sl
          have S6 := Lib.hid h6
          have B6 := Lib.hid (onto B5.out B5.out.size hb6)
          have hb6' := Lib.hid hb6
          clear ho h6 hb6 u2 u3 T5 U5 B5
          go_wp2_with fail
          refine ⟨.inr hb6'.out, ?_⟩
          clear hb6'
          show wpQuiet _ _ _ _ _ _
          refine wpQuiet_nil ?_
          go_wp2_with fail
          refine (rbl_any i V N (sealF m N s S tx L) (L + 16) c6 A6 w6 (by omega) (by omega) S6.out (by omega)).mono ?_
          rintro e w7 ⟨v, rfl, ho, hb7⟩
          have HO := Lib.hid ho
          have B7 := Lib.hid (onto B6.out B6.out.size hb7)
          have hb7' := Lib.hid hb7
          have hz6 := Lib.hid B6.out.size
          clear ho hb7 S6 B6
          go_wp2_with fail
          refine ⟨.inr hb7'.out, ?_⟩
          clear hb7'
          show wpQuiet _ _ _ _ _ _
          repeat (go_big_quiet_step (fail))
          refine wpQuiet_nil ?_
          go_wp2
          obtain ⟨e1, e2, e3, e4⟩ := en_ok (K := K) (id := (i : Int)) HNL.out HU.out
          refine bodyPost_ret (v := .tuple #[v, .int .i64 V, .int .i64 0]) (by simp [results, Tryz.results17, go_sem]) rfl ⟨v, by rw [e1, e2, HV.out], ?_, _, ?_, HF1.out.more B7.out⟩
          · rw [e4, HV.out, Int.toNat_natCast, Int.toNat_natCast]
            refine (HO.out.base (by have := hz6.out; have := HF1.out.fr.size; omega)).congr fun k _ => ?_
            unfold enF
            rw [HV.out, HC.out, ← HM.out, Int.toNat_natCast, Int.toNat_natCast, Int.toNat_natCast, ← HN.out]
          · rw [e3]
            exact HK1.out.new B7.out 0
    · obtain ⟨u, hu2⟩ : ∃ u, u = usE K id := ⟨_, rfl⟩
      rw [← hu2] at hu ⊢
      have hne : (u == 0) = false := by simpa using hu
      have HU := Lib.hid hu2
      have HN := Lib.hid hu
      have b2 := (Below.refl w1.heap.size w1).alloc (Nat.le_refl _) (.cells (ba 32 (usM K id)) 32)
      have HB2 := Lib.hid b2
      clear hu hu2 b2 hs1
      go_wp2_with fail
      obtain ⟨e1, e2, e3, e4⟩ := en_no (K := K) (id := id) HNL.out (by rw [← HU.out]; exact HN.out)
      refine bodyPost_ret (v := .tuple #[.slice none 0 0, .int .i64 0, .int .i64 u]) (by simp [results, Tryz.results17, go_sem]) rfl ⟨_, by rw [e1, e2, ← HU.out], by rw [e4]; exact Own.nil _ _ _ _, _, ?_, HF1.out.more HB2.out⟩
      rw [e3]
      exact HK1.out.new HB2.out 0
set_option maxRecDepth 20000 in
set_option maxHeartbeats 4000000 in
theorem rdc_any (T : Mk) (t B : Nat) (K : Ks) (f : Bf) (n c : Nat) (A : Option Addr) (s : Bf) (S cS : Nat) (AS : Option Addr) (w : World) (hk : KAt T w t 66 56 B K) (hf : Sl w w.heap.size A n c f) (hn : n ≤ 140737488355328) (hs : Sl w w.heap.size AS S cS s) :
    Calls Tryz.prog 19 #[.pointer (some ⟨B, 0, none⟩), .slice A n c, .slice AS S cS] w fun e w' => ∃ v, e = .returned (.tuple #[v, .int .i64 (dcE K n f s S)]) ∧ Own w' w.heap.size 5 v (dcL K n f s S) (dcF K n f) ∧ Below w.heap.size w w' := by
  have hno : ∀ E : Int, dcE K n f s S = E → E ≠ 0 → ∀ (tm : Array Value), tm.getD 6 undef = .slice none 0 0 → tm.getD 7 undef = .int .i64 E → ∀ (w2 : World), Below w.heap.size w w2 →
      bodyPost Tryz.prog Tryz.f19 (fun e w' => ∃ v, e = .returned (.tuple #[v, .int .i64 (dcE K n f s S)]) ∧ Own w' w.heap.size 5 v (dcL K n f s S) (dcF K n f) ∧ Below w.heap.size w w') .ret { tmps := tm, defers := [] } w2 := by
    intro E hE h0 tm e7 e8 w2 hb
    have hne : dcE K n f s S ≠ 0 := by rw [hE]; exact h0
    refine bodyPost_ret (v := .tuple #[.slice none 0 0, .int .i64 E]) ?_ rfl ⟨_, by rw [hE], by rw [dcL_no hne]; exact Own.nil _ _ _ _, hb⟩
    simp at e7 e8
    simp [results, Tryz.results19, go_sem, e7, e8]
  have HNO := Lib.hid hno
  have HK := Lib.hid hk
  have HS := Lib.hid hs
  have HF := Lib.hid hf
  clear hno hk hs hf
  by_cases hlong : 32 < S
  · have hd : decide ((32 : Int) < (S : Int)) = true := by simp; omega
    have HE := Lib.hid (dc_long (K := K) (n := n) (f := f) (s := s) hlong)
    clear hlong
    go_enter Tryz.func19, Tryz.ntmps19
    go_wp2_with fail
    exact HNO.out 2 HE.out (by decide) _ rfl rfl _ (Below.refl _ _)
  · have hd : decide ((32 : Int) < (S : Int)) = false := by simp; omega
    have HNL := Lib.hid hlong
    clear hlong
    go_enter Tryz.func19, Tryz.ntmps19
    go_wp2_with fail
    refine (rrd_any n c A f w HF.out hn).mono ?_
    rintro e w1 ⟨v1, rfl, ho1, hb1⟩
    obtain ⟨A1, c1, rfl, h1, -, -⟩ := ho1.sl
    have b2 := hb1.alloc hb1.size (.cells (ba 12 (rdN n f)) 78)
    have r2 : row (w1.alloc (.cells (ba 12 (rdN n f)) 78)) w1.heap.size = some (ba 12 (rdN n f)) := row_alloc_at _ _ _ _ rfl
    have b12 := (Below.refl w1.heap.size w1).alloc (Nat.le_refl _) (.cells (ba 12 (rdN n f)) 78)
    have S2 := Lib.hid ((h1.below b12).more b12.size)
    have B2 := Lib.hid b2
    clear h1 ho1 hb1 b2 b12
    rcases rdE_cases (n := n) (f := f) with ⟨hE, hB⟩ | ⟨hE, hB⟩
    · rw [hE]
      have HB := Lib.hid hB
      clear hB hE
      obtain ⟨i, hi⟩ : ∃ i, i = rdI n f := ⟨_, rfl⟩
      obtain ⟨v, hv⟩ : ∃ i, i = rdV n f := ⟨_, rfl⟩
      obtain ⟨L, hL⟩ : ∃ i, i = rdL n f := ⟨_, rfl⟩
      obtain ⟨N, hN⟩ : ∃ i, i = rdN n f := ⟨_, rfl⟩
      have hL80 : L ≤ 80 := by rw [hL]; exact rdL_le
      rw [← hL] at S2
      rw [← hi, ← hv, ← hL, ← hN]
      rw [← hN] at r2 S2 B2
      have HI := Lib.hid hi
      have HV := Lib.hid hv
      have HL := Lib.hid hL
      have HN := Lib.hid hN
      clear hi hv hL hN
      obtain ⟨G, hG⟩ : ∃ G, G = w1.heap.size := ⟨_, rfl⟩
      rw [← hG] at r2
      have HG := Lib.hid hG
      clear hG
      go_wp2_with fail
      rw [← HG.out]
      clear HG
      generalize w1.alloc (.cells (ba 12 N) 78) = w2 at r2 S2 B2 ⊢
      refine (rmt_any _ t B K i v w2 (HK.out.new B2.out 0)).mono ?_
      rintro e w3 ⟨rfl, hb3⟩
      obtain ⟨m, hm⟩ : ∃ m, m = mtM K i v := ⟨_, rfl⟩
      rw [← hm]
      have HM := Lib.hid hm
      have b4 := hb3.alloc hb3.size (.cells (ba 32 m) 32)
      have q2 := carry b4 r2
      have q3 : row (w3.alloc (.cells (ba 32 m) 32)) w3.heap.size = some (ba 32 m) := row_alloc_at _ _ _ _ rfl
      have S4 := Lib.hid ((S2.out.below b4).more b4.size)
      have B4 := Lib.hid (onto B2.out B2.out.size b4)
      clear hb3 b4 hm r2 S2 B2
      obtain ⟨H, hH⟩ : ∃ G, G = w3.heap.size := ⟨_, rfl⟩
      rw [← hH] at q3
      have HH := Lib.hid hH
      clear hH
      by_cases hme : mtE K i v = 0
      · have HME := Lib.hid hme
        rw [hme]
        clear hme
        go_wp2_with fail
        rw [← HH.out]
        clear HH
        generalize w3.alloc (.cells (ba 32 m) 32) = w4 at q2 q3 S4 B4 ⊢
        refine (rgopen_any m N s S cS AS (rdF f) L c1 A1 w4 ((HS.out.below B4.out).more B4.out.size) S4.out (by have := HNL.out; omega) (by omega)).mono ?_
        rintro e w5 ⟨v5, rfl, ho5, hb5⟩
        have HD := Lib.hid (show dcE K n f s S = opC m N s S (rdF f) L by rw [dc_op HNL.out HB.out (by rw [← HI.out, ← HV.out]; exact HME.out), HM.out, HI.out, HV.out, HN.out, HL.out])
        have B5 := Lib.hid (onto B4.out B4.out.size hb5)
        have HO := Lib.hid (ho5.base B4.out.size)
        obtain ⟨E, hE⟩ : ∃ E, E = opC m N s S (rdF f) L := ⟨_, rfl⟩
        have HE := Lib.hid hE
        rw [← hE]
        clear hb5 ho5 hE q2 q3 S4 B4
        go_wp2_with fail
        refine bodyPost_ret (v := .tuple #[v5, .int .i64 E]) (by simp [results, Tryz.results19, go_sem]) rfl ⟨v5, by rw [HD.out, HE.out], ?_, B5.out⟩
        have ho := HO.out
        rw [show opL m N s S (rdF f) L = dcL K n f s S by
          unfold opL dcL
          rw [HD.out, HL.out]] at ho
        refine ho.congr fun k _ => ?_
        unfold dcF
        rw [HM.out, HI.out, HV.out, HN.out]
      · obtain ⟨E, hE⟩ : ∃ E, E = mtE K i v := ⟨_, rfl⟩
        rw [← hE] at hme ⊢
        have hne : (E == 0) = false := by simpa using hme
        have HE := Lib.hid hE
        have HE0 := Lib.hid hme
        clear hme hE
        go_wp2_with fail
        exact HNO.out E (by rw [HE.out, dc_mat HNL.out HB.out (by rw [← HI.out, ← HV.out, ← HE.out]; exact HE0.out), HI.out, HV.out]) HE0.out _ rfl rfl _ B4.out
    · rw [hE]
      have HE := Lib.hid (dc_blob (K := K) (s := s) HNL.out hB)
      clear hE hB
      go_wp2_with fail
      exact HNO.out 140 HE.out (by decide) _ rfl rfl _ B2.out
set_option maxRecDepth 20000 in
set_option maxHeartbeats 4000000 in
theorem rrw_any (T : Mk) (t B : Nat) (K : Ks) (f : Bf) (n c : Nat) (A : Option Addr) (s : Bf) (S cS : Nat) (AS : Option Addr) (w : World) (hk : KAt T w t 66 56 B K) (ht1 : 1 ≤ t) (hf : RdS T w 0 A n c f) (hn : n ≤ 140737488355328) (hs : RdS T w 0 AS S cS s) :
    Calls Tryz.prog 21 #[.pointer (some ⟨B, 0, none⟩), .slice A n c, .slice AS S cS] w fun e w' => ∃ v, e = .returned (.tuple #[v, .int .i64 (rwV K n f s S), .int .i64 (rwE K n f s S)]) ∧ Own w' w.heap.size 5 v (rwL K n f s S) (rwF K n f s S) ∧ ∃ T', KAt T' w' t 66 56 B (rwK K n f s S) ∧ Fz T T' t w w' := by
  have H0 := Lib.hid (rdc_any T t B K f n c A s S cS AS w hk hf.sl hn hs.sl)
  have HK := Lib.hid hk
  have HS := Lib.hid hs
  have HF := Lib.hid hf
  clear hk hf hs
  go_enter Tryz.func21, Tryz.ntmps21
  go_wp2_with fail
  refine H0.out.mono ?_
  rintro e w1 ⟨v, rfl, ho, hb⟩
  obtain ⟨A1, c1, rfl, h1, -, -⟩ := ho.sl
  have T1 := Lib.hid (RdS.own (T := T) ho (Nat.le_refl _))
  have HB := Lib.hid hb
  clear ho hb H0 h1
  obtain ⟨E, hE⟩ : ∃ E, E = dcE K n f s S := ⟨_, rfl⟩
  obtain ⟨L, hL⟩ : ∃ E, E = dcL K n f s S := ⟨_, rfl⟩
  rw [← hL] at T1
  rw [← hE, ← hL]
  have HE := Lib.hid hE
  have HL := Lib.hid hL
  clear hE hL
  by_cases h0 : E = 0
  · subst h0
    have e0 := HE.out
    obtain ⟨e1, e2, e3, e4⟩ := rw_ok e0.symm
    have hI := dcI_ok e0.symm
    obtain ⟨I, hII⟩ : ∃ E, E = rdI n f := ⟨_, rfl⟩
    rw [← hII] at hI
    rw [hI, ← HL.out] at e1 e2 e3 e4
    have E1 := Lib.hid e1
    have E2 := Lib.hid e2
    have E3 := Lib.hid e3
    have E4 := Lib.hid e4
    have HI := Lib.hid hI
    have HII := Lib.hid hII
    clear e0 e1 e2 e3 e4 hI hII
    go_wp2_with fail
    refine (rrd_any n c A f w1 ((HF.out.sl.below HB.out).more HB.out.size) hn).mono ?_
    rintro e w2 ⟨v2, rfl, -, hb2⟩
    rw [← HII.out]
    obtain ⟨x1, hx1⟩ : ∃ x, x = rdV n f := ⟨_, rfl⟩
    obtain ⟨x2, hx2⟩ : ∃ x, x = rdN n f := ⟨_, rfl⟩
    obtain ⟨x3, hx3⟩ : ∃ x, x = rdE n f := ⟨_, rfl⟩
    rw [← hx1, ← hx2, ← hx3]
    have hb3 := hb2.alloc hb2.size (.cells (ba 12 x2) 78)
    have B2 := Lib.hid (onto HB.out HB.out.size hb3)
    have hb2' := Lib.hid hb3
    clear hb2 hx1 hx2 hx3 hb3
    have T2 := Lib.hid (T1.out.new hb2'.out 0)
    have K2 := Lib.hid ((HK.out.new HB.out 0).new hb2'.out 0)
    have S2 := Lib.hid ((HS.out.new HB.out 0).new hb2'.out 0)
    go_wp2_with fail
    generalize w2.alloc (.cells (ba 12 x2) 78) = w2 at B2 hb2' T2 K2 S2 ⊢
    refine (ren_any _ t B K I (dcF K n f) L c1 A1 s S cS AS w2 K2.out ht1 T2.out S2.out).mono ?_
    rintro e w3 ⟨v, rfl, ho, T3, hk3, hf3⟩
    obtain ⟨V, hV⟩ : ∃ E, E = enV K I L S := ⟨_, rfl⟩
    obtain ⟨E, hE⟩ : ∃ E, E = enE K I L S := ⟨_, rfl⟩
    rw [← hV, ← hE]
    have HO := Lib.hid (ho.base B2.out.size)
    have HK3 := Lib.hid hk3
    have HF3 := Lib.hid (((Fz.new (T := T) (t := t) HB.out).more hb2'.out).trans hf3)
    have HVV := Lib.hid hV
    have HEE := Lib.hid hE
    clear ho hk3 hf3 hV hE K2 T2 S2
    go_wp2_with fail
    refine bodyPost_ret (v := .tuple #[v, .int .i64 V, .int .i64 E]) (by simp [results, Tryz.results21, go_sem]) rfl ⟨v, by rw [E1.out, E2.out, HVV.out, HEE.out], ?_, T3, by rw [E3.out]; exact HK3.out, HF3.out⟩
    rw [E4.out]
    refine HO.out.congr fun k _ => ?_
    unfold rwF
    rw [HI.out, ← HL.out]
  · have hne : (E == 0) = false := by simpa using h0
    have HN := Lib.hid h0
    clear h0
    go_wp2_with fail
    obtain ⟨e1, e2, e3, e4⟩ := rw_no (K := K) (n := n) (f := f) (s := s) (S := S) (by rw [← HE.out]; exact HN.out)
    exact bodyPost_ret (v := .tuple #[.slice none 0 0, .int .i64 0, .int .i64 E]) (by simp [results, Tryz.results21, go_sem]) rfl ⟨_, by rw [e1, e2, ← HE.out], by rw [e4]; exact Own.nil _ _ _ _, _, by rw [e3]; exact HK.out.new HB.out 0, Fz.new HB.out⟩
end Go.Proofs.YtamemjldafoolaaGreat.Oct
