/- Contract: law 11's JournalBack. -/
import Derived.Test.YtdfcldomjjcidaaDoorJrBk
import Derived.Test.YtdfcldomjjcidaaDoorJrV
import Derived.Test.YtdfcldomjjcidaaDoorJrUc
namespace Go.Proofs.YtdfcldomjjcidaaDoor.Oct
open Go.ChangeShapes Go.WideShapes Go.ChangeAt Go.RowKit
set_option linter.unusedVariables false

set_option maxRecDepth 20000 in
set_option maxHeartbeats 4000000 in
theorem back11_any (n c : Nat) (A : Option Addr) (R : Nat → Rc) (cut x y : Int) (w : World) (ht : Tab w) (hR : RcS w A n c R) (hB : ∀ i, i < n → RcIn (R i)) (hcut : i64B cut) (hx : i64B x) (hy : i64B y) :
    Calls Tryd.prog 4 #[.slice A n c, .int .i64 cut, .agg #[.int .i64 x, .int .i64 y]] w fun e w' => e = .returned (.bool true) ∧ Below w.heap.size w w' := by
  obtain ⟨w0, hw0⟩ : ∃ w0, w0 = w.alloc (.cells #[.int .i64 x, .int .i64 y] 44) := ⟨_, rfl⟩
  have b0 : Below w.heap.size w w0 := by rw [hw0]; exact (Below.refl _ _).alloc (Nat.le_refl _) _
  have R0 := Lib.hid (show row w0 w.heap.size = some #[.int .i64 x, .int .i64 y] by rw [hw0]; exact row_alloc_at _ _ _ _ rfl)
  have H0 := Lib.hid (shown11_any w0 (ht.below b0 ht.pos))
  have HT := Lib.hid (ht.below b0 ht.pos)
  have HR := Lib.hid (hR.below b0)
  have HB := Lib.hid hB
  have B0 := Lib.hid b0
  have HX := Lib.hid hx
  have HY := Lib.hid hy
  have HC := Lib.hid hcut
  have hle := hR.le
  clear ht hR hB b0 hx hy hcut
  go_enter Tryd.func4, Tryd.ntmps4
  go_upto_region 1 with fail
  simp only [← hw0]
  clear hw0
  go_wp2_with fail
  refine H0.out.mono ?_
  rintro e w1 ⟨rfl, hb1⟩
  have B1 := Lib.hid hb1
  have HF := Lib.hid (few11_any n c A w1 hle)
  clear H0 hb1
  go_wp2_with fail
  refine HF.out.mono ?_
  rintro e w1' ⟨rfl, rfl⟩
  obtain ⟨m, hm⟩ : ∃ m, m = min n 40 := ⟨_, rfl⟩
  have hmn : m ≤ n := by omega
  have hm40 : m ≤ 40 := by omega
  rw [← hm]
  clear hm HF
  obtain ⟨w2, hw2⟩ : ∃ w2, w2 = w1'.alloc (.cells #[] 5) := ⟨_, rfl⟩
  obtain ⟨w3, hw3⟩ : ∃ w3, w3 = w2.alloc (.cells #[.int .i64 0] 3) := ⟨_, rfl⟩
  obtain ⟨w4, hw4⟩ : ∃ w4, w4 = w3.alloc (.cells #[] 32) := ⟨_, rfl⟩
  have IS := Lib.hid (BkI.start B1.out hw2 hw3 hw4)
  have HW2 := Lib.hid hw2.symm
  have HW3 := Lib.hid hw3.symm
  have HW4 := Lib.hid hw4.symm
  clear hw2 hw3 hw4
  go_upto_region 4 with fail
  simp only [HW2.out]
  go_upto_region 5 with fail
  simp only [HW3.out]
  go_upto_region 6 with fail
  simp only [HW4.out]
  clear HW2 HW3 HW4
  go_wp2_with fail
  go_loopw [11, 8, 9, 10] (fun iv v8 v9 v10 wr => ∃ (j : Nat) (L : List Rc) (T : Mk) (A2 : Option Addr) (c2 : Nat) (A3 : Option Addr) (c3 : Nat), j ≤ m ∧ iv = .int .i64 (j : Int) ∧ L.length ≤ j ∧ v9 = .slice A2 (L.length + 1) c2 ∧ v10 = .slice A3 L.length c3 ∧ BkI w0 wr T L v8 A2 c2 A3 c3) (fun iv _ _ _ _ => m - (intOf iv).toNat)
  case atStart => exact ⟨0, [], _, _, 1, _, 0, by omega, rfl, Nat.le_refl _, rfl, rfl, IS.out⟩
  case round =>
    obtain ⟨j, L, T, A2, c2, A3, c3, hj, rfl, hLj, rfl, rfl, hI⟩ := hrel
    obtain ⟨wo, rfl⟩ : ∃ wo : World, wo = wr := ⟨_, rfl⟩
    have HI := Lib.hid hI
    clear hI IS
    by_cases hlt : j < m
    · have d1 : decide ((j : Int) < (m : Int)) = true := decide_eq_true (by omega)
      have d2 : decide (j < m) = true := decide_eq_true hlt
      have d3 : 0 ≤ (j : Int) ∧ (j : Int) < (m : Int) := by omega
      have d4 : IntKind.i64.wrap ((j : Int) + 1) = (j : Int) + 1 := by rw [IntKind.wrap_i64]; omega
      obtain ⟨g, o, D, k, D', k', hA, hg, hc, he⟩ := HR.out.at_ j (by omega)
      subst hA
      have q1 : ldR Tryd.prog 32 10 wo g (o + j * 10) (row wo g) = .ok (.agg (rcC (R j) (.slice D (R j).e.T k) (.slice D' (R j).e.n k'))) wo := rc_lw fun z hz => by
        rw [HI.out.b.cell (p := ⟨g, o + j * 10 + z, none⟩) hg]; exact hc z hz
      have HP := Lib.hid (put_rec (R j) D D' k k' wo (HT.out.below HI.out.b HT.out.pos) (he.below HI.out.b) (fun _ => (HB.out j (by omega)).bd))
      have HCC := Lib.hid hc
      have HEE := Lib.hid he
      clear hc he
      go_wp2_with fail
      refine HP.out.mono ?_
      rintro e w5 (⟨hz, rfl, hb⟩ | ⟨hz, v5, rfl, ho5, hb⟩)
      · have hne : (((pcE (R j) : Nat) : Int) == 0) = false := by simp; exact hz
        have I2 := Lib.hid (HI.out.calm hb T (fun _ _ => rfl))
        clear HP hz hb HI q1 HCC HEE
        go_wp2_with fail
        exact ⟨⟨j + 1, L, T, A2, c2, A3, c3, by omega, rfl, by omega, rfl, rfl, I2.out⟩, by simp [intOf]; omega⟩
      · obtain ⟨A5, c5, rfl, s5, -, -⟩ := ho5.sl
        have I2 := Lib.hid (HI.out.calm hb T (fun _ _ => rfl))
        have S5 := Lib.hid s5
        have HZ := Lib.hid hz
        have hbd : lnS L + pcL (R j) ≤ 200000 := by
          have h1 := lnS_le I2.out.all
          have h2 := pcL_le hz
          omega
        have hLm : L.length ≤ 40 := by omega
        clear HP hz hb HI q1 ho5 s5
        go_upto_region 12 with (at_builtin; refine wpl_appB rfl (.tmp 50) (.tmp 51) rfl sli_u u8_info I2.out.o.own S5.out (by omega) (Nat.zero_le _) rfl rfl ?_; intro v6 w6 ho6 hg6 ht6)
        obtain ⟨A6, c6, rfl, -, -, -⟩ := ho6.sl
        obtain ⟨o6, f6⟩ := I2.out.o.app ho6 hg6 ht6
        obtain ⟨T6, hT6⟩ : ∃ T6, T6 = paint T w5.heap.size 2 := ⟨_, rfl⟩
        rw [← hT6] at o6 f6
        have t6 : ∀ k, k < w0.heap.size → T6 k = 0 := fun k hk => by rw [f6.tag k (by have := I2.out.b.size; omega)]; exact I2.out.t k hk
        have b6 : Below w0.heap.size w0 w6 := I2.out.b.trans (f6.below I2.out.b.size fun k hk => by rw [I2.out.t k hk]; decide)
        obtain ⟨w7, hw7⟩ : ∃ w7, w7 = w6.alloc (.cells #[.int .i64 ((lnS L + pcL (R j) : Nat) : Int)] 3) := ⟨_, rfl⟩
        have b7 : Below w6.heap.size w6 w7 := by rw [hw7]; exact (Below.refl _ _).alloc (Nat.le_refl _) _
        have r7 : row w7 w6.heap.size = some ([Value.int .i64 ((lnS L + pcL (R j) : Nat) : Int)]).toArray := by rw [hw7]; exact row_alloc_at _ _ _ _ rfl
        have P7 := Lib.hid ((I2.out.p.fr iEl_ok f6 (by decide) (by decide)).fr iEl_ok (Fr.calm (H := fun _ => False) b7 fun _ _ => rfl) (fun e => e) (fun e => e))
        have R7 := Lib.hid r7
        have O6 := Lib.hid o6
        have F6 := Lib.hid f6
        have B7 := Lib.hid (onto b6 b6.size b7)
        have BB7 := Lib.hid b7
        have TT6 := Lib.hid t6
        clear ho6 hg6 ht6 hT6 o6 f6 t6 b6 b7 r7
        obtain ⟨P, hP⟩ : ∃ P, P = lnS L + pcL (R j) := ⟨_, rfl⟩
        rw [← hP] at hw7 hbd ⊢
        have HP := Lib.hid hP
        clear hP
        have R7' := Lib.hid (show row w7 w6.heap.size = some ([Value.int .i64 (P : Int)]).toArray by rw [HP.out]; exact R7.out)
        have hla := atL_len L
        go_upto_region 13 with (at_builtin; simp only [← hw7]; refine wpl_appAt iEl_ok rfl (.tmp 53) (.tmp 56) rfl ints_u i64_info rfl (by decide) (by decide) P7.out R7'.out rfl (by omega) (by decide) (by simp [Act.eval, hla]) (by simp [Act.eval]) ?_; intro A8 c8 w8 p8 f8)
        obtain ⟨T8, hT8⟩ : ∃ T8, T8 = paint T6 w7.heap.size 3 := ⟨_, rfl⟩
        rw [← hT8] at p8 f8
        have t8 : ∀ k, k < w0.heap.size → T8 k = 0 := fun k hk => by rw [f8.tag k (by have := B7.out.size; omega)]; exact TT6.out k hk
        have b8 : Below w0.heap.size w0 w8 := B7.out.trans (f8.below B7.out.size fun k hk => by rw [TT6.out k hk]; decide)
        obtain ⟨C, hC⟩ : ∃ C, C = rcC (R j) (.slice D (R j).e.T k) (.slice D' (R j).e.n k') := ⟨_, rfl⟩
        obtain ⟨w9, hw9⟩ : ∃ w9, w9 = w8.alloc (.cells (rcC (R j) (.slice D (R j).e.T k) (.slice D' (R j).e.n k')) 32) := ⟨_, rfl⟩
        have b9 : Below w8.heap.size w8 w9 := by rw [hw9]; exact (Below.refl _ _).alloc (Nat.le_refl _) _
        have r9 : row w9 w8.heap.size = some ((rcC (R j) (.slice D (R j).e.T k) (.slice D' (R j).e.n k')).toList).toArray := by rw [hw9, Array.toArray_toList]; exact row_alloc_at _ _ _ _ rfl
        have q8 : ldR Tryd.prog 32 10 w8 g (o + j * 10) (row w8 g) = .ok (.agg (rcC (R j) (.slice D (R j).e.T k) (.slice D' (R j).e.n k'))) w8 := rc_lw fun z hz => by
          rw [b8.cell (p := ⟨g, o + j * 10 + z, none⟩) hg]; exact HCC.out z hz
        have G9 := Lib.hid (((((I2.out.g.fr rcEl_ok F6.out (by decide) (by decide)).fr rcEl_ok (Fr.calm (T' := T6) (H := fun _ => False) BB7.out fun _ _ => rfl) (fun e => e) (fun e => e)).fr rcEl_ok f8 (by decide) (by decide)).fr rcEl_ok (Fr.calm (T' := T8) (H := fun _ => False) b9 fun _ _ => rfl) (fun e => e) (fun e => e)))
        have R9 := Lib.hid r9
        have EL9 := Lib.hid (rcEl_old (T := T8) HEE.out (onto b8 b8.size b9) t8)
        have P8 := Lib.hid p8
        have F8 := Lib.hid f8
        have B9 := Lib.hid b9
        clear p8 f8 hT8 t8 b8 b9 r9 R7 R7' P7 hw7 hC C
        go_wp2_with (at_builtin; simp only [← hw9]; refine wpl_appAt rcEl_ok rfl (.tmp 58) (.tmp 63) rfl rcs_u rc_info (rc_size _ _ _) (by decide) (by decide) G9.out R9.out EL9.out (by omega) (by decide) (by simp [Act.eval]) (by simp [Act.eval]) ?_; intro A10 c10 w10 g10 f10)
        have hz : P = lnS L + pcL (R j) := HP.out
        rw [hz]
        exact ⟨⟨j + 1, L ++ [R j], _, A8, c8, A10, c10, by omega, rfl, by rw [List.length_append]; show L.length + 1 ≤ j + 1; omega, by rw [List.length_append]; rfl, by rw [List.length_append]; rfl, I2.out.more ⟨HB.out j (by omega), HZ.out⟩ O6.out F6.out BB7.out (by rw [← hz]; exact P8.out) F8.out B9.out g10 f10⟩, by simp [intOf]; omega⟩
    · obtain rfl : j = m := by omega
      have hbd : lnS L ≤ 200000 := by
        have h1 := lnS_le HI.out.all
        omega
      have hLm : L.length ≤ 40 := by omega
      obtain ⟨N, hN⟩ : ∃ N, N = lnS L := ⟨_, rfl⟩
      obtain ⟨A5, c5, hv5, s5, hm5, -⟩ := HI.out.o.own.sl
      subst hv5
      rw [← hN] at hbd s5 ⊢
      have S5 := Lib.hid s5
      have ALL := Lib.hid HI.out.all
      have HW := Lib.hid (bk_whole HI.out.all (f := allF L) fun _ _ => rfl)
      obtain ⟨g, o, hA2, hg, hp⟩ := HI.out.p.ints (by rw [atL_len]; omega)
      subst hA2
      have PP := Lib.hid (show ∀ i, i < L.length + 1 → wo.cell? ⟨g, o + i, none⟩ = some (.int .i64 ((lnS (L.take i) : Nat) : Int)) from fun i hi => by rw [hp i (by rw [atL_len]; exact hi), atL_get])
      have G5 := Lib.hid HI.out.g.rcs
      have B5 := Lib.hid HI.out.b
      have T5 := Lib.hid (HT.out.below HI.out.b HT.out.pos)
      have H1 := Lib.hid (scan_any N c5 A5 (allF L) wo T5.out s5 (by omega) hm5)
      have hgw : g < wo.heap.size := hg
      have HN := Lib.hid hN
      clear hlt hj hLj s5 hp HI hle HR HB HT hN hg hmn hm40 B1
      go_wp2_with fail
      refine H1.out.mono ?_
      intro e w6 h6
      obtain ⟨hb6, A6, c6, R6, rfl, hr6, hq6⟩ := h6.known (by rw [HN.out]; exact HW.out)
      rw [← HN.out]
      have B6 := Lib.hid (onto B5.out B5.out.size hb6)
      have HS := Lib.hid (sameQ rfl hr6 hq6 (G5.out.below hb6) ALL.out (by omega))
      have B56 := Lib.hid hb6
      clear h6 hb6 hr6 hq6 H1
      go_wp2_with fail
      refine HS.out.mono ?_
      rintro e w7 ⟨rfl, hb7⟩
      have B57 := Lib.hid (onto B56.out B56.out.size hb7)
      have hnn : ((N : Int) != (N : Int)) = false := by simp
      obtain ⟨p, hp⟩ : ∃ p : Nat, (decide (cut < 0) = true ∧ IntKind.i64.wrap (cut + 1) = cut + 1 ∧ -(cut + 1) = (p : Int) ∧ IntKind.i64.wrap (p : Int) = (p : Int)) ∨ (decide (cut < 0) = false ∧ cut = (p : Int)) := by
        have hC := HC.out
        by_cases e : cut < 0
        · exact ⟨(-(cut + 1)).toNat, .inl ⟨decide_eq_true e, by rw [IntKind.wrap_i64]; omega, by omega, by rw [IntKind.wrap_i64]; omega⟩⟩
        · exact ⟨cut.toNat, .inr ⟨decide_eq_false e, by omega⟩⟩
      have HPP := Lib.hid hp
      clear HS B56 hb7 hp
      go_upto_if 86 with fail
      go_cut [1] (fun v wx => v = .int .i64 (p : Int) ∧ wx = w7)
      case first =>
        rcases HPP.out with ⟨e1, e2, e3, e4⟩ | ⟨e1, e2⟩
        · go_wp2_with fail
          go_meet
          exact ⟨rfl, rfl⟩
        · subst e2
          have e3 : ¬ ((p : Int) < 0) := by omega
          go_wp2_with fail
          go_meet
          exact ⟨rfl, rfl⟩
      case rest =>
      obtain ⟨rfl, hwc⟩ := hcut
      rw [hwc]
      clear hwc wc HPP HC
      obtain ⟨kk, hkk⟩ : ∃ kk, kk = p % (N + 1) := ⟨_, rfl⟩
      have hkN : kk ≤ N := by have := Nat.mod_lt p (show 0 < N + 1 by omega); omega
      have hkr : (p : Int) % ((N : Int) + 1) = (kk : Int) := by rw [hkk]; rfl
      obtain ⟨s, hs⟩ : ∃ s, s = N - kk := ⟨_, rfl⟩
      have z1 : IntKind.i64.wrap ((N : Int) + 1) = (N : Int) + 1 := by rw [IntKind.wrap_i64]; omega
      have z2 : IntKind.i64.wrap ((N : Int) - (kk : Int)) = (s : Int) := by rw [IntKind.wrap_i64]; omega
      have z3 : ((N : Int) + 1 == 0) = false := by simp; omega
      have hsN : s ≤ N := by omega
      clear hkk hs
      go_wp2_with fail
      go_loopw [18] (fun v wx => ∃ k : Nat, k ≤ L.length ∧ v = .int .i64 (k : Int) ∧ lnS (L.take k) ≤ s ∧ wx = w7) (fun v _ => L.length - (intOf v).toNat)
      case atStart => exact ⟨0, Nat.zero_le _, rfl, Nat.zero_le _, rfl⟩
      case round =>
        obtain ⟨k, hk, rfl, hks, rfl⟩ := hrel
        obtain ⟨w8, rfl⟩ : ∃ w8 : World, w8 = wr := ⟨_, rfl⟩
        have hw1 : IntKind.i64.wrap ((k : Int) + 1) = (k : Int) + 1 := by rw [IntKind.wrap_i64]; omega
        have hw2 : IntKind.i64.wrap ((L.length : Int) + 1) = (L.length : Int) + 1 := by rw [IntKind.wrap_i64]; omega
        have hln : ((L.length + 1 : Nat) : Int) = (L.length : Int) + 1 := rfl
        have HGO : (∃ P, P = lnS (L.take (k + 1)) ∧ k < L.length ∧ P ≤ s) ∨ (∃ P, P = lnS (L.take (k + 1)) ∧ k < L.length ∧ ¬ P ≤ s ∧ (k < L.length → s < lnS (L.take (k + 1)))) ∨ (k = L.length ∧ (k < L.length → s < lnS (L.take (k + 1)))) := by
          by_cases h1 : k < L.length
          · by_cases h2 : lnS (L.take (k + 1)) ≤ s
            · exact .inl ⟨_, rfl, h1, h2⟩
            · exact .inr (.inl ⟨_, rfl, h1, h2, fun _ => by omega⟩)
          · exact .inr (.inr ⟨by omega, fun h => absurd h h1⟩)
        have QP := Lib.hid (show ∀ i, i < L.length + 1 → w8.cell? ⟨g, o + i, none⟩ = some (.int .i64 ((lnS (L.take i) : Nat) : Int)) from fun i hi => by rw [B57.out.cell (p := ⟨g, o + i, none⟩) hgw]; exact PP.out i hi)
        rcases HGO with ⟨P, hP, hk1, hk2⟩ | hex
        · have q1 : w8.cell? ⟨g, o + (k + 1), none⟩ = some (.int .i64 (P : Int)) := by rw [QP.out (k + 1) (by omega), hP]
          have d1 : decide ((k : Int) + 1 < (L.length : Int) + 1) = true := decide_eq_true (by omega)
          have d2 : (k : Int) + 1 < (L.length : Int) + 1 := by omega
          have d4 : k + 1 < L.length + 1 := by omega
          have e1 : decide ((P : Int) ≤ (s : Int)) = true := decide_eq_true (by omega)
          have e2 : decide (P ≤ s) = true := decide_eq_true hk2
          have HP := Lib.hid hP
          clear hP
          go_wp2_with fail
          exact ⟨⟨k + 1, by omega, rfl, by rw [← HP.out]; exact hk2, trivial⟩, by simp [intOf]; omega⟩
        have HKS := Lib.hid hks
        have HK2 := Lib.hid (show k < L.length → s < lnS (L.take (k + 1)) from by rcases hex with ⟨_, _, _, _, h⟩ | ⟨_, h⟩ <;> exact h)
        have S8 := Lib.hid (((S5.out.below B57.out).more B57.out.size).upto s hsN)
        have hsc : s ≤ c5 := S8.out.le
        have qu := fun w => run_upto (P := Tryd.prog) sli_u u8_i A5 N c5 s hsc w
        have T8 := Lib.hid (T5.out.below B57.out T5.out.pos)
        have H8 := Lib.hid (scan_any s c5 A5 (allF L) w8 T8.out S8.out (by omega) hm5)
        have hkc : k ≤ c3 := Nat.le_trans hk G5.out.le
        have qk := fun w => run_uptoJ (P := Tryd.prog) rcs_u rc_i A3 L.length c3 k hkc w
        have B8 := Lib.hid (onto B5.out B5.out.size B57.out)
        have hzw : wo.heap.size ≤ w8.heap.size := B57.out.size
        clear hks
        have hexit : (∃ P : Nat, w8.cell? ⟨g, o + (k + 1), none⟩ = some (.int .i64 (P : Int)) ∧ ((k : Int) + 1 < (L.length : Int) + 1) ∧ (decide ((k : Int) + 1 < (L.length : Int) + 1) = true) ∧ k + 1 < L.length + 1 ∧ decide ((P : Int) ≤ (s : Int)) = false ∧ decide (P ≤ s) = false) ∨ (¬ ((k : Int) + 1 < (L.length : Int) + 1) ∧ decide ((k : Int) + 1 < (L.length : Int) + 1) = false ∧ decide (k < L.length) = false) := by
          rcases hex with ⟨P, hP, h1, h2, -⟩ | ⟨h, -⟩
          · exact .inl ⟨P, by rw [QP.out (k + 1) (by omega), hP], by omega, decide_eq_true (by omega), by omega, decide_eq_false (by omega), decide_eq_false h2⟩
          · exact .inr ⟨by omega, decide_eq_false (by omega), decide_eq_false (by omega)⟩
        clear hex
        have hkt : (L.take k).length = k := by rw [List.length_take]; omega
        have HKT := Lib.hid hkt
        have ALK := Lib.hid (show ∀ r, r ∈ L.take k → RcIn r ∧ pcE r = 0 from fun r hr => ALL.out r (List.mem_of_mem_take hr))
        have GK := Lib.hid (((G5.out.upto k hk).congr (R' := gt (L.take k)) fun i hi => (gt_take L hi).symm))
        have HSC := Lib.hid (show ScR s (allF L) (L.take k) from scr_cut HW.out rfl k s hk HKS.out HK2.out (by rw [← HN.out]; exact hsN))
        clear hkt
        rcases hexit with ⟨P, q1, d1, d2, d3, d4, d5⟩ | ⟨d1, d2, d3⟩
        all_goals
          go_upto_region 24 with fail
          go_wp2_with fail
          refine H8.out.mono ?_
          intro e w9 h9
          obtain ⟨hb9, A9, c9, R9, rfl, hr9, hq9⟩ := h9.known HSC.out
          have B9 := Lib.hid (onto B8.out B8.out.size hb9)
          have B59 := Lib.hid (onto B57.out hzw hb9)
          obtain ⟨K, hK⟩ : ∃ K, K = lnS (L.take k) := ⟨_, rfl⟩
          have HK := Lib.hid hK
          rw [HKT.out, ← hK]
          have HS := Lib.hid (sameQ HKT.out hr9 hq9 (GK.out.below B59.out) ALK.out (by omega))
          clear h9 hr9 hq9 hb9 H8 hK
          go_wp2_with fail
          refine HS.out.mono ?_
          rintro e w10 ⟨rfl, hb10⟩
          have B10 := Lib.hid (onto B9.out B9.out.size hb10)
          have B510 := Lib.hid (onto B59.out B59.out.size hb10)
          have qK : w10.cell? ⟨g, o + k, none⟩ = some (.int .i64 (K : Int)) := by rw [B510.out.cell (p := ⟨g, o + k, none⟩) hgw, PP.out k (by omega), HK.out]
          have hkk : ((K : Int) != (K : Int)) = false := by simp
          have hk1 : k < L.length + 1 := by omega
          have hk2 : (k : Int) < (L.length : Int) + 1 := by omega
          clear HS B59 hb10 
          go_upto_region 28 with fail
          by_cases hL0 : L.length = 0
          · have e1 : ((L.length : Int) == 0) = true := beq_iff_eq.2 (by omega)
            have e2 : (L.length == 0) = true := beq_iff_eq.2 hL0
            have BZ := Lib.hid (onto B0.out B0.out.size B10.out)
            clear hL0
            go_wp2_with fail
            exact bodyPost_ret (v := .bool true) (by simp [results, Tryd.results4, go_sem]) rfl ⟨rfl, BZ.out⟩
          have e1 : ((L.length : Int) == 0) = false := beq_eq_false_iff_ne.2 (by omega)
          have e2 : (L.length == 0) = false := beq_eq_false_iff_ne.2 (by omega)
          obtain ⟨z, hz⟩ : ∃ z, L.length = z + 1 := ⟨L.length - 1, by omega⟩
          have HZ := Lib.hid hz
          have y1 : IntKind.i64.wrap ((L.length : Int) - 1) = (z : Int) := by rw [IntKind.wrap_i64]; omega
          have y2 : IntKind.i64.wrap ((z : Int) + 1) = (z : Int) + 1 := by rw [IntKind.wrap_i64]; omega
          have hN5 : 5 ≤ N := by
            rw [HN.out, bk_snoc hz, lnS_snoc]
            have := pcL_pos (gt L z)
            omega
          have rx := carry (onto B5.out B5.out.size B510.out) R0.out
          have qx : w10.cell? ⟨w.heap.size, 0, none⟩ = some (.int .i64 x) := by rw [cell_row rx]; rfl
          obtain ⟨p', hp'⟩ : ∃ p' : Nat, (decide (x < 0) = true ∧ IntKind.i64.wrap (x + 1) = x + 1 ∧ -(x + 1) = (p' : Int) ∧ IntKind.i64.wrap (p' : Int) = (p' : Int)) ∨ (x = (p' : Int)) := by
            have hC := HX.out
            by_cases e : x < 0
            · exact ⟨(-(x + 1)).toNat, .inl ⟨decide_eq_true e, by rw [IntKind.wrap_i64]; omega, by omega, by rw [IntKind.wrap_i64]; omega⟩⟩
            · exact ⟨x.toNat, .inr (by omega)⟩
          have HPP := Lib.hid hp'
          have RX := Lib.hid rx
          clear hp' rx hL0 hz qK hkk
          go_upto_if 145 with fail
          go_cut [23] (fun v wx => v = .int .i64 (p' : Int) ∧ wx = w10)
          case first =>
            rcases HPP.out with ⟨e1, e2, e3, e4⟩ | e2
            · go_wp2_with fail
              go_meet
              exact ⟨rfl, rfl⟩
            · subst e2
              have e3 : ¬ ((p' : Int) < 0) := by omega
              go_wp2_with fail
              go_meet
              exact ⟨rfl, rfl⟩
          case rest =>
          obtain ⟨rfl, hwc⟩ := hcut
          rw [hwc]
          clear hwc wc HPP
          obtain ⟨w11, hw11⟩ : ∃ w11, w11 = w10.alloc (.cells #[] 5) := ⟨_, rfl⟩
          have b11 : Below w10.heap.size w10 w11 := by rw [hw11]; exact (Below.refl _ _).alloc (Nat.le_refl _) _
          have O11 := Lib.hid (show Own w11 w10.heap.size 5 (.slice (some ⟨w10.heap.size, 0, none⟩) 0 0) 0 nF by rw [hw11]; exact Own.empty _ _ _ _ (Nat.le_refl _))
          have S11 := Lib.hid (S5.out.below (onto B510.out B510.out.size b11))
          have hz11 := b11.size
          have BB11 := Lib.hid b11
          clear b11
          go_upto_region 35 with (at_builtin; simp only [← hw11]; refine wpl_appB rfl (.tmp 149) (.tmp 150) rfl sli_u u8_info O11.out S11.out (by omega) hz11 rfl rfl ?_; intro v12 w12 ho12 hg12 ht12)
          obtain ⟨gB, cap, cur, rfl, hgB, hr12, hcm, hcn, hcs, hcf⟩ := ho12.rowAt (by omega)
          rw [Nat.zero_add] at hcf hcn ⊢
          have B12 := Lib.hid (O11.out.after hg12 BB11.out hz11 (Nat.le_refl _))
          have hqN : (p' : Int) % 4 = ((p' % 4 : Nat) : Int) := rfl
          obtain ⟨q4, hq4⟩ : ∃ q4, q4 = p' % 4 := ⟨_, rfl⟩
          rw [← hq4] at hqN
          have hq3 : q4 ≤ 3 := by omega
          obtain ⟨q, hq⟩ : ∃ q, q = N - 1 - q4 := ⟨_, rfl⟩
          have y3 : IntKind.i64.wrap ((N : Int) - 1) = (N : Int) - 1 := by rw [IntKind.wrap_i64]; omega
          have y4 : IntKind.i64.wrap ((N : Int) - 1 - (q4 : Int)) = (q : Int) := by rw [IntKind.wrap_i64]; omega
          have hqlt : q < N := by omega
          have hqi : (q : Int) < (N : Int) := by omega
          have B512 := Lib.hid (onto B510.out B510.out.size B12.out)
          have qz : w12.cell? ⟨g, o + (z + 1), none⟩ = some (.int .i64 (N : Int)) := by
            rw [B512.out.cell (p := ⟨g, o + (z + 1), none⟩) hgw, PP.out (z + 1) (by rw [HZ.out]; omega), ← HZ.out, List.take_length, ← HN.out]
          have hzl : z + 1 < L.length + 1 := by rw [HZ.out]; omega
          have hzi : (z : Int) + 1 < (L.length : Int) + 1 := by omega
          have RX12 := Lib.hid (carry B12.out RX.out)
          have HQ := Lib.hid hq
          clear hw11 ho12 hg12 ht12 hq4 hq
          go_upto_region 36 with fail
          rw [catF_zero] at hcf
          obtain ⟨yb, hyb⟩ := I_of (y % 256) (by omega) (by omega)
          have hyw : IntKind.u8.wrap y = I yb := by rw [← hyb]; rfl
          have hxor := I_xor (allF L q) yb
          have rcur : row (w12.drewN 1) gB = some cur := by rw [row_drewN]; exact hr12
          have rxx : row (w12.drewN 1) w.heap.size = some #[.int .i64 x, .int .i64 y] := by rw [row_drewN]; exact RX12.out
          refine flow_region [([0, 1, 2, 3, 4, 5, 6, 7, 8, 9, 10], 11, true)] [] (fun v => row v gB = some cur ∧ row v w.heap.size = some #[.int .i64 x, .int .i64 y]) (by kernel_rfl) (by kernel_rfl) (fun _ _ _ _ _ h => h) ⟨rcur, rxx⟩ ?_
          obtain ⟨w13, hw13⟩ : ∃ w13, w13 = w12.drewN 1 := ⟨_, rfl⟩
          have B13 := Lib.hid (show Below w12.heap.size w12 w13 by rw [hw13]; exact below_drewN (Below.refl _ _) 1)
          rw [← hw13] at rcur rxx ⊢
          clear hw13
          have hne : Nonempty (In (fun v => row v gB = some cur ∧ row v w.heap.size = some #[.int .i64 x, .int .i64 y])) := ⟨⟨w13, rcur, rxx⟩⟩
          have hcq := hcf q hqlt
          have Q0 : ∀ v : In (fun v => row v gB = some cur ∧ row v w.heap.size = some #[.int .i64 x, .int .i64 y]), v.val.cell? ⟨gB, q, none⟩ = some (.int .u8 (I (allF L q))) := fun v => by rw [cell_row v.ok.1]; exact hcq
          have Q1 : ∀ v : In (fun v => row v gB = some cur ∧ row v w.heap.size = some #[.int .i64 x, .int .i64 y]), v.val.cell? ⟨w.heap.size, 1, none⟩ = some (.int .i64 y) := fun v => by rw [cell_row v.ok.2]; rfl
          have HCF := Lib.hid hcf
          have HCQ := Lib.hid hcq
          have HYB := Lib.hid hyb
          clear hcf hcq
          simp only [wpFl, pk, List.getElem?_cons_zero, List.getElem?_cons_succ]
          refine quiet_in ?_
          repeat (go_big_quiet_step (fail))
          refine wpQuiet_nil ?_
          clear Q0 Q1 hne
          have fz := froz_row rcur q
          have cz : w13.cell? ⟨gB, q, none⟩ = some (.int .u8 (I (allF L q))) := by rw [cell_row rcur]; exact HCQ.out
          have S14 := Lib.hid (sl_store (b := allF L q ^^^ yb) rcur hcs hcn HCF.out hqlt)
          have B14 := Lib.hid (show Below w13.heap.size w13 w13 from Below.refl _ _)
          go_wp2_with fail
          refine ⟨fun _ => True, trivial, .inl trivial, ?_⟩
          show wpQuiet _ _ _ _ _ _
          refine wpQuiet_nil ?_
          obtain ⟨w14, hw14⟩ : ∃ w14, w14 = w13.setCell ⟨gB, q, none⟩ (.int .u8 (I (allF L q ^^^ yb))) := ⟨_, rfl⟩
          have hz14 : w14.heap.size = w13.heap.size := by rw [hw14]; simp [World.setCell]
          obtain ⟨F, hF⟩ : ∃ F : Bf, F = fun i => if i = q then allF L q ^^^ yb else allF L i := ⟨_, rfl⟩
          have S15 := Lib.hid (show Sl w14 w14.heap.size (some ⟨gB, 0, none⟩) N cap F by rw [hz14, hw14, hF]; exact S14.out)
          have b15 : Below w10.heap.size w10 w14 := by
            rw [hw14, setCell_row rcur]
            exact below_setRow (onto B12.out B12.out.size B13.out) hgB _
          rw [← hw14]
          have B515 := Lib.hid (onto B510.out B510.out.size b15)
          have B015 := Lib.hid (onto B10.out B10.out.size b15)
          have T15 := T5.out.below B515.out T5.out.pos
          have H15 := Lib.hid (scan_any N cap (some ⟨gB, 0, none⟩) F w14 T15 S15.out (by omega) hcm)
          have HF := Lib.hid hF
          clear hw14 hz14 b15 T15 rcur rxx fz cz S14 B14 B12 B13 BB11 RX12 RX S15 HCF HCQ hcm hcn hcs hxor hgB hF qz B10 B510 S11 O11 B512 hr12
          by_cases hy0 : yb = 0#8
          · have e5 : (I yb == 0) = true := by rw [hy0]; rfl
            have HS := Lib.hid (show ScR N F L by
              rw [HN.out]
              refine bk_whole ALL.out fun i _ => ?_
              rw [HF.out, hy0]
              simp only [BitVec.xor_zero]
              split
              · rename_i h; rw [h]
              · rfl)
            have hyb' := HYB.out
            clear hy0
            go_wp2_with fail
            refine H15.out.mono ?_
            intro e w16 h16
            obtain ⟨hb16, A16, c16, R16, rfl, hr16, hq16⟩ := h16.known HS.out
            rw [← HN.out]
            have B16 := Lib.hid (onto B0.out B0.out.size (onto B015.out B015.out.size hb16))
            have rx16 := carry (onto B015.out B015.out.size hb16) R0.out
            have qx16 : w16.cell? ⟨w.heap.size, 1, none⟩ = some (.int .i64 y) := by rw [cell_row rx16]; rfl
            clear h16 hb16 hr16 hq16 H15 rx16
            go_wp2_with fail
            exact bodyPost_ret (v := .bool true) (by simp [results, Tryd.results4, go_sem]) rfl ⟨rfl, B16.out⟩
          · have e5 : (I yb == 0) = false := beq_eq_false_iff_ne.2 fun h => hy0 (I_inj (h.trans (show (0 : Int) = I 0#8 from rfl)))
            have HS := Lib.hid (show ScR N F (L.take z) by
              have hsn := bk_snoc HZ.out
              refine scr_turn (r := gt L z) (f := allF L) (by rw [← hsn, HN.out]; exact HW.out) (by rw [← hsn]; exact HN.out) q (by have := HQ.out; omega) hqlt (fun h => hy0 ?_) (fun i hi hne => by rw [HF.out]; simp only; rw [if_neg hne])
              rw [HF.out] at h
              simp only [if_true] at h
              have h2 := congrArg (fun u => allF L q ^^^ u) h
              simpa [← BitVec.xor_assoc] using h2)
            have hyb' := HYB.out
            have hzt : (L.take z).length = z := by rw [List.length_take, HZ.out]; omega
            obtain ⟨Z, hZ⟩ : ∃ Z, Z = lnS (L.take z) := ⟨_, rfl⟩
            have ALZ := Lib.hid (show ∀ r, r ∈ L.take z → RcIn r ∧ pcE r = 0 from fun r hr => ALL.out r (List.mem_of_mem_take hr))
            have hzle : z ≤ L.length := by rw [HZ.out]; omega
            have GZ := Lib.hid (((G5.out.upto z hzle).congr (R' := gt (L.take z)) fun i hi => (gt_take L hi).symm))
            have hzc : z ≤ c3 := Nat.le_trans hzle G5.out.le
            have qk2 := fun w => run_uptoJ (P := Tryd.prog) rcs_u rc_i A3 L.length c3 z hzc w
            have HZT := Lib.hid hzt
            have HZZ := Lib.hid hZ
            clear hy0 hzt hZ
            go_wp2_with fail
            refine H15.out.mono ?_
            intro e w16 h16
            obtain ⟨hb16, A16, c16, R16, rfl, hr16, hq16⟩ := h16.known HS.out
            rw [HZT.out, ← HZZ.out]
            have B16 := Lib.hid (onto B015.out B015.out.size hb16)
            have B516 := Lib.hid (onto B515.out B515.out.size hb16)
            have HC := Lib.hid (sameQ HZT.out hr16 hq16 (GZ.out.below B516.out) ALZ.out (by omega))
            have rx16 := carry B16.out R0.out
            have qx16 : w16.cell? ⟨w.heap.size, 1, none⟩ = some (.int .i64 y) := by rw [cell_row rx16]; rfl
            clear h16 hb16 hr16 hq16 H15 rx16
            go_wp2_with fail
            refine HC.out.mono ?_
            rintro e w17 ⟨rfl, hb17⟩
            have BZ := Lib.hid (onto B0.out B0.out.size (onto B16.out B16.out.size hb17))
            have qz : w17.cell? ⟨g, o + z, none⟩ = some (.int .i64 (Z : Int)) := by
              rw [(onto B516.out B516.out.size hb17).cell (p := ⟨g, o + z, none⟩) hgw, PP.out z (by omega), HZZ.out]
            have hz1 : z < L.length + 1 := by omega
            have hz2 : (z : Int) < (L.length : Int) + 1 := by omega
            clear HC hb17 qx16
            go_wp2_with fail
            exact bodyPost_ret (v := .bool true) (by simp [results, Tryd.results4, go_sem]) rfl ⟨rfl, BZ.out⟩
end Go.Proofs.YtdfcldomjjcidaaDoor.Oct
