/- Contract: the reference's Scans. -/
import Derived.Test.YtdfcldomjjcidaaGreatDoorJsE
import Derived.Test.YtdfcldomjjcidaaGreatDoorJsC
import Derived.Test.YtdfcldomjjcidaaGreatDoorJrV
namespace Go.Proofs.YtdfcldomjjcidaaGreatDoor.Oct
open Go.ChangeShapes Go.WideShapes Go.ChangeAt Go.RowKit
set_option linter.unusedVariables false

theorem run_mid {P : Program} {t u : TypeId} (ht : P.underlying t = some (.slice u)) (hz : (P.info? u).map (·.size) = some 1) (A : Option Addr) (n c l h : Nat) (hl : l ≤ h) (hh : h ≤ c) (w : World) :
    (Instr.slice t (.slice A n c) (some (.int .i64 (l : Int))) (some (.int .i64 (h : Int))) none).run P w = .ok (.slice (cutA A c l) (h - l) (c - l)) w := by
  have he : P.elem t = u := by simp [Program.elem, ht]
  rw [run_slice_lh w t A n c (by rw [he]; exact ht) .i64 .i64 l h (by omega) (by omega) (by omega), he, run_size1 hz, Result.andThen_ok]
  simp [sliced, cutA, Int.toNat_natCast]
/-- what the reference asks of the bytes is what stands there -/
theorem ref_tt {N : Nat} {F : Bf} (h : fsK N F) {m : Nat} (hm : min N 4116 ≤ m) : ttE m 4096 F = 0 := by
  have hs := fs_stands h
  obtain ⟨-, -, v1, l1⟩ := stands_back hs
  obtain ⟨-, -, hL⟩ := pc_ok hs.ok
  have hle := hs.le
  have h3 := enc_small hL
  have hpl : pcL (fsR F) = txL (rcL (fsR F)) + 4 := rfl
  have htx : txL (rcL (fsR F)) = encL (rcL (fsR F)) + rcL (fsR F) := rfl
  obtain ⟨q1, -, -, -⟩ := back_tx (n := m) (f := F) (by omega : txL (rcL (fsR F)) ≤ m) hL (fun i hi => by
    rw [hs.at_ i (by omega)]
    unfold pcF frF catF
    rw [if_pos hi])
  exact q1
theorem ref_fs {N : Nat} {F : Bf} {r : Rc} {T : Nat} {g : Bf} (hT : T = tkV F ∧ g = offF F (tkL F)) (hd : dcK T g → r = dcR g) (hb : r.k = 2 → EnB r.e) : fsK N F ↔ pcE r = 0 ∧ pcL r ≤ N ∧ ∀ i, i < pcL r → F i = pcF r i := by
  obtain ⟨rfl, rfl⟩ := hT
  constructor
  · intro h
    have e : r = fsR F := hd h.1.2
    rw [e]
    exact h.2
  · rintro ⟨h1, h2, h3⟩
    exact (stands_fs ⟨hb, h1, h2, h3⟩).1
set_option maxRecDepth 20000 in
set_option maxHeartbeats 4000000 in
theorem rscans_any (n c cK : Nat) (A AK : Option Addr) (f : Bf) (w : World) (hK : SlG w w.heap.size AK 64 cK kV) (hs : Sl w w.heap.size A n c f) (hn : n ≤ 1000000) (hc : c ≤ maxLen) :
    Calls Tryz.prog 29 #[.agg (tbA (.slice AK 64 cK) iF), .slice A n c] w (scP n f w) := by
  obtain ⟨w1, hw1⟩ : ∃ w1, w1 = w.alloc (.cells (tbA (.slice AK 64 cK) iF) 39) := ⟨_, rfl⟩
  have b1 : Below w.heap.size w w1 := by rw [hw1]; exact (Below.refl _ _).alloc (Nat.le_refl _) _
  have T1 := Lib.hid (show row w1 w.heap.size = some (tbA (.slice AK 64 cK) iF) by rw [hw1]; exact row_alloc_at _ _ _ _ rfl)
  have B1 := Lib.hid b1
  have K1 := Lib.hid ((hK.below b1).more b1.size)
  have HS := Lib.hid ((hs.below b1).more b1.size)
  have hnc := hs.le
  clear b1 hK hs
  go_enter Tryz.func29, Tryz.ntmps29
  go_upto_region 1 with fail
  simp only [← hw1]
  clear hw1
  go_wp2_with fail
  go_loopw [6, 7] (fun v sv wr => ∃ (T : Mk) (l : List Rc), sv = .int .i64 (lnS l : Nat) ∧ ElOw 10 rcEl T wr 1 29 v l ∧ StL n f l ∧ Below w1.heap.size w1 wr ∧ (∀ k, k < w1.heap.size → T k = 0)) (fun _ sv _ => n - (intOf sv).toNat)
  case atStart => exact ⟨fun _ => 0, [], rfl, ElOw.nil, trivial, Below.refl _ _, fun _ _ => rfl⟩
  case round =>
    obtain ⟨T, l, rfl, ho, hst, hb, hT⟩ := hrel
    obtain ⟨wo, rfl⟩ : ∃ wo : World, wo = wr := ⟨_, rfl⟩
    have hle := hst.le
    obtain ⟨L, hL⟩ : ∃ L, L = lnS l := ⟨_, rfl⟩
    rw [← hL] at hle ⊢
    obtain ⟨F, hF⟩ : ∃ F, F = offF f L := ⟨_, rfl⟩
    obtain ⟨a, ha⟩ : ∃ a, a = L + 4096 := ⟨_, rfl⟩
    obtain ⟨b, hb'⟩ : ∃ b, b = a + 20 := ⟨_, rfl⟩
    have y1 : IntKind.i64.wrap ((L : Int) + 4096) = (a : Int) := by rw [IntKind.wrap_i64]; omega
    have y2 : IntKind.i64.wrap ((a : Int) + 20) = (b : Int) := by rw [IntKind.wrap_i64]; omega
    obtain ⟨H, hH⟩ : ∃ H, (((n : Int) ≤ (b : Int)) ∧ n ≤ b ∧ n = H) ∨ (¬ ((n : Int) ≤ (b : Int)) ∧ ¬ n ≤ b ∧ b = H) := by
      by_cases e : n ≤ b
      · exact ⟨n, .inl ⟨by omega, e, rfl⟩⟩
      · exact ⟨b, .inr ⟨by omega, e, rfl⟩⟩
    have hHL : L ≤ H := by omega
    have hHn : H ≤ n := by omega
    obtain ⟨m, hm⟩ : ∃ m, m = H - L := ⟨_, rfl⟩
    have hmm : min (n - L) 4116 ≤ m := by omega
    have hmn : m ≤ n := by omega
    have HO := Lib.hid ho
    have HST := Lib.hid hst
    have HBB := Lib.hid hb
    have HTT := Lib.hid hT
    have HL := Lib.hid hL
    have HFF := Lib.hid hF
    have hsm : Sl wo wo.heap.size (cutA A c L) m (c - L) F := by
      rw [hF]
      exact (((HS.out.below hb).from_ L hle).upto m (by omega)).more hb.size
    have q1 : ∀ w, (Instr.slice 22 (.slice A n c) (some (.int .i64 (L : Int))) (some (.int .i64 (H : Int))) none).run Tryz.prog w = .ok (.slice (cutA A c L) m (c - L)) w := fun w => by rw [hm]; exact run_mid sli_u u8_i A n c L H hHL (by omega) w
    obtain ⟨TT, g, E2, hTm, hnt, hE2, hu2⟩ := ttP_uni m 4096 F
    have HU2 := Lib.hid hu2
    have HNT := Lib.hid hnt
    have HE2 := Lib.hid hE2
    have HM := Lib.hid hmm
    have H1 := Lib.hid (rtaket_any m (c - L) 4096 (cutA A c L) F wo hsm (by omega))
    clear ho hst hb hT hL hF hsm hnt hE2 hu2 hm hmm ha hb'
    rcases hH with ⟨d1, d2, rfl⟩ | ⟨d1, d2, rfl⟩
    all_goals
      go_wp2_with fail
      refine H1.out.mono ?_
      intro e w2 h2
      obtain ⟨A2, c2, v2, rfl, hs2, hb2⟩ := HU2.out _ _ _ h2
      have B2 := Lib.hid (onto HBB.out HBB.out.size hb2)
      have O2 := Lib.hid (HO.out.fr rcEl_ok (Fr.new (H := fun _ => False) hb2 0) (fun e => e) (fun e => e))
      obtain ⟨T2, hT2⟩ : ∃ T2, T2 = paint T wo.heap.size 0 := ⟨_, rfl⟩
      rw [← hT2] at O2
      have TT2 := Lib.hid (show ∀ k, k < w1.heap.size → T2 k = 0 from fun k hk => by rw [hT2, paint_old (by have := HBB.out.size; omega)]; exact HTT.out k hk)
      clear h2 H1 HU2 HO HTT hT2 q1 y1
      by_cases hE0 : E2 = 0
      rotate_left
      · have hne : ((E2 : Int) != 0) = true := by rw [bne_iff_ne]; omega
        have HNF := Lib.hid (show ¬ fsK (n - L) F from fun h => hE0 (HE2.out.2 (ref_tt h HM.out)))
        obtain ⟨A4, c4, hv, hrs, -⟩ := O2.out.rcs
        subst hv
        have HRS := Lib.hid hrs
        have BF := Lib.hid (onto B1.out B1.out.size B2.out)
        clear hE0 hrs hb2 hs2
        go_wp2_with fail
        exact bodyPost_ret (v := .tuple #[.slice A4 l.length c4, .int .i64 (L : Nat)]) (by simp [results, Tryz.results29, go_sem]) rfl ⟨BF.out, l, A4, c4, by rw [HL.out], ⟨HST.out, by rw [← HL.out, ← HFF.out]; exact HNF.out⟩, HRS.out⟩
      have hne : ((E2 : Int) != 0) = false := by rw [hE0]; rfl
      have HTG := Lib.hid (HNT.out (HE2.out.1 hE0))
      have H2 := Lib.hid (one_any TT c2 A2 g w2 hs2 (by omega))
      clear hE0 hb2 hs2
      go_wp2_with fail
      refine H2.out.mono ?_
      rintro e w3 ⟨hb3, r, v3, rfl, hG, hEB, hdc⟩
      obtain ⟨A3, c3, A3', c3', rfl, he3, hn3, hn3'⟩ := hG.ex
      have HFS := Lib.hid (ref_fs (N := n - L) HTG.out hdc hEB)
      have HEB := Lib.hid hEB
      obtain ⟨T3, hT3⟩ : ∃ T3, T3 = paint T2 w2.heap.size 0 := ⟨_, rfl⟩
      have F3 : Fr T2 T3 (fun _ => False) w2 w3 := by rw [hT3]; exact Fr.new hb3 0
      have hz0 := B2.out.size
      have TT3 := Lib.hid (show ∀ k, k < w1.heap.size → T3 k = 0 from fun k hk => by rw [F3.tag k (by omega)]; exact TT2.out k hk)
      obtain ⟨C, hC⟩ : ∃ C, C = rcC r (.slice A3 r.e.T c3) (.slice A3' r.e.n c3') := ⟨_, rfl⟩
      have hel : rcEl T3 w3 r C.toList := ⟨A3, c3, A3', c3', by rw [hC], ⟨he3.d, fun hn a ha => by
          rw [hT3]
          refine paint_new ?_
          by_cases e : w2.heap.size ≤ a.block
          · exact e
          · exact absurd rfl (hn3 a.block (by omega) hn a ha)⟩, ⟨he3.m, fun hn a ha => by rw [hT3]; exact paint_new (hn3' a ha)⟩⟩
      have O3 := O2.out.fr rcEl_ok F3 (fun e => e) (fun e => e)
      obtain ⟨w4, hw4⟩ : ∃ w4, w4 = w3.alloc (.cells C 29) := ⟨_, rfl⟩
      have b4 : Below w3.heap.size w3 w4 := by rw [hw4]; exact (Below.refl _ _).alloc (Nat.le_refl _) _
      have F4 : Fr T3 T3 (fun _ => False) w3 w4 := Fr.calm b4 fun _ _ => rfl
      have X4 := Lib.hid (show row w4 w3.heap.size = some (rcC r (.slice A3 r.e.T c3) (.slice A3' r.e.n c3')) by rw [hw4, ← hC]; exact row_alloc_at _ _ _ _ rfl)
      have O4 := Lib.hid (O3.fr rcEl_ok F4 (fun e => e) (fun e => e))
      have EL4 := Lib.hid (rcEl_ok.fr hel F4 (fun e => e))
      have E4 := Lib.hid (he3.below b4)
      have B4 := Lib.hid (onto B2.out B2.out.size (onto hb3 hb3.size b4))
      have t4 := carry B4.out T1.out
      have HP := Lib.hid (rputs_any r A3 A3' AK c3 c3' cK w4 ((K1.out.below B4.out).more B4.out.size) E4.out HEB.out)
      rw [hC] at EL4 hw4
      clear he3 hn3 hn3' hG hEB hdc hb3 b4 F3 F4 hel O3 hT3 hC H2 O2 TT2 B2
      go_upto_region 7 with fail
      simp only [← hw4]
      clear hw4
      have x4 := X4.out
      go_wp2_with fail
      refine HP.out.mono ?_
      rintro e w5 (⟨hz, rfl, hb5⟩ | ⟨hz, v5, rfl, ho5, hb5⟩)
      · have hne2 : (((pcE r : Nat) : Int) != 0) = true := by rw [bne_iff_ne]; omega
        have HNF := Lib.hid (show ¬ fsK (n - L) F from fun h => hz (HFS.out.1 h).1)
        have O5 := Lib.hid (O4.out.fr rcEl_ok (Fr.new (H := fun _ => False) hb5 0) (fun e => e) (fun e => e))
        have B5 := Lib.hid (onto B4.out B4.out.size hb5)
        have hne3 : ((pcE r : Nat) != 0) = true := by rw [bne_iff_ne]; exact hz
        clear hz hb5 HP x4 t4 O4
        go_wp2_with fail
        refine flow_seen [] [0, 1, 2, 3, 4, 5, 6, 7, 8, 9, 10, 11, 12, 13, 14, 15, 16, 17, 18, 19, 20, 21, 22, 23] (by kernel_rfl) (by kernel_rfl) (fun _ _ _ _ _ h => h) fun Z => ?_
        obtain ⟨A4, c4, hv, hrs, -⟩ := (O5.out.fr rcEl_ok (Fr.new (H := fun _ => False) Z.below 0) (fun e => e) (fun e => e)).rcs
        subst hv
        have HRS := Lib.hid hrs
        have BF := Lib.hid (onto B1.out B1.out.size (onto B5.out B5.out.size Z.below))
        obtain ⟨w6, hw6⟩ : ∃ w6, w6 = Z.val := ⟨_, rfl⟩
        rw [← hw6] at HRS BF ⊢
        clear hw6 hrs Z O5
        simp only [wpFs, pk, List.getElem?_cons_zero, List.getElem?_cons_succ]
        repeat (go_big_quiet_step (fail))
        refine wpQuiet_nil ?_
        go_wp2_with fail
        exact bodyPost_ret (v := .tuple #[.slice A4 l.length c4, .int .i64 (L : Nat)]) (by simp [results, Tryz.results29, go_sem]) rfl ⟨BF.out, l, A4, c4, by rw [HL.out], ⟨HST.out, by rw [← HL.out, ← HFF.out]; exact HNF.out⟩, HRS.out⟩
      · obtain ⟨A5, c5, rfl, s5, -, -⟩ := ho5.sl
        have F5 := Fr.new (T := T3) (H := fun _ => False) hb5 0
        obtain ⟨T5, hT5⟩ : ∃ T5, T5 = paint T3 w4.heap.size 0 := ⟨_, rfl⟩
        rw [← hT5] at F5
        have O5 := Lib.hid (O4.out.fr rcEl_ok F5 (fun e => e) (fun e => e))
        have EL5 := Lib.hid (rcEl_ok.fr EL4.out F5 (fun e => e))
        have B5 := Lib.hid (onto B4.out B4.out.size hb5)
        have X5 := Lib.hid (carry hb5 X4.out)
        have TT5 := Lib.hid (show ∀ k, k < w1.heap.size → T5 k = 0 from fun k hk => by rw [F5.tag k (by have := B4.out.size; omega)]; exact TT3.out k hk)
        obtain ⟨PL, hPL⟩ : ∃ PL, PL = pcL r := ⟨_, rfl⟩
        obtain ⟨D, hD⟩ : ∃ D, D = n - L := ⟨_, rfl⟩
        have hdd : IntKind.i64.wrap ((n : Int) - (L : Int)) = (D : Int) := by rw [IntKind.wrap_i64]; omega
        have hPb : PL ≤ 4200 := by rw [hPL]; have := pcL_le hz; omega
        rw [← hPL] at s5 ⊢
        rw [← hPL, ← hD] at HFS
        have hz0' : (((0 : Nat) : Int) != 0) = false := rfl
        have HZ := Lib.hid hz
        have HPL := Lib.hid hPL
        have HD := Lib.hid hD
        have S5 := Lib.hid s5
        clear ho5 hb5 F5 hT5 hz hPL hD HP x4 t4 O4 EL4 X4 TT3 s5
        by_cases hgt : D < PL
        · have e1 : decide ((D : Int) < (PL : Int)) = true := decide_eq_true (by omega)
          have e2 : decide (D < PL) = true := decide_eq_true hgt
          have HNF := Lib.hid (show ¬ fsK D F from fun h => by have := (HFS.out.1 h).2.1; omega)
          clear hgt
          go_wp2_with fail
          refine flow_seen [] [0, 1, 2, 3, 4, 5, 6, 7, 8, 9, 10, 11, 12, 13, 14, 15, 16, 17, 18, 19, 20, 21, 22, 23] (by kernel_rfl) (by kernel_rfl) (fun _ _ _ _ _ h => h) fun Z => ?_
          obtain ⟨A4, c4, hv, hrs, -⟩ := (O5.out.fr rcEl_ok (Fr.new (H := fun _ => False) Z.below 0) (fun e => e) (fun e => e)).rcs
          subst hv
          have HRS := Lib.hid hrs
          have BF := Lib.hid (onto B1.out B1.out.size (onto B5.out B5.out.size Z.below))
          obtain ⟨w6, hw6⟩ : ∃ w6, w6 = Z.val := ⟨_, rfl⟩
          rw [← hw6] at HRS BF ⊢
          clear hw6 hrs Z O5
          simp only [wpFs, pk, List.getElem?_cons_zero, List.getElem?_cons_succ]
          repeat (go_big_quiet_step (fail))
          refine wpQuiet_nil ?_
          go_wp2_with fail
          exact bodyPost_ret (v := .tuple #[.slice A4 l.length c4, .int .i64 (L : Nat)]) (by simp [results, Tryz.results29, go_sem]) rfl ⟨BF.out, l, A4, c4, by rw [HL.out], ⟨HST.out, by rw [← HL.out, ← HFF.out, ← HD.out]; exact HNF.out⟩, HRS.out⟩
        · have e1 : decide ((D : Int) < (PL : Int)) = false := decide_eq_false (by omega)
          have e2 : decide (D < PL) = false := decide_eq_false hgt
          have hPD : PL ≤ D := by omega
          obtain ⟨LP, hLP⟩ : ∃ LP, LP = L + PL := ⟨_, rfl⟩
          have hw : IntKind.i64.wrap ((L : Int) + (PL : Int)) = (LP : Int) := by rw [IntKind.wrap_i64]; omega
          have hnL : LP ≤ n := by have := HD.out; omega
          have q2 : ∀ w, (Instr.slice 22 (.slice A n c) (some (.int .i64 (L : Int))) (some (.int .i64 (LP : Int))) none).run Tryz.prog w = .ok (.slice (cutA A c L) PL (c - L)) w := fun w => by rw [run_mid sli_u u8_i A n c L LP (by omega) (by omega) w, show LP - L = PL by omega]
          have S6 := Lib.hid (show Sl w5 w5.heap.size (cutA A c L) PL (c - L) F by
            rw [HFF.out]
            exact (((HS.out.below B5.out).from_ L hle).upto PL (by have := HD.out; omega)).more B5.out.size)
          have HLP := Lib.hid hLP
          clear hgt hLP
          obtain ⟨S1, hS1⟩ : ∃ x, x = strOf PL (pcF r) := ⟨_, rfl⟩
          obtain ⟨S2, hS2⟩ : ∃ x, x = strOf PL F := ⟨_, rfl⟩
          by_cases heq : teqB PL PL (pcF r) F = true
          · have h1 := (teq_iff.1 heq).2
            have he : (S1.toList == S2.toList) = true := by rw [hS1, hS2]; exact heq
            have he' : (S1.toList != S2.toList) = false := by unfold bne; rw [he]; rfl
            have HSD := Lib.hid (show Stands (n - L) F r from ⟨HEB.out, HZ.out, by rw [← HPL.out, ← HD.out]; exact hPD, fun i hi => (h1 i (by rw [HPL.out]; exact hi)).symm⟩)
            have HS1 := Lib.hid hS1
            have HS2 := Lib.hid hS2
            clear heq h1 hS1 hS2
            go_wp2_with fail
            refine flow_seen [] [0, 1, 2, 3, 4, 5, 6, 7, 8, 9, 10, 11, 12, 13, 14, 15, 16, 17, 18, 19, 20, 21, 22, 23] (by kernel_rfl) (by kernel_rfl) (fun _ _ _ _ _ h => h) fun Z => ?_
            have cv1 : ∀ x : After Z.val, (convert 22 9 (.slice A5 PL c5)).run Tryz.prog x.val = .ok (.string S1) x.val := fun x => by rw [HS1.out]; exact conv_sl ((S5.out.below Z.below).more Z.below.size |>.below x.below)
            have cv2 : ∀ x : After Z.val, (convert 22 9 (.slice (cutA A c L) PL (c - L))).run Tryz.prog x.val = .ok (.string S2) x.val := fun x => by rw [HS2.out]; exact conv_sl ((S6.out.below Z.below).more Z.below.size |>.below x.below)
            have F6 := Fr.new (T := T5) (H := fun _ => False) Z.below 0
            obtain ⟨T6, hT6⟩ : ∃ T6, T6 = paint T5 w5.heap.size 0 := ⟨_, rfl⟩
            rw [← hT6] at F6
            have O6 := Lib.hid (O5.out.fr rcEl_ok F6 (fun e => e) (fun e => e))
            have EL6 := Lib.hid (rcEl_ok.fr EL5.out F6 (fun e => e))
            have B6 := Lib.hid (onto B5.out B5.out.size Z.below)
            have X6 := Lib.hid (carry Z.below X5.out)
            have TT6 := Lib.hid (show ∀ k, k < w1.heap.size → T6 k = 0 from fun k hk => by rw [F6.tag k (by have := B5.out.size; omega)]; exact TT5.out k hk)
            obtain ⟨w6, hw6⟩ : ∃ w6, w6 = Z.val := ⟨_, rfl⟩
            rw [← hw6] at cv1 cv2 O6 EL6 B6 X6 F6 ⊢
            clear hw6 F6 hT6 Z O5 EL5 B5 X5 TT5 S5 S6
            simp only [wpFs, pk, List.getElem?_cons_zero, List.getElem?_cons_succ]
            repeat (go_big_quiet_step (fail))
            refine wpQuiet_nil ?_
            clear cv1 cv2 q2 he he' e1 e2
            obtain ⟨w7, hw7⟩ : ∃ w7, w7 = w6.alloc (.cells (rcC r (.slice A3 r.e.T c3) (.slice A3' r.e.n c3')) 29) := ⟨_, rfl⟩
            have b7 : Below w6.heap.size w6 w7 := by rw [hw7]; exact (Below.refl _ _).alloc (Nat.le_refl _) _
            have F7 : Fr T6 T6 (fun _ => False) w6 w7 := Fr.calm b7 fun _ _ => rfl
            have R7 := Lib.hid (show row w7 w6.heap.size = some (rcC r (.slice A3 r.e.T c3) (.slice A3' r.e.n c3')) by rw [hw7]; exact row_alloc_at _ _ _ _ rfl)
            have O7 := Lib.hid (O6.out.fr rcEl_ok F7 (fun e => e) (fun e => e))
            have EL7 := Lib.hid (rcEl_ok.fr EL6.out F7 (fun e => e))
            have B7 := Lib.hid (onto B6.out B6.out.size b7)
            have x6 := X6.out
            obtain ⟨xs, hx1, hx2⟩ := O7.out.own
            have HX1 := Lib.hid hx1
            have HX2 := Lib.hid hx2
            have hLL : l.length ≤ 1000000000 := by have := len_le l; have := HL.out; omega
            clear b7 F7 hx1 hx2 O6 EL6 B6
            go_wp2_with (at_builtin; simp only [← hw7]; refine wpl_appSt rfl (.tmp 65) (.tmp 67) rfl rcs_u rc_info (rc_size _ _ _) (by decide) (by decide) HX1.out (p := w6.heap.size) (by rw [Array.toArray_toList]; exact R7.out) (by rw [Array.length_toList, rc_size]) (rcEl_ok.one EL7.out) hLL rfl (by simp [Act.eval]) ?_; intro v8 w8 ho8 hg8 ht8)
            have F8 : Fr T6 (paint T6 w7.heap.size 1) (fun c => c = 1) w7 w8 := Fr.grown hg8 (fun g hg => O7.out.tg g hg) 1
            have hL2 : lnS (l ++ [r]) = LP := by rw [lnS_app, ← HL.out, HLP.out, HPL.out]; rfl
            refine ⟨⟨paint T6 w7.heap.size 1, l ++ [r], by rw [hL2], O7.out.one rcEl_ok ho8 hg8 ht8 (rcEl_ok.fr EL7.out F8 (by omega)) (by omega) HX1.out HX2.out, HST.out.snoc (by rw [← HL.out, ← HFF.out]; exact HSD.out), B7.out.trans (F8.below B7.out.size fun k hk => by rw [TT6.out k hk]; omega), fun k hk => by rw [F8.tag k (by have := B7.out.size; omega)]; exact TT6.out k hk⟩, ?_⟩
            have hpp := pcL_pos r
            rw [← HPL.out] at hpp
            have hlp := HLP.out
            simp [intOf]
            omega
          · have he : (S1.toList == S2.toList) = false := by
              rw [hS1, hS2]
              cases h : teqB PL PL (pcF r) F with
              | true => exact absurd h heq
              | false => exact h
            have he' : (S1.toList != S2.toList) = true := by unfold bne; rw [he]; rfl
            have HNF := Lib.hid (show ¬ fsK D F from fun h => heq (teq_iff.2 ⟨rfl, fun i hi => ((HFS.out.1 h).2.2 i hi).symm⟩))
            have HS1 := Lib.hid hS1
            have HS2 := Lib.hid hS2
            clear heq hS1 hS2
            go_wp2_with fail
            refine flow_seen [] [0, 1, 2, 3, 4, 5, 6, 7, 8, 9, 10, 11, 12, 13, 14, 15, 16, 17, 18, 19, 20, 21, 22, 23] (by kernel_rfl) (by kernel_rfl) (fun _ _ _ _ _ h => h) fun Z => ?_
            have cv1 : ∀ x : After Z.val, (convert 22 9 (.slice A5 PL c5)).run Tryz.prog x.val = .ok (.string S1) x.val := fun x => by rw [HS1.out]; exact conv_sl ((S5.out.below Z.below).more Z.below.size |>.below x.below)
            have cv2 : ∀ x : After Z.val, (convert 22 9 (.slice (cutA A c L) PL (c - L))).run Tryz.prog x.val = .ok (.string S2) x.val := fun x => by rw [HS2.out]; exact conv_sl ((S6.out.below Z.below).more Z.below.size |>.below x.below)
            obtain ⟨A4, c4, hv, hrs, -⟩ := (O5.out.fr rcEl_ok (Fr.new (H := fun _ => False) Z.below 0) (fun e => e) (fun e => e)).rcs
            subst hv
            have HRS := Lib.hid hrs
            have BF := Lib.hid (onto B1.out B1.out.size (onto B5.out B5.out.size Z.below))
            obtain ⟨w6, hw6⟩ : ∃ w6, w6 = Z.val := ⟨_, rfl⟩
            rw [← hw6] at cv1 cv2 HRS BF ⊢
            clear hw6 hrs Z O5 S5 S6
            simp only [wpFs, pk, List.getElem?_cons_zero, List.getElem?_cons_succ]
            repeat (go_big_quiet_step (fail))
            refine wpQuiet_nil ?_
            clear cv1 cv2 q2
            go_wp2_with fail
            exact bodyPost_ret (v := .tuple #[.slice A4 l.length c4, .int .i64 (L : Nat)]) (by simp [results, Tryz.results29, go_sem]) rfl ⟨BF.out, l, A4, c4, by rw [HL.out], ⟨HST.out, by rw [← HL.out, ← HFF.out, ← HD.out]; exact HNF.out⟩, HRS.out⟩
end Go.Proofs.YtdfcldomjjcidaaGreatDoor.Oct
