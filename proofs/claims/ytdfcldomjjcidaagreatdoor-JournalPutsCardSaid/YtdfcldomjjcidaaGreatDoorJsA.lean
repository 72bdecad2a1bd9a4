/- Contracts: the reference's in, Frames, SameEntry with nothing. -/
import Derived.Test.YtdfcldomjjcidaaGreatDoorJrU
import Derived.Test.YtdfcldomjjcidaaGreatDoorJrZs
import Derived.Test.YtdfcldomjjcidaaGreatDoorShaT
namespace Go.Proofs.YtdfcldomjjcidaaGreatDoor.Oct
open Go.ChangeShapes Go.WideShapes Go.ChangeAt Go.RowKit
set_option linter.unusedVariables false

theorem rin_any (x : Int) (w : World) : Calls Tryz.prog 51 #[.int .i64 x] w fun e w' => e = .returned (.bool (decide (nIn x))) ∧ w = w' := by
  by_cases h0 : 0 ≤ x
  · by_cases h1 : x ≤ 1099511627776
    · have d0 : decide (0 ≤ x) = true := decide_eq_true h0
      have d1 : decide (x ≤ 1099511627776) = true := decide_eq_true h1
      have HD := Lib.hid (show decide (nIn x) = true from decide_eq_true ⟨h0, h1⟩)
      clear h0 h1
      go_enter Tryz.func51, Tryz.ntmps51
      go_wp2_with fail
      go_ret
      exact ⟨by rw [HD.out]; rfl, rfl⟩
    · have d0 : decide (0 ≤ x) = true := decide_eq_true h0
      have d1 : decide (x ≤ 1099511627776) = false := decide_eq_false h1
      have HD := Lib.hid (show decide (nIn x) = false from decide_eq_false fun h => h1 h.2)
      clear h0 h1
      go_enter Tryz.func51, Tryz.ntmps51
      go_wp2_with fail
      go_ret
      exact ⟨by rw [HD.out]; rfl, rfl⟩
  · have d0 : decide (0 ≤ x) = false := decide_eq_false h0
    have HD := Lib.hid (show decide (nIn x) = false from decide_eq_false fun h => h0 h.1)
    clear h0
    go_enter Tryz.func51, Tryz.ntmps51
    go_wp2_with fail
    go_ret
    exact ⟨by rw [HD.out]; rfl, rfl⟩
set_option maxRecDepth 20000 in
set_option maxHeartbeats 2000000 in
theorem rframes_any (n c cK : Nat) (A AK : Option Addr) (f : Bf) (w : World) (hs : Sl w w.heap.size A n c f) (hK : SlG w w.heap.size AK 64 cK kV) :
    Calls Tryz.prog 7 #[.agg (tbA (.slice AK 64 cK) iF), .slice A n c] w (cmP (frE n) (frL n) (frF n f) w) := by
  obtain ⟨w1, hw1⟩ : ∃ w1, w1 = w.alloc (.cells (tbA (.slice AK 64 cK) iF) 39) := ⟨_, rfl⟩
  have b1 : Below w.heap.size w w1 := by rw [hw1]; exact (Below.refl _ _).alloc (Nat.le_refl _) _
  have R1 := Lib.hid (show row w1 w.heap.size = some (tbA (.slice AK 64 cK) iF) by rw [hw1]; exact row_alloc_at _ _ _ _ rfl)
  have B1 := Lib.hid b1
  by_cases h4 : 4096 < n
  · have H1 := Lib.hid (rputt_long 0 0 n c none A w1 h4)
    have HE := Lib.hid (show frE n = 2 by unfold frE; rw [if_pos h4])
    clear h4 hs b1 hK
    go_enter Tryz.func7, Tryz.ntmps7
    go_upto_region 1 with fail
    simp only [← hw1]
    clear hw1
    go_wp2_with fail
    refine H1.out.mono ?_
    rintro e w2 ⟨rfl, rfl⟩
    go_wp2_with fail
    exact bodyPost_ret (v := .tuple #[.slice none 0 0, .int .i64 2]) (by simp [results, Tryz.results7, go_sem]) rfl (.inl ⟨by rw [HE.out]; omega, by rw [HE.out]; rfl, B1.out⟩)
  · have h4' : n ≤ 4096 := by omega
    have H1 := Lib.hid (rputt_any 0 0 n c none A nF f w1 (sl_none _ _) ((hs.below b1).more b1.size) (by omega) h4')
    have HE := Lib.hid (show frE n = 0 by unfold frE; rw [if_neg h4])
    have HS := Lib.hid ((hs.below b1).more b1.size)
    have HK := Lib.hid ((hK.below b1).more b1.size)
    clear h4 hs b1 hK
    go_enter Tryz.func7, Tryz.ntmps7
    go_upto_region 1 with fail
    simp only [← hw1]
    clear hw1
    go_wp2_with fail
    refine H1.out.mono ?_
    rintro e w2 ⟨v2, rfl, ho2, hb2⟩
    rw [Nat.zero_add, catF_zero] at ho2
    have O2 := Lib.hid (ho2.base B1.out.size)
    have B2 := Lib.hid (onto B1.out B1.out.size hb2)
    have r2 := carry hb2 R1.out
    have H2 := Lib.hid (rsum_any f n c cK A AK w2 ((HS.out.below hb2).more hb2.size) (by omega) ((HK.out.below hb2).more hb2.size))
    clear ho2 hb2 H1 HS HK
    go_wp2_with fail
    refine H2.out.mono ?_
    rintro e w3 ⟨rfl, hb3⟩
    have O3 := Lib.hid (O2.out.below hb3 (Nat.le_refl _))
    have B3 := Lib.hid (onto B2.out B2.out.size hb3)
    clear hb3 H2 O2 B2 r2
    obtain ⟨w4, hw4⟩ : ∃ w4, w4 = w3.alloc (.cells (ba 32 (shaF kF iF f n)) 56) := ⟨_, rfl⟩
    have q4 : row w4 w3.heap.size = some (ba 32 (shaF kF iF f n)) := by rw [hw4]; exact row_alloc_at _ _ _ _ rfl
    have O4 := Lib.hid (show Own w4 w.heap.size 5 v2 (txL n) (txF n f) by rw [hw4]; exact O3.out.alloc _)
    have B4 := Lib.hid (show Below w.heap.size w w4 by rw [hw4]; exact B3.out.alloc B3.out.size _)
    have S4 := Lib.hid (show Sl w4 w4.heap.size (some ⟨w3.heap.size, 0, none⟩) 4 32 (shaF kF iF f n) from (Sl.of_row q4 _ (row_lt q4)).upto 4 (by omega))
    have h9 : txL n ≤ 4105 := by have := txL_le n; omega
    clear O3 B3 q4
    go_upto_region 5 with fail
    simp only [← hw4]
    clear hw4
    go_wp2_with (at_builtin; refine wpl_appB rfl (.tmp 20) (.tmp 21) rfl sli_u u8_info O4.out S4.out (by omega) B4.out.size rfl rfl ?_; intro v5 w5 ho5 hg5 ht5)
    have B5 := O4.out.after hg5 B4.out B4.out.size (Nat.le_refl _)
    exact bodyPost_ret (v := .tuple #[v5, .int .i64 0]) (by simp [results, Tryz.results7, go_sem]) rfl (.inr ⟨HE.out, v5, rfl, ho5, B5⟩)
/-- an entry that has nothing -/
def bareB (e : En) : Bool := (e.t == 0) && ((e.k == 0) && (((e.T : Int) == 0) && ((e.n : Int) == 0)))
theorem teqB_zero (T : Nat) (f g : Bf) : teqB T 0 f g = decide (T = 0) := by
  by_cases h : T = 0
  · rw [decide_eq_true h, teq_iff]; exact ⟨h, fun i hi => by omega⟩
  · rw [decide_eq_false h]
    cases he : teqB T 0 f g with
    | false => rfl
    | true => exact absurd (teq_iff.1 he).1 h
set_option maxRecDepth 20000 in
set_option maxHeartbeats 8000000 in
theorem rbare_any (e : En) (A A' : Option Addr) (c c' : Nat) (w : World) (h : EnR w e A c A' c') :
    Calls Tryz.prog 50 #[entV e.t e.k (.slice A e.T c) (.slice A' e.n c'), entV 0 0 nilS nilS] w fun x w' => x = .returned (.bool (bareB e)) ∧ Below w.heap.size w w' := by
  obtain ⟨t, k, T, f, n, x⟩ := e
  obtain ⟨hd, hl⟩ := h
  simp only at hd hl ⊢
  obtain ⟨w1, hw1⟩ : ∃ w1, w1 = (w.alloc (.cells #[.int .i64 t, .int .i64 k, .slice A T c, .slice A' n c'] 27)).alloc (.cells #[.int .i64 0, .int .i64 0, nilS, nilS] 27) := ⟨_, rfl⟩
  have bw : Below w.heap.size w w1 := by rw [hw1]; exact ((Below.refl _ _).alloc (by simp) _).alloc (by simp) _
  have B1 := Lib.hid bw
  have R1 := Lib.hid (show row w1 w.heap.size = some #[.int .i64 t, .int .i64 k, .slice A T c, .slice A' n c'] by rw [hw1]; exact row_alloc (row_alloc_at _ _ _ _ rfl) _)
  have R2 := Lib.hid (show row w1 (w.heap.size + 1) = some #[.int .i64 0, .int .i64 0, nilS, nilS] by rw [hw1]; exact row_alloc_at _ _ _ _ (by simp))
  have cv1 := conv_sl (hd.below bw)
  have cv3 := conv_sl (sl_none w1 nF)
  have he3 : ((strOf T f).toList == (strOf 0 nF).toList) = decide (T = 0) := teqB_zero T f nF
  obtain ⟨S1, hS1⟩ : ∃ x, x = strOf T f := ⟨_, rfl⟩
  obtain ⟨S3, hS3⟩ : ∃ x, x = strOf 0 nF := ⟨_, rfl⟩
  rw [← hS1] at cv1 he3
  rw [← hS3] at cv3 he3
  have hbb : ∀ b0 b1 b2 b3, (t == 0) = b0 → (k == 0) = b1 → ((T : Int) == 0) = b2 → ((n : Int) == 0) = b3 → bareB ⟨t, k, T, f, n, x⟩ = (b0 && (b1 && (b2 && b3))) := by
    rintro _ _ _ _ rfl rfl rfl rfl; rfl
  have HBB := Lib.hid hbb
  clear hS1 hS3 bw hd hl hbb
  go_enter Tryz.func50, Tryz.ntmps50
  go_upto_region 1 with fail
  rw [← hw1]
  clear hw1
  obtain ⟨a0, a1, a2, a3⟩ := cells4 R1.out
  obtain ⟨b0, b1, b2, b3⟩ := cells4 R2.out
  by_cases h0 : t = 0
  · have g0 : (t != 0) = false := by simp [h0]
    have f0 : (t == 0) = true := by simp [h0]
    by_cases h1 : k = 0
    · have g1 : (k != 0) = false := by simp [h1]
      have f1 : (k == 0) = true := by simp [h1]
      by_cases h2 : T = 0
      · have g2 : (S1.toList == S3.toList) = true := by rw [he3]; exact decide_eq_true h2
        have g2' : (S1.toList != S3.toList) = false := by unfold bne; rw [g2]; rfl
        have f2 : ((T : Int) == 0) = true := beq_iff_eq.2 (by omega)
        by_cases h3 : n = 0
        · have g3 : ((n : Int) != 0) = false := by simp [h3]
          have f3 : ((n : Int) == 0) = true := beq_iff_eq.2 (by omega)
          have F := Lib.hid (HBB.out _ _ _ _ f0 f1 f2 f3)
          have h3' := h3
          clear f0 f1 f2 f3 h0 h1 h2 he3 HBB
          subst h3
          go_wp2_with fail
          go_loopw [5] (fun iv wr => iv = .int .i64 0 ∧ wr = w1) (fun _ _ => 0)
          case atStart => exact ⟨rfl, rfl⟩
          case round =>
            obtain ⟨rfl, rfl⟩ := hrel
            go_wp2_with fail
            go_ret
            exact ⟨by rw [F.out]; rfl, B1.out⟩
        · have g3 : ((n : Int) != 0) = true := by rw [bne_iff_ne]; omega
          have g3' : (n != 0) = true := bne_iff_ne.2 h3
          have f3 : ((n : Int) == 0) = false := beq_eq_false_iff_ne.2 (by omega)
          have F := Lib.hid (HBB.out _ _ _ _ f0 f1 f2 f3)
          clear f0 f1 f2 f3 h0 h1 h2 he3 HBB h3
          go_wp2_with fail
          go_ret
          exact ⟨by rw [F.out]; rfl, B1.out⟩
      · have g2 : (S1.toList == S3.toList) = false := by rw [he3]; exact decide_eq_false h2
        have g2' : (S1.toList != S3.toList) = true := by unfold bne; rw [g2]; rfl
        have f2 : ((T : Int) == 0) = false := beq_eq_false_iff_ne.2 (by omega)
        have F := Lib.hid (HBB.out _ _ _ _ f0 f1 f2 rfl)
        clear f0 f1 f2 h0 h1 h2 he3 HBB
        go_wp2_with fail
        go_ret
        exact ⟨by rw [F.out]; rfl, B1.out⟩
    · have g1 : (k != 0) = true := by simp [h1]
      have f1 : (k == 0) = false := by simp [h1]
      have F := Lib.hid (HBB.out _ _ _ _ f0 f1 rfl rfl)
      clear f0 f1 h0 h1 he3 HBB
      go_wp2_with fail
      go_ret
      exact ⟨by rw [F.out]; rfl, B1.out⟩
  · have g0 : (t != 0) = true := by simp [h0]
    have f0 : (t == 0) = false := by simp [h0]
    have F := Lib.hid (HBB.out _ _ _ _ f0 rfl rfl rfl)
    clear f0 h0 he3 HBB
    go_wp2_with fail
    go_ret
    exact ⟨by rw [F.out]; rfl, B1.out⟩
end Go.Proofs.YtdfcldomjjcidaaGreatDoor.Oct
