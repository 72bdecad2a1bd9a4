/- Contract: the reference's Entry. -/
import Derived.Test.YtfpkfbojckgcdaaWiR
namespace Go.Proofs.Ytfpkfbojckgcdaa.Oct
open Go.ChangeShapes Go.WideShapes Go.ChangeAt Go.RowKit
set_option linter.unusedVariables false

theorem rputl_nu (N c n c1 : Nat) (A A1 : Option Addr) (b : Bf) (x : Nat → Int) (w : World) (hs : Sl w w.heap.size A N c b) (hl : SlG w w.heap.size A1 n c1 (iV x)) (hx : ∀ i, i < n → -9223372036854775808 ≤ x i ∧ x i < 9223372036854775808) (hN : N ≤ 140737488300000) (hn : n ≤ 4096) (hp : nuE x n = 0) :
    Calls Try.prog 46 #[.slice A N c, .slice A1 n c1] w fun e w' => ∃ v, e = .returned (.tuple #[v, .int .i64 0]) ∧ Own w' w.heap.size 5 v (N + lsL (natS x) n n) (catF N b (lsF (natS x) n n)) ∧ Below w.heap.size w w' := by
  refine (rputl_any N c n c1 A A1 b x w hs hl hx hN hn).mono ?_
  rintro e w' (⟨h, -, -⟩ | ⟨-, h⟩)
  · have := nuE_of_neg h
    omega
  · exact h
set_option maxRecDepth 20000 in
set_option maxHeartbeats 8000000 in
theorem rentry_any (t k : Int) (x : Nat → Int) (T n c c' : Nat) (A A' : Option Addr) (f : Bf) (w : World) (hf : Sl w w.heap.size A T c f) (hg : SlG w w.heap.size A' n c' (iV x)) (hb : ∀ j, -9223372036854775808 ≤ th2 t k j ∧ th2 t k j < 9223372036854775808)
    (hx : ∀ i, i < n → -9223372036854775808 ≤ x i ∧ x i < 9223372036854775808) (hn : n ≤ 9223372036854775807) :
    Calls Try.prog 24 #[entV t k (.slice A T c) (.slice A' n c')] w (cmP (enE t k x T n) (entL t k x T n) (entF t k x T n f) w) := by
  have R0 := Lib.hid (show row (w.alloc (.cells #[.int .i64 t, .int .i64 k, .slice A T c, .slice A' n c'] 43)) w.heap.size = some #[.int .i64 t, .int .i64 k, .slice A T c, .slice A' n c'] from row_alloc_at _ _ _ _ rfl)
  have B0 := Lib.hid (show Below w.heap.size w (w.alloc (.cells #[.int .i64 t, .int .i64 k, .slice A T c, .slice A' n c'] 43)) from (Below.refl _ _).alloc (by simp) _)
  have hz0 : w.heap.size ≤ (w.alloc (.cells #[.int .i64 t, .int .i64 k, .slice A T c, .slice A' n c'] 43)).heap.size := by simp
  have HF := Lib.hid ((hf.below B0.out).more hz0)
  have HG := Lib.hid ((hg.below B0.out).more hz0)
  have HB0 := Lib.hid (show _ ≤ t ∧ t < _ from hb 0)
  have HB1 := Lib.hid (show _ ≤ k ∧ k < _ from hb 1)
  have HX := Lib.hid hx
  have HN := Lib.hid hn
  obtain ⟨E, hE⟩ : ∃ E, E = enE t k x T n := ⟨_, rfl⟩
  rw [← hE]
  unfold enE at hE
  obtain ⟨b1, hb1⟩ : ∃ b, b = inB 0 1099511627776 t := ⟨_, rfl⟩
  obtain ⟨b2, hb2⟩ : ∃ b, b = inB 0 2 k := ⟨_, rfl⟩
  rw [← hb1, ← hb2] at hE
  have HE := Lib.hid hE
  have HB2 := Lib.hid hb1
  have HB3 := Lib.hid hb2
  clear hf hg hb hx hE hb1 hb2 hn
  obtain ⟨w1, hw1⟩ : ∃ w1, w1 = w.alloc (.cells #[.int .i64 t, .int .i64 k, .slice A T c, .slice A' n c'] 43) := ⟨_, rfl⟩
  rw [← hw1] at R0 B0 hz0 HF HG
  have hcs := cells4 R0.out
  go_enter Try.func24, Try.ntmps24
  go_upto_region 1 with fail
  rw [← hw1]
  clear hw1
  obtain ⟨c0, c1, c2, c3⟩ := hcs
  go_cut [4] (fun y wx => y = .bool (b1 && b2) ∧ wx = w1)
  case first =>
    by_cases h0 : 0 ≤ t
    · have hd0 : decide (0 ≤ t) = true := by simp; omega
      by_cases h1 : t ≤ 1099511627776
      · have hd1 : decide (t ≤ 1099511627776) = true := by simp; omega
        have F1 := Lib.hid (show b1 = true by rw [HB2.out]; unfold inB; rw [hd0, hd1]; rfl)
        by_cases h2 : 0 ≤ k
        · have hd2 : decide (0 ≤ k) = true := by simp; omega
          by_cases h3 : k ≤ 2
          · have hd3 : decide (k ≤ 2) = true := by simp; omega
            have F2 := Lib.hid (show b2 = true by rw [HB3.out]; unfold inB; rw [hd2, hd3]; rfl)
            clear h0 h1 h2 h3
            go_wp2_with fail
            go_meet
            exact ⟨by rw [F1.out, F2.out]; rfl, rfl⟩
          · have hd3 : decide (k ≤ 2) = false := by simp; omega
            have F2 := Lib.hid (show b2 = false by rw [HB3.out]; unfold inB; rw [hd2, hd3]; rfl)
            clear h0 h1 h2 h3
            go_wp2_with fail
            go_meet
            exact ⟨by rw [F1.out, F2.out]; rfl, rfl⟩
        · have hd2 : decide (0 ≤ k) = false := by simp; omega
          have F2 := Lib.hid (show b2 = false by rw [HB3.out]; unfold inB; rw [hd2]; rfl)
          clear h0 h1 h2
          go_wp2_with fail
          go_meet
          exact ⟨by rw [F1.out, F2.out]; rfl, rfl⟩
      · have hd1 : decide (t ≤ 1099511627776) = false := by simp; omega
        have F1 := Lib.hid (show b1 = false by rw [HB2.out]; unfold inB; rw [hd0, hd1]; rfl)
        clear h0 h1
        go_wp2_with fail
        go_meet
        exact ⟨by rw [F1.out]; rfl, rfl⟩
    · have hd0 : decide (0 ≤ t) = false := by simp; omega
      have F1 := Lib.hid (show b1 = false by rw [HB2.out]; unfold inB; rw [hd0]; rfl)
      clear h0
      go_wp2_with fail
      go_meet
      exact ⟨by rw [F1.out]; rfl, rfl⟩
  case rest =>
  obtain ⟨rfl, hwc⟩ := hcut
  rw [hwc]
  clear hwc wc
  obtain ⟨O, hO⟩ : ∃ O, O = (b1 && b2) := ⟨_, rfl⟩
  rw [← hO]
  have HO := Lib.hid hO
  clear hO
  go_wp2_with fail
  go_loopw [4, 5] (fun ov iv wr => ∃ j : Nat, j ≤ n ∧ ov = .bool (O && decide (nuE x j = 0)) ∧ iv = .int .i64 (j : Int) ∧ wr = w1) (fun _ iv _ => n - (intOf iv).toNat)
  case atStart => exact ⟨0, by omega, by cases O <;> rfl, rfl, rfl⟩
  case round =>
    obtain ⟨j, hj, rfl, rfl, rfl⟩ := hrel
    obtain ⟨wo, rfl⟩ : ∃ wo : World, wo = wr := ⟨_, rfl⟩
    obtain ⟨Q, hQ⟩ : ∃ Q, Q = (O && decide (nuE x j = 0)) := ⟨_, rfl⟩
    rw [← hQ]
    have HQ := Lib.hid hQ
    clear hQ
    by_cases hlt : j < n
    · have hd : decide ((j : Int) < (n : Int)) = true := by simp; omega
      have hjb : j < 9223372036854775807 := by have := HN.out; omega
      obtain ⟨g, o, hA1, hg, hcl⟩ := HG.out.at_ (by omega)
      have hc := hcl j hlt
      unfold iV at hc
      subst hA1
      clear hcl
      obtain ⟨y, hy⟩ : ∃ y, y = x j := ⟨_, rfl⟩
      rw [← hy] at hc
      have HY := Lib.hid hy
      clear hy
      cases Q with
      | false =>
        have F := Lib.hid (show (false : Bool) = (O && decide (nuE x (j + 1) = 0)) by
          have h := HQ.out
          cases O with
          | false => rfl
          | true =>
            have h2 : nuE x j ≠ 0 := by simpa using h.symm
            have h3 : nuE x (j + 1) = nuE x j := fi_stay h2 1
            rw [h3]
            exact h)
        go_wp2_with fail
        go_roundw
        case rel => exact ⟨j + 1, by omega, by rw [← F.out], rfl, trivial⟩
        case measure => simp [intOf]; omega
      | true =>
        have hO : O = true ∧ nuE x j = 0 := by
          have h := HQ.out
          cases O with
          | false => simp at h
          | true => exact ⟨rfl, by simpa using h.symm⟩
        have HOO := Lib.hid hO
        clear hO
        by_cases hp : 0 ≤ y
        · have hdp : decide (0 ≤ y) = true := by simp; omega
          have F := Lib.hid (show (true : Bool) = (O && decide (nuE x (j + 1) = 0)) by
            have h3 : nuE x (j + 1) = 0 := (fi_step HOO.out.2).trans (by unfold neE; rw [if_neg (by rw [← HY.out]; omega)])
            rw [HOO.out.1, h3]; rfl)
          clear hp
          go_wp2_with fail
          go_roundw
          case rel => exact ⟨j + 1, by omega, by rw [← F.out], rfl, trivial⟩
          case measure => simp [intOf]; omega
        · have hdp : decide (0 ≤ y) = false := by simp; omega
          have F := Lib.hid (show (false : Bool) = (O && decide (nuE x (j + 1) = 0)) by
            have h3 : nuE x (j + 1) = 1 := (fi_step HOO.out.2).trans (by unfold neE; rw [if_pos (by rw [← HY.out]; omega)])
            rw [HOO.out.1, h3]; rfl)
          clear hp
          go_wp2_with fail
          go_roundw
          case rel => exact ⟨j + 1, by omega, by rw [← F.out], rfl, trivial⟩
          case measure => simp [intOf]; omega
    · have hd : decide ((j : Int) < (n : Int)) = false := by simp; omega
      have hjn : j = n := by omega
      subst hjn
      cases Q with
      | false =>
        have F := Lib.hid (show E = 1 by
          have h := HQ.out
          rw [HE.out]
          rw [HO.out] at h
          cases b1 with
          | false => rfl
          | true => cases b2 with
            | false => rfl
            | true =>
              have h2 : nuE x j ≠ 0 := by simpa using h.symm
              rw [if_neg (by simp), if_neg (by simp), if_pos h2])
        go_wp2_with fail
        exact bodyPost_ret (v := .tuple #[.slice none 0 0, .int .i64 1]) (by simp [results, Try.results24, go_sem]) rfl (.inl ⟨by rw [F.out]; omega, by rw [F.out]; rfl, B0.out⟩)
      | true =>
        have hO : b1 = true ∧ b2 = true ∧ nuE x j = 0 := by
          have h := HQ.out
          rw [HO.out] at h
          cases b1 with
          | false => simp at h
          | true => cases b2 with
            | false => simp at h
            | true => exact ⟨rfl, rfl, by simpa using h.symm⟩
        have HE2 := Lib.hid (show E = if 4096 < T then 2 else if 7 < j then 2 else 0 by rw [HE.out, hO.1, hO.2.1, if_neg (by simp), if_neg (by simp), if_neg (by simp [hO.2.2])])
        have HP := Lib.hid hO.2.2
        have ht0 : 0 ≤ t ∧ 0 ≤ k := by
          have h1 := HB2.out
          have h2 := HB3.out
          rw [hO.1] at h1
          rw [hO.2.1] at h2
          unfold inB at h1 h2
          have h1 := h1.symm
          have h2 := h2.symm
          simp at h1 h2
          omega
        clear hO
        by_cases hT : 4096 < T
        · have hdT : decide (4096 < (T : Int)) = true := by simp; omega
          have F := Lib.hid (show E = 2 by rw [HE2.out, if_pos hT])
          clear hT ht0
          go_wp2_with fail
          exact bodyPost_ret (v := .tuple #[.slice none 0 0, .int .i64 2]) (by simp [results, Try.results24, go_sem]) rfl (.inl ⟨by rw [F.out]; omega, by rw [F.out]; rfl, B0.out⟩)
        · have hdT : decide (4096 < (T : Int)) = false := by simp; omega
          by_cases h7 : 7 < j
          · have hd7 : decide (7 < (j : Int)) = true := by simp; omega
            have F := Lib.hid (show E = 2 by rw [HE2.out, if_neg hT, if_pos h7])
            clear hT h7 ht0
            go_wp2_with fail
            exact bodyPost_ret (v := .tuple #[.slice none 0 0, .int .i64 2]) (by simp [results, Try.results24, go_sem]) rfl (.inl ⟨by rw [F.out]; omega, by rw [F.out]; rfl, B0.out⟩)
          · have hd7 : decide (7 < (j : Int)) = false := by simp; omega
            have F := Lib.hid (show E = 0 by rw [HE2.out, if_neg hT, if_neg h7])
            obtain ⟨a, rfl⟩ : ∃ a : Nat, t = a := ⟨t.toNat, by omega⟩
            obtain ⟨b, rfl⟩ : ∃ a : Nat, k = a := ⟨k.toNat, by omega⟩
            have ha : a < 9223372036854775808 := by have := HB0.out.2; omega
            have hb : b < 9223372036854775808 := by have := HB1.out.2; omega
            have hT4 : T ≤ 4096 := by omega
            have hj4 : j ≤ 4096 := by omega
            clear hT h7 ht0 HB0 HB1 HE2 HQ HO HB2 HB3 HE
            have H1 := Lib.hid (rput_any a 0 0 none nF wo (Sl.nothing _ _ _ _ _) (by omega) ha)
            go_wp2_with fail
            refine H1.out.mono ?_
            rintro e w1 ⟨v1, rfl, ho, hb1⟩
            rw [Nat.zero_add, catF_zero] at ho
            obtain ⟨A1, c1', hv1, hs1, -, -⟩ := ho.sl
            subst hv1
            have B1 := Lib.hid (onto B0.out hz0 hb1)
            have R1 := Lib.hid (carry hb1 R0.out)
            have F1 := Lib.hid ((HF.out.below hb1).more hb1.size)
            have G1 := Lib.hid ((HG.out.below hb1).more hb1.size)
            have hla := encL_le a
            have H2 := Lib.hid (rput_any b (encL a) c1' A1 (encF a) w1 hs1 (by omega) hb)
            clear ho hs1 hb1 H1 B0 R0 HF HG c0 c1 c2 c3
            obtain ⟨c0, c1, c2, c3⟩ := cells4 R1.out
            go_wp2_with fail
            refine H2.out.mono ?_
            rintro e w2 ⟨v2, rfl, ho, hb2⟩
            obtain ⟨A2, c2', hv2, hs2, -, -⟩ := ho.sl
            subst hv2
            have B2 := Lib.hid (onto B1.out B1.out.size hb2)
            have R2 := Lib.hid (carry hb2 R1.out)
            have F2 := Lib.hid ((F1.out.below hb2).more hb2.size)
            have G2 := Lib.hid ((G1.out.below hb2).more hb2.size)
            have hlb := encL_le b
            have H3 := Lib.hid (rputt_any (encL a + encL b) c2' T c A2 A _ f w2 hs2 F2.out (by omega) hT4)
            clear ho hs2 hb2 H2 B1 R1 F1 G1 c0 c1 c2 c3
            obtain ⟨c0, c1, c2, c3⟩ := cells4 R2.out
            go_wp2_with fail
            refine H3.out.mono ?_
            rintro e w3 ⟨v3, rfl, ho, hb3⟩
            obtain ⟨A3, c3', hv3, hs3, -, -⟩ := ho.sl
            subst hv3
            have B3 := Lib.hid (onto B2.out B2.out.size hb3)
            have R3 := Lib.hid (carry hb3 R2.out)
            have G3 := Lib.hid ((G2.out.below hb3).more hb3.size)
            have htx := txL_le T
            have H4 := Lib.hid (rputl_nu (encL a + encL b + txL T) c3' j c' A3 _ _ x w3 hs3 G3.out HX.out (by omega) hj4 HP.out)
            clear ho hs3 hb3 H3 B2 R2 G2 F2 c0 c1 c2 c3
            obtain ⟨c0, c1, c2, c3⟩ := cells4 R3.out
            go_wp2_with fail
            refine H4.out.mono ?_
            rintro e w4 ⟨v4, rfl, ho, hb4⟩
            have B4 := Lib.hid (onto B3.out B3.out.size hb4)
            have O4 := Lib.hid (ho.base B3.out.size)
            clear ho hb4 H4 c0 c1 c2 c3
            go_wp2_with fail
            refine bodyPost_ret (v := .tuple #[v4, .int .i64 0]) (by simp [results, Try.results24, go_sem]) rfl (.inr ⟨F.out, _, rfl, ?_, B4.out⟩)
            have o := O4.out
            have e1 : nuL (th2 (a : Int) b) 2 = encL a + encL b := by
              show (0 + encL (a : Int).toNat) + encL (b : Int).toNat = _
              simp
            have e2 : nuF (th2 (a : Int) b) 2 = catF (encL a) (encF a) (encF b) := by
              show catF (0 + encL (a : Int).toNat) (catF 0 nF (encF (a : Int).toNat)) (encF (b : Int).toNat) = _
              simp only [Int.toNat_natCast, Nat.zero_add, catF_zero]
            unfold entL entF
            rw [e1, e2]
            exact o
end Go.Proofs.Ytfpkfbojckgcdaa.Oct
