/- Contracts: the reference's Command, Reply. -/
import Derived.Test.YtfpkfbojckgcdaaWiH
import Derived.Test.YtfpkfbojckgcdaaWiI
namespace Go.Proofs.Ytfpkfbojckgcdaa.Oct
open Go.ChangeShapes Go.WideShapes Go.ChangeAt Go.RowKit
set_option linter.unusedVariables false

set_option maxRecDepth 20000 in
set_option maxHeartbeats 8000000 in
theorem rcommand_any (k s q i n : Int) (T U c c' : Nat) (A A' : Option Addr) (f g : Bf) (w : World) (hf : Sl w w.heap.size A T c f) (hg : Sl w w.heap.size A' U c' g) (hb : ∀ j, -9223372036854775808 ≤ comN k s q i n j ∧ comN k s q i n j < 9223372036854775808) :
    Calls Try.prog 12 #[comV k s q i n (.slice A T c) (.slice A' U c')] w (cmP (chkE k s q i n T U) (comL k s q i n T U) (comF k s q i n T U f g) w) := by
  have R0 := Lib.hid (show row (w.alloc (.cells #[.int .i64 k, .int .i64 s, .int .i64 q, .int .i64 i, .int .i64 n, .slice A T c, .slice A' U c'] 24)) w.heap.size = some #[.int .i64 k, .int .i64 s, .int .i64 q, .int .i64 i, .int .i64 n, .slice A T c, .slice A' U c'] from row_alloc_at _ _ _ _ rfl)
  have B0 := Lib.hid (show Below w.heap.size w (w.alloc (.cells #[.int .i64 k, .int .i64 s, .int .i64 q, .int .i64 i, .int .i64 n, .slice A T c, .slice A' U c'] 24)) from (Below.refl _ _).alloc (by simp) _)
  have hz0 : w.heap.size ≤ (w.alloc (.cells #[.int .i64 k, .int .i64 s, .int .i64 q, .int .i64 i, .int .i64 n, .slice A T c, .slice A' U c'] 24)).heap.size := by simp
  have HF := Lib.hid hf
  have HG := Lib.hid hg
  have HB := Lib.hid hb
  obtain ⟨E, hE⟩ : ∃ E, E = chkE k s q i n T U := ⟨_, rfl⟩
  have HE := Lib.hid hE
  have HC := Lib.hid (fun w => rchk_any k s q i n T U c c' A A' w (hb 4).2)
  rw [← hE] at HC ⊢
  clear hf hg hb hE
  go_enter Try.func12, Try.ntmps12
  go_wp2_with fail
  refine (HC.out _).mono ?_
  rintro e w1 ⟨rfl, hb1⟩
  have B1 := Lib.hid (onto B0.out hz0 hb1)
  have R1 := Lib.hid (carry hb1 R0.out)
  clear hb1 R0 B0 hz0 HC
  by_cases h0 : E = 0
  · have HZ := Lib.hid (show chkE k s q i n T U = 0 by rw [← HE.out]; exact h0)
    obtain ⟨p0, p1, p2, p3, p4, pT, pU⟩ := chk_ok HZ.out
    subst h0
    have F1 := Lib.hid ((HF.out.below B1.out).more B1.out.size)
    have G1 := Lib.hid ((HG.out.below B1.out).more B1.out.size)
    have hp : ∀ j, j < 5 → 0 ≤ comN k s q i n j := fun j hj => by
      have : j = 0 ∨ j = 1 ∨ j = 2 ∨ j = 3 ∨ j = 4 := by omega
      rcases this with rfl | rfl | rfl | rfl | rfl
      · exact p0
      · exact p1
      · exact p2
      · exact p3
      · exact p4
    have HP := Lib.hid hp
    clear HF HG p0 p1 p2 p3 p4 hp
    obtain ⟨c0, c1, c2, c3, c4, c5, c6⟩ := cells7 R1.out
    have hx := row_lt R1.out
    have hzB := B1.out.size
    go_wp2_with fail
    obtain ⟨w2, hw2⟩ : ∃ w2, w2 = (w1.alloc (.cells #[] 5)).alloc (.cells #[.int .i64 k, .int .i64 s, .int .i64 q, .int .i64 i, .int .i64 n] 3) := ⟨_, rfl⟩
    have bx : Below w1.heap.size w1 w2 := by rw [hw2]; exact ((Below.refl _ _).alloc (by simp) _).alloc (by simp) _
    have O2 := Lib.hid (show Own w2 w.heap.size 5 (.slice (some ⟨w1.heap.size, 0, none⟩) 0 0) 0 (nuF (comN k s q i n) 0) by rw [hw2]; exact (Own.empty w1 w.heap.size 5 _ hzB).alloc _)
    have L2 := Lib.hid (show SlG w2 w2.heap.size (some ⟨w1.heap.size + 1, 0, none⟩) 5 5 (iV (comN k s q i n)) by
      rw [hw2]
      refine slG_row (row_alloc_at _ _ _ _ (by simp)) (by simp) (Nat.le_refl _) fun j hj => ?_
      have : j = 0 ∨ j = 1 ∨ j = 2 ∨ j = 3 ∨ j = 4 := by omega
      rcases this with rfl | rfl | rfl | rfl | rfl <;> rfl)
    have B2 := Lib.hid (onto B1.out B1.out.size bx)
    have R2 := Lib.hid (carry bx R1.out)
    have F2 := Lib.hid ((F1.out.below bx).more bx.size)
    have G2 := Lib.hid ((G1.out.below bx).more bx.size)
    rw [← hw2]
    clear c0 c1 c2 c3 c4 c5 c6 hw2 F1 G1 R1 bx hx
    obtain ⟨x, hx⟩ : ∃ x, x = comN k s q i n := ⟨_, rfl⟩
    rw [← hx] at O2 L2 HP HB
    have HXX := Lib.hid hx
    clear hx
    go_loopw [5, 7] (fun bv iv wr => ∃ j : Nat, j ≤ 5 ∧ iv = .int .i64 (j : Int) ∧ Own wr w.heap.size 5 bv (nuL x j) (nuF x j) ∧ Below w2.heap.size w2 wr) (fun _ iv _ => 5 - (intOf iv).toNat)
    case atStart => exact ⟨0, by omega, rfl, O2.out, Below.refl _ _⟩
    case round =>
      clear O2
      obtain ⟨j, hj, rfl, ho, hbl⟩ := hrel
      obtain ⟨wo, rfl⟩ : ∃ wo : World, wo = wr := ⟨_, rfl⟩
      obtain ⟨Ab, cb, hv, hsl, -, -⟩ := ho.sl
      subst hv
      have HO := Lib.hid ho
      have HSL := Lib.hid hsl
      have HBL := Lib.hid hbl
      have hz := hbl.size
      have hl9 := nuL_le x j
      have hz2 := B2.out.size
      clear ho hsl hbl
      by_cases hlt : j < 5
      · have hd : decide ((j : Int) < 5) = true := by simp; omega
        obtain ⟨g0, o0, hA, hg0, hcl⟩ := (L2.out.below HBL.out).at_ (by omega)
        have hc := hcl j hlt
        unfold iV at hc
        clear hcl
        obtain ⟨m, hm⟩ : ∃ m : Nat, x j = m := ⟨(x j).toNat, by have := HP.out j hlt; omega⟩
        rw [hm] at hc
        have HM := Lib.hid (show (x j).toNat = m by rw [hm]; rfl)
        have hmb : m < 9223372036854775808 := by have := (HB.out j).2; omega
        have H2 := Lib.hid (rput_any m (nuL x j) cb Ab (nuF x j) wo HSL.out (by omega) hmb)
        have e1 : w1.heap.size + 1 = g0 := congrArg Addr.block (Option.some.inj hA)
        have e2 : 0 = o0 := congrArg Addr.off (Option.some.inj hA)
        subst e1 e2
        rw [Nat.zero_add] at hc
        clear hm hA HP HB hmb
        go_wp2_with fail
        refine H2.out.mono ?_
        rintro e w3 ⟨v3, rfl, ho3, hb3⟩
        have O4 := Lib.hid (show Own w3 w.heap.size 5 v3 (nuL x (j + 1)) (nuF x (j + 1)) by
          have e1 := cu_cat (fun i => encL (x i).toNat) (fun i => encF (x i).toNat) 0 j nF
          simp only [HM.out, Nat.zero_add, catF_zero] at e1
          rw [show nuL x (j + 1) = nuL x j + encL m by show cuL _ (j + 1) = _; rw [cuL]; simp only [HM.out]]
          refine (Own.base ho3 (by omega)).congr fun i _ => ?_
          rw [e1])
        have B4 := Lib.hid (onto HBL.out hz hb3)
        clear H2 hc ho3 hb3 HSL HO HBL
        go_wp2_with fail
        go_roundw
        case rel => exact ⟨j + 1, by omega, rfl, O4.out, B4.out⟩
        case measure => simp [intOf]; omega
      · have hd : decide ((j : Int) < 5) = false := by simp; omega
        have hjn : j = 5 := by omega
        subst hjn
        have B3 := Lib.hid (onto B2.out hz2 HBL.out)
        have q := cells7 (carry HBL.out R2.out)
        obtain ⟨c0, c1, c2, c3, c4, c5, c6⟩ := q
        have R3 := Lib.hid (carry HBL.out R2.out)
        have F3 := Lib.hid ((F2.out.below HBL.out).more hz)
        have G3 := Lib.hid ((G2.out.below HBL.out).more hz)
        have H2 := Lib.hid (rputt_any (nuL x 5) cb T c Ab A (nuF x 5) f wo HSL.out F3.out (by omega) (by omega))
        clear HP HB R2 F2 G2 HBL B2
        go_wp2_with fail
        refine H2.out.mono ?_
        rintro e w3 ⟨v3, rfl, ho3, hb3⟩
        obtain ⟨A3, c3', hv3, hs3, -, -⟩ := ho3.sl
        subst hv3
        clear c0 c1 c2 c3 c4 c5 c6 F3 H2
        obtain ⟨c0, c1, c2, c3, c4, c5, c6⟩ := cells7 (carry hb3 R3.out)
        have B4 := Lib.hid (onto B3.out B3.out.size hb3)
        have S4 := Lib.hid hs3
        have hT9 := txL_le T
        have H3 := Lib.hid (rputt_any (nuL x 5 + txL T) c3' U c' A3 A' _ g w3 hs3 ((G3.out.below hb3).more hb3.size) (by omega) (by omega))
        clear ho3 hb3 hs3 R3 G3 B3
        go_wp2_with fail
        refine H3.out.mono ?_
        rintro e w5 ⟨v5, rfl, ho5, hb5⟩
        have O5 := Lib.hid (ho5.base B4.out.size)
        have B5 := Lib.hid (onto B4.out B4.out.size hb5)
        clear c0 c1 c2 c3 c4 c5 c6 H3 ho5 hb5
        go_wp2_with fail
        exact bodyPost_ret (v := .tuple #[v5, .int .i64 0]) (by simp [results, Try.results12, go_sem]) rfl (.inr ⟨rfl, _, rfl, by unfold comL comF; rw [← HXX.out]; exact O5.out, B5.out⟩)
  · have hne : ((E : Int) != 0) = true := by simp; omega
    have H0 := Lib.hid h0
    clear h0 HF HG
    go_wp2_with fail
    exact bodyPost_ret (v := .tuple #[.slice none 0 0, .int .i64 E]) (by simp [results, Try.results12, go_sem]) rfl (.inl ⟨H0.out, rfl, B1.out⟩)

theorem repE_neg {x n m : Int} {T : Nat} (h : x < 0 ∨ n < 0 ∨ m < 0) : repE x n m T = 1 := by
  have h1 : nuE (repN x n m) 3 = 1 := nuE_of_neg (by
    rcases h with h | h | h
    · exact ⟨0, by omega, h⟩
    · exact ⟨1, by omega, h⟩
    · exact ⟨2, by omega, h⟩)
  unfold repE
  have e := fi_first (E := th2 (nuE (repN x n m) 3) (txE T)) (n := 2) (j := 0) rfl (by omega) (by show nuE (repN x n m) 3 ≠ 0; omega)
  rw [e]
  exact h1
theorem repE_pos {x n m : Int} {T : Nat} (h0 : 0 ≤ x) (h1 : 0 ≤ n) (h2 : 0 ≤ m) : repE x n m T = txE T := by
  have h1 : nuE (repN x n m) 3 = 0 := nuE_of_pos fun j hj => by
    have : j = 0 ∨ j = 1 ∨ j = 2 := by omega
    rcases this with rfl | rfl | rfl
    · exact h0
    · exact h1
    · exact h2
  unfold repE
  exact fi_step (E := th2 (nuE (repN x n m) 3) (txE T)) (j := 1) ((fi_step (E := th2 (nuE (repN x n m) 3) (txE T)) (j := 0) rfl).trans h1)
set_option maxRecDepth 20000 in
set_option maxHeartbeats 8000000 in
theorem rreply_any (x n m : Int) (T c : Nat) (A : Option Addr) (f : Bf) (w : World) (hf : Sl w w.heap.size A T c f) (hb : ∀ j, -9223372036854775808 ≤ repN x n m j ∧ repN x n m j < 9223372036854775808) :
    Calls Try.prog 19 #[repV x n m (.slice A T c)] w (ptP (repE x n m T) 0 (repL x n m T) nF (repF x n m T f) w) := by
  have R0 := Lib.hid (show row (w.alloc (.cells #[.int .i64 x, .int .i64 n, .int .i64 m, .slice A T c] 35)) w.heap.size = some #[.int .i64 x, .int .i64 n, .int .i64 m, .slice A T c] from row_alloc_at _ _ _ _ rfl)
  have B0 := Lib.hid (show Below w.heap.size w (w.alloc (.cells #[.int .i64 x, .int .i64 n, .int .i64 m, .slice A T c] 35)) from (Below.refl _ _).alloc (by simp) _)
  have hz0 : w.heap.size ≤ (w.alloc (.cells #[.int .i64 x, .int .i64 n, .int .i64 m, .slice A T c] 35)).heap.size := by simp
  have HF := Lib.hid ((hf.below B0.out).more hz0)
  obtain ⟨E, hE⟩ : ∃ E, E = repE x n m T := ⟨_, rfl⟩
  rw [← hE]
  have HE := Lib.hid hE
  have HB0 := Lib.hid (hb 0)
  have HB1 := Lib.hid (hb 1)
  have HB2 := Lib.hid (hb 2)
  clear hf hb hE
  go_enter Try.func19, Try.ntmps19
  by_cases h0 : x < 0
  · have hd : decide (x < 0) = true := by simp; omega
    have F := Lib.hid (show E = 1 by rw [HE.out]; exact repE_neg (.inl h0))
    clear h0
    go_wp2_with fail
    exact bodyPost_ret (v := .tuple #[.slice none 0 0, .int .i64 1]) (by simp [results, Try.results19, go_sem]) rfl (.inl ⟨by rw [F.out]; omega, by rw [F.out]; rfl, B0.out⟩)
  · have hd : decide (x < 0) = false := by simp; omega
    by_cases h1 : n < 0
    · have hd1 : decide (n < 0) = true := by simp; omega
      have F := Lib.hid (show E = 1 by rw [HE.out]; exact repE_neg (.inr (.inl h1)))
      clear h0 h1
      go_wp2_with fail
      exact bodyPost_ret (v := .tuple #[.slice none 0 0, .int .i64 1]) (by simp [results, Try.results19, go_sem]) rfl (.inl ⟨by rw [F.out]; omega, by rw [F.out]; rfl, B0.out⟩)
    · have hd1 : decide (n < 0) = false := by simp; omega
      by_cases h2 : m < 0
      · have hd2 : decide (m < 0) = true := by simp; omega
        have F := Lib.hid (show E = 1 by rw [HE.out]; exact repE_neg (.inr (.inr h2)))
        clear h0 h1 h2
        go_wp2_with fail
        exact bodyPost_ret (v := .tuple #[.slice none 0 0, .int .i64 1]) (by simp [results, Try.results19, go_sem]) rfl (.inl ⟨by rw [F.out]; omega, by rw [F.out]; rfl, B0.out⟩)
      · have hd2 : decide (m < 0) = false := by simp; omega
        have HE2 := Lib.hid (show E = txE T by rw [HE.out]; exact repE_pos (by omega) (by omega) (by omega))
        by_cases hT : 4096 < T
        · have hdT : decide (4096 < (T : Int)) = true := by simp; omega
          have F := Lib.hid (show E = 2 by rw [HE2.out]; unfold txE; rw [if_pos hT])
          clear h0 h1 h2 hT
          go_wp2_with fail
          exact bodyPost_ret (v := .tuple #[.slice none 0 0, .int .i64 2]) (by simp [results, Try.results19, go_sem]) rfl (.inl ⟨by rw [F.out]; omega, by rw [F.out]; rfl, B0.out⟩)
        · have hdT : decide (4096 < (T : Int)) = false := by simp; omega
          have F := Lib.hid (show E = 0 by rw [HE2.out]; unfold txE; rw [if_neg hT])
          obtain ⟨a, rfl⟩ : ∃ a : Nat, x = a := ⟨x.toNat, by omega⟩
          obtain ⟨b, rfl⟩ : ∃ a : Nat, n = a := ⟨n.toNat, by omega⟩
          obtain ⟨d, rfl⟩ : ∃ a : Nat, m = a := ⟨m.toNat, by omega⟩
          have ha : a < 9223372036854775808 := by have := HB0.out.2; unfold repN at this; simp at this; omega
          have hb : b < 9223372036854775808 := by have := HB1.out.2; unfold repN at this; simp at this; omega
          have hdd : d < 9223372036854775808 := by have := HB2.out.2; unfold repN at this; simp at this; omega
          have hT4 : T ≤ 4096 := by omega
          clear h0 h1 h2 hT HB0 HB1 HB2 HE HE2 hd hd1 hd2
          have na : decide ((a : Int) < 0) = false := by simp
          have nb : decide ((b : Int) < 0) = false := by simp
          have nd : decide ((d : Int) < 0) = false := by simp
          have H1 := Lib.hid (rput_any a 0 0 none nF (w.alloc (.cells #[.int .i64 a, .int .i64 b, .int .i64 d, .slice A T c] 35)) (Sl.nothing _ _ _ _ _) (by omega) ha)
          go_wp2_with fail
          refine H1.out.mono ?_
          rintro e w1 ⟨v1, rfl, ho, hb1⟩
          rw [Nat.zero_add, catF_zero] at ho
          obtain ⟨A1, c1', hv1, hs1, -, -⟩ := ho.sl
          subst hv1
          have B1 := Lib.hid (onto B0.out hz0 hb1)
          have R1 := Lib.hid (carry hb1 R0.out)
          have F1 := Lib.hid ((HF.out.below hb1).more hb1.size)
          have hla := encL_le a
          have H2 := Lib.hid (rput_any b (encL a) c1' A1 (encF a) w1 hs1 (by omega) hb)
          clear ho hs1 hb1 H1 B0 R0 HF
          obtain ⟨c0, c1, c2, c3⟩ := cells4 R1.out
          go_wp2_with fail
          refine H2.out.mono ?_
          rintro e w2 ⟨v2, rfl, ho, hb2⟩
          obtain ⟨A2, c2', hv2, hs2, -, -⟩ := ho.sl
          subst hv2
          have B2 := Lib.hid (onto B1.out B1.out.size hb2)
          have R2 := Lib.hid (carry hb2 R1.out)
          have F2 := Lib.hid ((F1.out.below hb2).more hb2.size)
          have hlb := encL_le b
          have H3 := Lib.hid (rput_any d (encL a + encL b) c2' A2 _ w2 hs2 (by omega) hdd)
          clear ho hs2 hb2 H2 B1 R1 F1 c0 c1 c2 c3
          obtain ⟨c0, c1, c2, c3⟩ := cells4 R2.out
          go_wp2_with fail
          refine H3.out.mono ?_
          rintro e w3 ⟨v3, rfl, ho, hb3⟩
          obtain ⟨A3, c3', hv3, hs3, -, -⟩ := ho.sl
          subst hv3
          have B3 := Lib.hid (onto B2.out B2.out.size hb3)
          have R3 := Lib.hid (carry hb3 R2.out)
          have F3 := Lib.hid ((F2.out.below hb3).more hb3.size)
          have hld := encL_le d
          have H4 := Lib.hid (rputt_any (encL a + encL b + encL d) c3' T c A3 A _ f w3 hs3 F3.out (by omega) hT4)
          clear ho hs3 hb3 H3 B2 R2 F2 c0 c1 c2 c3
          obtain ⟨c0, c1, c2, c3⟩ := cells4 R3.out
          go_wp2_with fail
          refine H4.out.mono ?_
          rintro e w4 ⟨v4, rfl, ho, hb4⟩
          have B4 := Lib.hid (onto B3.out B3.out.size hb4)
          have O4 := Lib.hid (ho.base B3.out.size)
          clear ho hb4 H4 c0 c1 c2 c3
          go_wp2_with fail
          refine bodyPost_ret (v := .tuple #[v4, .int .i64 0]) (by simp [results, Try.results19, go_sem]) rfl (.inr ⟨F.out, _, rfl, ?_, B4.out⟩)
          rw [Nat.zero_add, catF_zero]
          have o := O4.out
          have e1 : nuL (repN (a : Int) b d) 3 = encL a + encL b + encL d := by
            show ((0 + encL (a : Int).toNat) + encL (b : Int).toNat) + encL (d : Int).toNat = _
            simp
          have e2 : nuF (repN (a : Int) b d) 3 = catF (encL a + encL b) (catF (encL a) (encF a) (encF b)) (encF d) := by
            show catF ((0 + encL (a : Int).toNat) + encL (b : Int).toNat) (catF (0 + encL (a : Int).toNat) (catF 0 nF (encF (a : Int).toNat)) (encF (b : Int).toNat)) (encF (d : Int).toNat) = _
            simp only [Int.toNat_natCast, Nat.zero_add, catF_zero]
          unfold repL repF
          rw [e1, e2]
          exact o
end Go.Proofs.Ytfpkfbojckgcdaa.Oct
