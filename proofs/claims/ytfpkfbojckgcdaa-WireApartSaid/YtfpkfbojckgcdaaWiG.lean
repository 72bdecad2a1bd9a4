/- Contracts: wire's numbers, text, list. -/
import Derived.Test.YtfpkfbojckgcdaaWiF
namespace Go.Proofs.Ytfpkfbojckgcdaa.Oct
open Go.ChangeShapes Go.WideShapes Go.ChangeAt Go.RowKit
set_option linter.unusedVariables false

set_option maxHeartbeats 4000000 in
theorem nums_any (X N c n c1 : Nat) (A A1 : Option Addr) (b : Bf) (x : Nat → Int) (w : World) (hr : row w X = some #[.slice A1 n c1]) (hl : SlG w w.heap.size A1 n c1 (iV x)) (hx : ∀ i, i < n → -9223372036854775808 ≤ x i ∧ x i < 9223372036854775808)
    (hs : Sl w w.heap.size A N c b) (hN : N ≤ 100000000000000) (hn : n ≤ 100) (h1 : 0 < n) :
    Calls Try.prog 49 #[.slice A N c, .pointer (some ⟨X, 0, none⟩)] w (ptP (nuE x n) N (nuL x n) b (nuF x n) w) := by
  have hcell := box_cell1 hr
  have HS := Lib.hid hs
  have HL := Lib.hid hl
  have HX := Lib.hid hx
  clear hs hl hx hr
  go_enter Try.func49, Try.ntmps49
  go_wp2_with fail
  clear hcell
  go_loopw [0, 11] (fun bv iv wr => ∃ j : Nat, j ≤ n ∧ iv = .int .i64 (j : Int) ∧ nuE x j = 0 ∧ (∃ A' c', bv = .slice A' (N + nuL x j) c' ∧ Sl wr wr.heap.size A' (N + nuL x j) c' (catF N b (nuF x j))) ∧ (0 < j → Own wr w.heap.size 5 bv (N + nuL x j) (catF N b (nuF x j))) ∧ Below w.heap.size w wr) (fun _ iv _ => n - (intOf iv).toNat)
  case atStart => exact ⟨0, by omega, rfl, rfl, ⟨A, c, rfl, HS.out.congr fun i hi => by show b i = catF N b (nuF x 0) i; unfold catF; rw [if_pos (by exact hi)]⟩, fun h => by omega, Below.refl _ _⟩
  case round =>
    clear HS
    obtain ⟨j, hj, rfl, hf, ⟨A', c', hv, hsl⟩, ho, hb⟩ := hrel
    obtain ⟨wo, rfl⟩ : ∃ wo : World, wo = wr := ⟨_, rfl⟩
    subst hv
    have HF := Lib.hid hf
    have HSL := Lib.hid hsl
    have HO := Lib.hid ho
    have HB := Lib.hid hb
    have hz := hb.size
    have hl9 := nuL_le x j
    clear hf hsl ho hb
    by_cases hlt : j < n
    · have hdj : decide ((j : Int) < (n : Int)) = true := by simp; omega
      obtain ⟨g, o, hA1, hg, hcl⟩ := (HL.out.below HB.out).at_ (by omega)
      have hc := hcl j hlt
      unfold iV at hc
      subst hA1
      clear hcl
      obtain ⟨y, hy⟩ : ∃ y, y = x j := ⟨_, rfl⟩
      rw [← hy] at hc
      have hxj := HX.out j hlt
      rw [← hy] at hxj
      have HY := Lib.hid hy
      clear hy
      by_cases hneg : y < 0
      · have H2 := Lib.hid (put_neg y (N + nuL x j) c' A' wo hneg)
        have HE := Lib.hid (show nuE x n = 1 by
          have h1 : neE x j = 1 := by unfold neE; rw [if_pos (by rw [← HY.out]; exact hneg)]
          have := fi_first HF.out hlt (by rw [h1]; omega)
          rw [h1] at this
          exact this)
        clear hneg
        go_wp2_with fail
        refine H2.out.mono ?_
        rintro e w2 ⟨rfl, rfl⟩
        clear H2 hc
        go_wp2_with fail
        exact bodyPost_ret (v := .tuple #[.slice none 0 0, .int .i64 1]) (by simp [results, Try.results49, go_sem]) rfl (.inl ⟨by rw [HE.out]; omega, by rw [HE.out]; rfl, HB.out⟩)
      · obtain ⟨m, rfl⟩ : ∃ m : Nat, y = m := ⟨y.toNat, by omega⟩
        have HM := Lib.hid (show (x j).toNat = m by rw [← HY.out]; rfl)
        have H2 := Lib.hid (put_any m (N + nuL x j) c' A' (catF N b (nuF x j)) wo HSL.out (by omega) (by omega))
        have HF2 := Lib.hid (show nuE x (j + 1) = 0 from (fi_step HF.out).trans (by
          unfold neE
          rw [if_neg (by rw [← HY.out]; omega)]))
        clear hneg
        go_wp2_with fail
        refine H2.out.mono ?_
        rintro e w3 ⟨v3, rfl, ho3, hb3⟩
        have ho4 : Own w3 w.heap.size 5 v3 (N + nuL x (j + 1)) (catF N b (nuF x (j + 1))) := by
          have e1 := cu_cat (fun i => encL (x i).toNat) (fun i => encF (x i).toNat) N j b
          simp only [HM.out] at e1
          rw [show nuL x (j + 1) = nuL x j + encL m by show cuL _ (j + 1) = _; rw [cuL]; simp only [HM.out], ← Nat.add_assoc]
          refine (Own.base ho3 hz).congr fun i _ => ?_
          rw [e1]
        obtain ⟨A4, c4, hv4, hs4, -, -⟩ := ho4.sl
        subst hv4
        have O4 := Lib.hid ho4
        have S4 := Lib.hid hs4
        have B4 := Lib.hid (onto HB.out hz hb3)
        clear H2 hc ho3 hb3 ho4 hs4 HSL HO HB HF
        go_wp2_with fail
        go_roundw
        case rel => exact ⟨j + 1, by omega, rfl, HF2.out, ⟨_, _, rfl, S4.out⟩, fun _ => O4.out, B4.out⟩
        case measure => simp [intOf]; omega
    · have hdj : decide ((j : Int) < (n : Int)) = false := by simp; omega
      have hjn : j = n := by omega
      subst hjn
      go_wp2_with fail
      exact bodyPost_ret (v := .tuple #[.slice A' (N + nuL x j) c', .int .i64 0]) (by simp [results, Try.results49, go_sem]) rfl (.inr ⟨HF.out, _, rfl, HO.out h1, HB.out⟩)

/-- a text's error -/
def txE (T : Nat) : Nat := if 4096 < T then 2 else 0
set_option maxHeartbeats 1000000 in
theorem text1_any (X N c T c1 : Nat) (A A1 : Option Addr) (b t : Bf) (w : World) (hr : row w X = some #[.slice A1 T c1]) (ht : Sl w w.heap.size A1 T c1 t) (hs : Sl w w.heap.size A N c b) (hN : N ≤ 100000000000000) :
    Calls Try.prog 51 #[.slice A N c, .pointer (some ⟨X, 0, none⟩)] w (ptP (txE T) N (txL T) b (txF T t) w) := by
  have hcell := box_cell1 hr
  by_cases hT : 4096 < T
  · have H1 := Lib.hid (putt_long N c T c1 A A1 w hT)
    have HE := Lib.hid (show txE T = 2 by unfold txE; rw [if_pos hT])
    clear hr ht hs hT
    go_enter Try.func51, Try.ntmps51
    go_wp2_with fail
    refine H1.out.mono ?_
    rintro e w1 ⟨rfl, rfl⟩
    clear H1
    go_wp2_with fail
    exact bodyPost_ret (v := .tuple #[.slice none 0 0, .int .i64 2]) (by simp [results, Try.results51, go_sem]) rfl (.inl ⟨by rw [HE.out]; omega, by rw [HE.out]; rfl, Below.refl _ _⟩)
  · have H1 := Lib.hid (putt_any N c T c1 A A1 b t w hs ht (by omega) (by omega))
    have HE := Lib.hid (show txE T = 0 by unfold txE; rw [if_neg hT])
    clear hr ht hs hT
    go_enter Try.func51, Try.ntmps51
    go_wp2_with fail
    refine H1.out.mono ?_
    rintro e w1 ⟨v1, rfl, ho, hb⟩
    have O1 := Lib.hid ho
    have B1 := Lib.hid hb
    clear H1 ho hb
    go_wp2_with fail
    exact bodyPost_ret (v := .tuple #[v1, .int .i64 0]) (by simp [results, Try.results51, go_sem]) rfl (.inr ⟨HE.out, _, rfl, O1.out, B1.out⟩)

theorem nuE_neg {x : Nat → Int} {n : Nat} : nuE x n ≠ 0 → negs x n ∧ nuE x n = 1 := fun h => by
  induction n with
  | zero => exact absurd rfl h
  | succ n ih =>
    by_cases h0 : nuE x n = 0
    · have e : nuE x (n + 1) = neE x n := fi_step h0
      rw [e] at h ⊢
      unfold neE at h ⊢
      split at h
      · rename_i hn
        exact ⟨⟨n, by omega, hn⟩, by rw [if_pos hn]⟩
      · exact absurd rfl h
    · obtain ⟨⟨i, hi, hx⟩, h1⟩ := ih h0
      exact ⟨⟨i, by omega, hx⟩, by
        have := fi_stay (E := neE x) h0 1
        exact this.trans h1⟩
theorem nuE_of_neg {x : Nat → Int} {n : Nat} (h : negs x n) : nuE x n = 1 := by
  rcases Nat.eq_zero_or_pos (nuE x n) with e | e
  · obtain ⟨i, hi, hx⟩ := h
    have := fi_each e i hi
    unfold neE at this
    rw [if_pos hx] at this
    omega
  · exact (nuE_neg (by omega)).2
theorem nuE_of_pos {x : Nat → Int} {n : Nat} (h : ∀ i, i < n → 0 ≤ x i) : nuE x n = 0 := fi_zero fun j hj => by
  unfold neE
  have := h j hj
  rw [if_neg (by omega)]
set_option maxHeartbeats 1000000 in
theorem list1_any (X N c n c1 : Nat) (A A1 : Option Addr) (b : Bf) (x : Nat → Int) (w : World) (hr : row w X = some #[.slice A1 n c1]) (hl : SlG w w.heap.size A1 n c1 (iV x)) (hx : ∀ i, i < n → -9223372036854775808 ≤ x i ∧ x i < 9223372036854775808)
    (hs : Sl w w.heap.size A N c b) (hN : N ≤ 100000000000000) (hn : n ≤ 100) :
    Calls Try.prog 61 #[.slice A N c, .pointer (some ⟨X, 0, none⟩)] w (ptP (nuE x n) N (lsL (natS x) n n) b (lsF (natS x) n n) w) := by
  have hcell := box_cell1 hr
  have H1 := Lib.hid (putl_any N c n c1 A A1 b x w hs hl hx (by omega) (by omega))
  clear hr hl hx hs
  go_enter Try.func61, Try.ntmps61
  go_wp2_with fail
  refine H1.out.mono ?_
  rintro e w1 (⟨hn1, rfl, hb⟩ | ⟨hp, v1, rfl, ho, hb⟩)
  · have HE := Lib.hid (nuE_of_neg hn1)
    have B1 := Lib.hid hb
    clear H1 hn1 hb
    go_wp2_with fail
    exact bodyPost_ret (v := .tuple #[.slice none 0 0, .int .i64 1]) (by simp [results, Try.results61, go_sem]) rfl (.inl ⟨by rw [HE.out]; omega, by rw [HE.out]; rfl, B1.out⟩)
  · have HE := Lib.hid (nuE_of_pos hp)
    have O1 := Lib.hid ho
    have B1 := Lib.hid hb
    clear H1 ho hb hp
    go_wp2_with fail
    exact bodyPost_ret (v := .tuple #[v1, .int .i64 0]) (by simp [results, Try.results61, go_sem]) rfl (.inr ⟨HE.out, _, rfl, O1.out, B1.out⟩)

/- those that make them -/
theorem mknums_any (n c1 : Nat) (A1 : Option Addr) (x : Nat → Int) (w : World) (hl : SlG w w.heap.size A1 n c1 (iV x)) (hx : ∀ i, i < n → -9223372036854775808 ≤ x i ∧ x i < 9223372036854775808) (hn : n ≤ 100) (h1 : 0 < n) :
    Calls Try.prog 29 #[.slice A1 n c1] w fun e w' => ∃ v, e = .returned v ∧ v.oneCell' = true ∧ Puts w' v (nuE x n) (nuL x n) (nuF x n) ∧ Below w.heap.size w w' := by
  have HL := Lib.hid hl
  clear hl
  go_enter Try.func29, Try.ntmps29
  go_wp2_with fail
  go_ret
  refine ⟨_, rfl, rfl, ⟨49, .pointer (some ⟨w.heap.size, 0, none⟩), rfl, entr (fn := Try.f49) (by kernel_rfl) (by kernel_rfl) (by kernel_rfl), fun w' hb N c A b hs hN => ?_⟩, (Below.refl _ _).alloc (Nat.le_refl _) _⟩
  have hb2 : Below w.heap.size w w' := onto ((Below.refl w.heap.size w).alloc (Nat.le_refl _) _) (by simp) hb
  exact nums_any w.heap.size N c n c1 A A1 b x w' (carry hb (row_alloc_at _ _ _ _ rfl)) ((HL.out.below hb2).more hb2.size) hx hs hN hn h1
theorem mktext_any (T c1 : Nat) (A1 : Option Addr) (t : Bf) (w : World) (ht : Sl w w.heap.size A1 T c1 t) :
    Calls Try.prog 30 #[.slice A1 T c1] w fun e w' => ∃ v, e = .returned v ∧ v.oneCell' = true ∧ Puts w' v (txE T) (txL T) (txF T t) ∧ Below w.heap.size w w' := by
  have HL := Lib.hid ht
  clear ht
  go_enter Try.func30, Try.ntmps30
  go_wp2_with fail
  go_ret
  refine ⟨_, rfl, rfl, ⟨51, .pointer (some ⟨w.heap.size, 0, none⟩), rfl, entr (fn := Try.f51) (by kernel_rfl) (by kernel_rfl) (by kernel_rfl), fun w' hb N c A b hs hN => ?_⟩, (Below.refl _ _).alloc (Nat.le_refl _) _⟩
  have hb2 : Below w.heap.size w w' := onto ((Below.refl w.heap.size w).alloc (Nat.le_refl _) _) (by simp) hb
  exact text1_any w.heap.size N c T c1 A A1 b t w' (carry hb (row_alloc_at _ _ _ _ rfl)) ((HL.out.below hb2).more hb2.size) hs hN
theorem mklist_any (n c1 : Nat) (A1 : Option Addr) (x : Nat → Int) (w : World) (hl : SlG w w.heap.size A1 n c1 (iV x)) (hx : ∀ i, i < n → -9223372036854775808 ≤ x i ∧ x i < 9223372036854775808) (hn : n ≤ 100) :
    Calls Try.prog 45 #[.slice A1 n c1] w fun e w' => ∃ v, e = .returned v ∧ v.oneCell' = true ∧ Puts w' v (nuE x n) (lsL (natS x) n n) (lsF (natS x) n n) ∧ Below w.heap.size w w' := by
  have HL := Lib.hid hl
  clear hl
  go_enter Try.func45, Try.ntmps45
  go_wp2_with fail
  go_ret
  refine ⟨_, rfl, rfl, ⟨61, .pointer (some ⟨w.heap.size, 0, none⟩), rfl, entr (fn := Try.f61) (by kernel_rfl) (by kernel_rfl) (by kernel_rfl), fun w' hb N c A b hs hN => ?_⟩, (Below.refl _ _).alloc (Nat.le_refl _) _⟩
  have hb2 : Below w.heap.size w w' := onto ((Below.refl w.heap.size w).alloc (Nat.le_refl _) _) (by simp) hb
  exact list1_any w.heap.size N c n c1 A A1 b x w' (carry hb (row_alloc_at _ _ _ _ rfl)) ((HL.out.below hb2).more hb2.size) hx hs hN hn
end Go.Proofs.Ytfpkfbojckgcdaa.Oct
