/- Contracts: PutList, and the reference's. -/
import Derived.Test.YtfpkfbojckgcdaaPkC
namespace Go.Proofs.Ytfpkfbojckgcdaa.Oct
open Go.ChangeShapes Go.WideShapes Go.ChangeAt Go.RowKit
set_option linter.unusedVariables false

/-- a list's writing: that of its length c, and those of its first j numbers -/
def lsL (x : Nat → Nat) (c : Nat) : Nat → Nat
  | 0 => encL c
  | j + 1 => lsL x c j + encL (x j)
def lsF (x : Nat → Nat) (c : Nat) : Nat → Bf
  | 0 => encF c
  | j + 1 => catF (lsL x c j) (lsF x c j) (encF (x j))
theorem lsL_le (x : Nat → Nat) (c : Nat) : ∀ j, lsL x c j ≤ 9 * (j + 1)
  | 0 => by have := encL_le c; simp only [lsL]; omega
  | j + 1 => by have := encL_le (x j); have := lsL_le x c j; simp only [lsL]; omega
/-- a number among them is negative -/
def negs (x : Nat → Int) (n : Nat) : Prop := ∃ i, i < n ∧ x i < 0
def natS (x : Nat → Int) : Nat → Nat := fun i => (x i).toNat

set_option maxHeartbeats 1000000 in
theorem putl_long (N c n c1 : Nat) (A A1 : Option Addr) (w : World) (hn : 4096 < n) :
    Calls Try.prog 62 #[.slice A N c, .slice A1 n c1] w fun e w' => e = .returned (.tuple #[.slice none 0 0, .int .i64 2]) ∧ w = w' := by
  have hd : decide (4096 < (n : Int)) = true := by simp; omega
  go_enter Try.func62, Try.ntmps62
  go_wp2_with fail
  exact bodyPost_ret (v := .tuple #[.slice none 0 0, .int .i64 2]) (by simp [results, Try.results62, go_sem]) rfl ⟨rfl, rfl⟩
set_option maxHeartbeats 2000000 in
theorem putl_any (N c n c1 : Nat) (A A1 : Option Addr) (b : Bf) (x : Nat → Int) (w : World) (hs : Sl w w.heap.size A N c b) (hl : SlG w w.heap.size A1 n c1 (fun i => .int .i64 (x i))) (hx : ∀ i, i < n → -9223372036854775808 ≤ x i ∧ x i < 9223372036854775808) (hN : N ≤ 140737488300000) (hn : n ≤ 4096) :
    Calls Try.prog 62 #[.slice A N c, .slice A1 n c1] w fun e w' =>
      (negs x n ∧ e = .returned (.tuple #[.slice none 0 0, .int .i64 1]) ∧ Below w.heap.size w w') ∨
      ((∀ i, i < n → 0 ≤ x i) ∧ ∃ v, e = .returned (.tuple #[v, .int .i64 0]) ∧ Own w' w.heap.size 5 v (N + lsL (natS x) n n) (catF N b (lsF (natS x) n n)) ∧ Below w.heap.size w w') := by
  have hd : decide (4096 < (n : Int)) = false := by simp; omega
  have H1 := Lib.hid (clone_any N c A b w hs (by omega))
  have HL := Lib.hid hl
  have HX := Lib.hid hx
  clear hs hl hx
  go_enter Try.func62, Try.ntmps62
  go_wp2_with fail
  refine H1.out.mono ?_
  rintro e w1 ⟨v1, rfl, ho1, hb1⟩
  have H2 := Lib.hid (appn_any n N w.heap.size v1 b w1 ho1 (by omega) hb1.size (by omega))
  have B1 := Lib.hid hb1
  clear H1 ho1 hb1
  go_wp2_with fail
  refine H2.out.mono ?_
  rintro e w2 ⟨v2, rfl, ho2, hb2⟩
  have O2 := Lib.hid ho2
  have B2 := Lib.hid (B1.out.trans hb2)
  clear H2 ho2 hb2 B1
  go_wp2_with fail
  go_loopw [6, 19] (fun bv iv wr => ∃ j : Nat, j ≤ n ∧ iv = .int .i64 (j : Int) ∧ (∀ i, i < j → 0 ≤ x i) ∧ Own wr w.heap.size 5 bv (N + lsL (natS x) n j) (catF N b (lsF (natS x) n j)) ∧ Below w.heap.size w wr) (fun _ iv _ => n - (intOf iv).toNat)
  case atStart => exact ⟨0, by omega, rfl, fun i hi => by omega, O2.out, B2.out⟩
  case round =>
    clear O2 B2
    obtain ⟨j, hj, rfl, hp, ho, hbl⟩ := hrel
    obtain ⟨wo, rfl⟩ : ∃ wo : World, wo = wr := ⟨_, rfl⟩
    have HO := Lib.hid ho
    have HB := Lib.hid hbl
    have HP := Lib.hid hp
    have hz := hbl.size
    clear ho hbl hp
    by_cases hlt : j < n
    · have hdj : decide ((j : Int) < (n : Int)) = true := by simp; omega
      obtain ⟨g, o, hA1, hg, hcl⟩ := (HL.out.below HB.out).at_ (by omega)
      have hc := hcl j hlt
      subst hA1
      clear hcl
      obtain ⟨y, hy⟩ : ∃ y, y = x j := ⟨_, rfl⟩
      rw [← hy] at hc
      have hxj := HX.out j hlt
      rw [← hy] at hxj
      have HY := Lib.hid hy
      clear hy
      by_cases hneg : y < 0
      · have hdn : decide (y < 0) = true := by simp; omega
        go_wp2_with fail
        exact bodyPost_ret (v := .tuple #[.slice none 0 0, .int .i64 1]) (by simp [results, Try.results62, go_sem]) rfl (.inl ⟨⟨j, hlt, by rw [← HY.out]; exact hneg⟩, rfl, HB.out⟩)
      · have hdn : decide (y < 0) = false := by simp; omega
        obtain ⟨m, rfl⟩ : ∃ m : Nat, y = m := ⟨y.toNat, by omega⟩
        have HM := Lib.hid (show natS x j = m by unfold natS; rw [← HY.out]; rfl)
        have hl9 := lsL_le (natS x) n j
        have H3 := Lib.hid (appn_any m (N + lsL (natS x) n j) w.heap.size _ _ wo HO.out (by omega) hz (by omega))
        clear HO
        go_wp2_with fail
        refine H3.out.mono ?_
        rintro e w3 ⟨v3, rfl, ho3, hb3⟩
        have O3 := Lib.hid (show Own w3 w.heap.size 5 v3 (N + lsL (natS x) n (j + 1)) (catF N b (lsF (natS x) n (j + 1))) by
          rw [catF_assoc] at ho3
          simp only [lsL, lsF]
          rw [HM.out, ← Nat.add_assoc]
          exact ho3)
        have B3 := Lib.hid (HB.out.trans hb3)
        have HP3 := Lib.hid (show ∀ i, i < j + 1 → 0 ≤ x i from fun i hi => by
          by_cases h : i = j
          · subst h; rw [← HY.out]; omega
          · exact HP.out i (by omega))
        clear H3 ho3 hb3 HB HP
        go_wp2_with fail
        go_roundw
        case rel => exact ⟨j + 1, by omega, rfl, HP3.out, O3.out, B3.out⟩
        case measure => simp [intOf]; omega
    · have hdj : decide ((j : Int) < (n : Int)) = false := by simp; omega
      have hjn : j = n := by omega
      subst hjn
      go_wp2_with fail
      exact bodyPost_ret (v := .tuple #[u6, .int .i64 0]) (by simp [results, Try.results62, go_sem]) rfl (.inr ⟨HP.out, _, rfl, HO.out, HB.out⟩)

/- the reference -/
set_option maxHeartbeats 1000000 in
theorem rputl_long (N c n c1 : Nat) (A A1 : Option Addr) (w : World) (hn : 4096 < n) :
    Calls Try.prog 46 #[.slice A N c, .slice A1 n c1] w fun e w' => e = .returned (.tuple #[.slice none 0 0, .int .i64 2]) ∧ w = w' := by
  have hd : decide (4096 < (n : Int)) = true := by simp; omega
  go_enter Try.func46, Try.ntmps46
  go_wp2_with fail
  exact bodyPost_ret (v := .tuple #[.slice none 0 0, .int .i64 2]) (by simp [results, Try.results46, go_sem]) rfl ⟨rfl, rfl⟩
set_option maxHeartbeats 2000000 in
theorem rputl_any (N c n c1 : Nat) (A A1 : Option Addr) (b : Bf) (x : Nat → Int) (w : World) (hs : Sl w w.heap.size A N c b) (hl : SlG w w.heap.size A1 n c1 (fun i => .int .i64 (x i))) (hx : ∀ i, i < n → -9223372036854775808 ≤ x i ∧ x i < 9223372036854775808) (hN : N ≤ 140737488300000) (hn : n ≤ 4096) :
    Calls Try.prog 46 #[.slice A N c, .slice A1 n c1] w fun e w' =>
      (negs x n ∧ e = .returned (.tuple #[.slice none 0 0, .int .i64 1]) ∧ Below w.heap.size w w') ∨
      ((∀ i, i < n → 0 ≤ x i) ∧ ∃ v, e = .returned (.tuple #[v, .int .i64 0]) ∧ Own w' w.heap.size 5 v (N + lsL (natS x) n n) (catF N b (lsF (natS x) n n)) ∧ Below w.heap.size w w') := by
  have hd : decide (4096 < (n : Int)) = false := by simp; omega
  have H1 := Lib.hid (rput_any n N c A b w hs (by omega) (by omega))
  have HL := Lib.hid hl
  have HX := Lib.hid hx
  clear hs hl hx
  go_enter Try.func46, Try.ntmps46
  go_wp2_with fail
  refine H1.out.mono ?_
  rintro e w2 ⟨v2, rfl, ho2, hb2⟩
  have O2 := Lib.hid ho2
  have B2 := Lib.hid hb2
  clear H1 ho2 hb2
  go_wp2_with fail
  go_loopw [6, 8] (fun bv iv wr => ∃ j : Nat, j ≤ n ∧ iv = .int .i64 (j : Int) ∧ (∀ i, i < j → 0 ≤ x i) ∧ Own wr w.heap.size 5 bv (N + lsL (natS x) n j) (catF N b (lsF (natS x) n j)) ∧ Below w.heap.size w wr) (fun _ iv _ => n - (intOf iv).toNat)
  case atStart => exact ⟨0, by omega, rfl, fun i hi => by omega, O2.out, B2.out⟩
  case round =>
    clear O2 B2
    obtain ⟨j, hj, rfl, hp, ho, hbl⟩ := hrel
    obtain ⟨wo, rfl⟩ : ∃ wo : World, wo = wr := ⟨_, rfl⟩
    have HO := Lib.hid ho
    have HB := Lib.hid hbl
    have HP := Lib.hid hp
    have hz := hbl.size
    clear ho hbl hp
    by_cases hlt : j < n
    · have hdj : decide ((j : Int) < (n : Int)) = true := by simp; omega
      obtain ⟨g, o, hA1, hg, hcl⟩ := (HL.out.below HB.out).at_ (by omega)
      have hc := hcl j hlt
      subst hA1
      clear hcl
      obtain ⟨y, hy⟩ : ∃ y, y = x j := ⟨_, rfl⟩
      rw [← hy] at hc
      have hxj := HX.out j hlt
      rw [← hy] at hxj
      have HY := Lib.hid hy
      clear hy
      obtain ⟨Ao, co, hvo, hso, -, -⟩ := HO.out.sl
      subst hvo
      have hl9 := lsL_le (natS x) n j
      by_cases hneg : y < 0
      · have H3 := Lib.hid (rput_neg y (N + lsL (natS x) n j) co Ao wo hneg)
        clear HO hso
        go_wp2_with fail
        refine H3.out.mono ?_
        rintro e w3 ⟨rfl, rfl⟩
        clear H3
        go_wp2_with fail
        exact bodyPost_ret (v := .tuple #[.slice none 0 0, .int .i64 1]) (by simp [results, Try.results46, go_sem]) rfl (.inl ⟨⟨j, hlt, by rw [← HY.out]; exact hneg⟩, rfl, HB.out⟩)
      · obtain ⟨m, rfl⟩ : ∃ m : Nat, y = m := ⟨y.toNat, by omega⟩
        have HM := Lib.hid (show natS x j = m by unfold natS; rw [← HY.out]; rfl)
        have H3 := Lib.hid (rput_any m (N + lsL (natS x) n j) co Ao _ wo hso (by omega) (by omega))
        clear HO hso
        go_wp2_with fail
        refine H3.out.mono ?_
        rintro e w3 ⟨v3, rfl, ho3, hb3⟩
        have O3 := Lib.hid (show Own w3 w.heap.size 5 v3 (N + lsL (natS x) n (j + 1)) (catF N b (lsF (natS x) n (j + 1))) by
          rw [catF_assoc] at ho3
          simp only [lsL, lsF]
          rw [HM.out, ← Nat.add_assoc]
          exact ho3.base hz)
        have B3 := Lib.hid (onto HB.out hz hb3)
        have HP3 := Lib.hid (show ∀ i, i < j + 1 → 0 ≤ x i from fun i hi => by
          by_cases h : i = j
          · subst h; rw [← HY.out]; omega
          · exact HP.out i (by omega))
        clear H3 ho3 hb3 HB HP
        go_wp2_with fail
        go_roundw
        case rel => exact ⟨j + 1, by omega, rfl, HP3.out, O3.out, B3.out⟩
        case measure => simp [intOf]; omega
    · have hdj : decide ((j : Int) < (n : Int)) = false := by simp; omega
      have hjn : j = n := by omega
      subst hjn
      go_wp2_with fail
      exact bodyPost_ret (v := .tuple #[u6, .int .i64 0]) (by simp [results, Try.results46, go_sem]) rfl (.inr ⟨HP.out, _, rfl, HO.out, HB.out⟩)
end Go.Proofs.Ytfpkfbojckgcdaa.Oct
