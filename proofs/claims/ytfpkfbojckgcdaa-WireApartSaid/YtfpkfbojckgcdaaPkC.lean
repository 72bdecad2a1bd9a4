/- Contracts: pack's PutText; the reference's Put and PutText. -/
import Derived.Test.YtfpkfbojckgcdaaPkB
namespace Go.Proofs.Ytfpkfbojckgcdaa.Oct
open Go.ChangeShapes Go.WideShapes Go.ChangeAt Go.RowKit
set_option linter.unusedVariables false

/-- a text's writing: its length's, and its bytes -/
def txL (T : Nat) : Nat := encL T + T
def txF (T : Nat) (t : Bf) : Bf := catF (encL T) (encF T) t
theorem catF_assoc (n m : Nat) (f g h : Bf) : catF (n + m) (catF n f g) h = catF n f (catF m g h) := by
  funext i
  unfold catF
  by_cases h1 : i < n
  · rw [if_pos (by omega), if_pos h1, if_pos h1]
  · by_cases h2 : i < n + m
    · rw [if_pos h2, if_neg h1, if_neg h1, if_pos (by omega)]
    · rw [if_neg h2, if_neg h1, if_neg (by omega), show i - (n + m) = i - n - m by omega]
theorem catF_len (n m : Nat) (f g g' : Bf) (h : ∀ i, i < m → g i = g' i) : ∀ i, i < n + m → catF n f g i = catF n f g' i := fun i hi => by
  unfold catF
  by_cases h1 : i < n
  · rw [if_pos h1, if_pos h1]
  · rw [if_neg h1, if_neg h1, h _ (by omega)]

set_option maxHeartbeats 1000000 in
theorem putt_long (N c T c1 : Nat) (A A1 : Option Addr) (w : World) (hT : 4096 < T) :
    Calls Try.prog 52 #[.slice A N c, .slice A1 T c1] w fun e w' => e = .returned (.tuple #[.slice none 0 0, .int .i64 2]) ∧ w = w' := by
  have hd : decide (4096 < (T : Int)) = true := by simp; omega
  go_enter Try.func52, Try.ntmps52
  go_wp2_with fail
  exact bodyPost_ret (v := .tuple #[.slice none 0 0, .int .i64 2]) (by simp [results, Try.results52, go_sem]) rfl ⟨rfl, rfl⟩
set_option maxHeartbeats 1000000 in
theorem putt_any (N c T c1 : Nat) (A A1 : Option Addr) (b t : Bf) (w : World) (hs : Sl w w.heap.size A N c b) (ht : Sl w w.heap.size A1 T c1 t) (hN : N ≤ 140737488351232) (hT : T ≤ 4096) :
    Calls Try.prog 52 #[.slice A N c, .slice A1 T c1] w fun e w' => ∃ v, e = .returned (.tuple #[v, .int .i64 0]) ∧ Own w' w.heap.size 5 v (N + txL T) (catF N b (txF T t)) ∧ Below w.heap.size w w' := by
  have hd : decide (4096 < (T : Int)) = false := by simp; omega
  have H1 := Lib.hid (clone_any N c A b w hs (by omega))
  have HT := Lib.hid ht
  have hE := encL_le T
  clear hs ht
  go_enter Try.func52, Try.ntmps52
  go_wp2_with fail
  refine H1.out.mono ?_
  rintro e w1 ⟨v1, rfl, ho1, hb1⟩
  have H2 := Lib.hid (appn_any T N w.heap.size v1 b w1 ho1 (by omega) hb1.size (by omega))
  have B1 := Lib.hid hb1
  clear H1 ho1 hb1
  go_wp2_with fail
  refine H2.out.mono ?_
  rintro e w2 ⟨v2, rfl, ho2, hb2⟩
  have O2 := Lib.hid ho2
  have B2 := Lib.hid (B1.out.trans hb2)
  have T2 := Lib.hid (HT.out.below B2.out)
  have hz2 := B2.out.size
  clear H2 ho2 hb2 B1
  go_wp2_with (at_builtin; refine wpl_appW rfl (.tmp 13) (.tmp 14) rfl sli_u u8_info O2.out T2.out (by omega) hz2 rfl rfl ?_; intro v4 w4 ho4 hg4)
  rw [catF_assoc, Nat.add_assoc] at ho4
  have B4 := O2.out.after hg4 B2.out hz2 (Nat.le_refl _)
  exact bodyPost_ret (v := .tuple #[v4, .int .i64 0]) (by simp [results, Try.results52, go_sem]) rfl ⟨_, rfl, ho4, B4⟩

/- the reference -/
set_option maxHeartbeats 1000000 in
theorem rput_neg (n : Int) (N c : Nat) (A : Option Addr) (w : World) (hn : n < 0) :
    Calls Try.prog 31 #[.slice A N c, .int .i64 n] w fun e w' => e = .returned (.tuple #[.slice none 0 0, .int .i64 1]) ∧ w = w' := by
  have hd : decide (n < 0) = true := by simp; omega
  go_enter Try.func31, Try.ntmps31
  go_wp2_with fail
  exact bodyPost_ret (v := .tuple #[.slice none 0 0, .int .i64 1]) (by simp [results, Try.results31, go_sem]) rfl ⟨rfl, rfl⟩
set_option maxHeartbeats 2000000 in
theorem rput_any (n N c : Nat) (A : Option Addr) (b : Bf) (w : World) (hs : Sl w w.heap.size A N c b) (hN : N ≤ 140737488355000) (hn : n < 9223372036854775808) :
    Calls Try.prog 31 #[.slice A N c, .int .i64 n] w fun e w' => ∃ v, e = .returned (.tuple #[v, .int .i64 0]) ∧ Own w' w.heap.size 5 v (N + encL n) (catF N b (encF n)) ∧ Below w.heap.size w w' := by
  have hd : decide ((n : Int) < 0) = false := by simp
  have H1 := Lib.hid (needs_any n hn w)
  have HS := Lib.hid hs
  have hK8 := nd_le n
  obtain ⟨K, hK⟩ : ∃ K, K = nd n := ⟨_, rfl⟩
  rw [← hK] at hK8 H1
  have hI : (K : Int) = I (BitVec.ofNat 8 K) := by unfold I; rw [BitVec.toNat_ofNat]; omega
  have HK := Lib.hid hK
  have B0 := Lib.hid ((Below.refl w.heap.size w).alloc (Nat.le_refl _) (.cells #[] 5))
  have O0 := Lib.hid (show Own (w.alloc (.cells #[] 5)) w.heap.size 5 (.slice (some ⟨w.heap.size, 0, none⟩) 0 0) 0 b from Own.empty w w.heap.size 5 _ (Nat.le_refl _))
  have S0 := Lib.hid (HS.out.below B0.out)
  have hz0 : w.heap.size ≤ (w.alloc (.cells #[] 5)).heap.size := by simp
  have HI := Lib.hid hI
  clear hs hK hI
  go_enter Try.func31, Try.ntmps31
  go_wp2_with fail
  refine H1.out.mono ?_
  rintro e w' ⟨rfl, rfl⟩
  clear H1
  go_wp2_with (at_builtin; first
    | (refine wpl_appB rfl (.tmp 13) (.tmp 14) rfl sli_u u8_info O0.out S0.out (by omega) hz0 rfl rfl ?_
       intro v1 w1 ho1 hg1 ht1
       rw [Nat.zero_add, catF_zero] at ho1
       have hz1 : w.heap.size ≤ w1.heap.size := by have := hg1.size; omega
       have B1 := Lib.hid ((O0.out.after hg1 B0.out hz0 (Nat.le_refl _)).alloc hz1 (.cells #[.int .u8 (K : Int)] 5))
       have S1 := Lib.hid (show Sl (w1.alloc (.cells #[.int .u8 (K : Int)] 5)) (w1.heap.size + 1) (some ⟨w1.heap.size, 0, none⟩) 1 1 (fun _ => BitVec.ofNat 8 K) by rw [HI.out]; exact Sl.one w1 _ _ _ (by omega))
       have O1 := Lib.hid (ho1.alloc (.cells #[.int .u8 (K : Int)] 5))
       have hb1 : w.heap.size ≤ (w1.alloc (.cells #[.int .u8 (K : Int)] 5)).heap.size := by simp; omega
       clear ho1 hg1 ht1 B0 S0 O0)
    | (refine wpl_appB rfl (.tmp 15) (.tmp 18) rfl sli_u u8_info O1.out S1.out (by omega) hb1 rfl rfl ?_; intro v2 w2 ho2 hg2 ht2))
  have B2 := Lib.hid (O1.out.after hg2 B1.out hb1 (Nat.le_refl _))
  have hz2 := hg2.size
  have O2 := Lib.hid (show Own w2 w.heap.size 5 v2 (N + 0 + 1) (catF N b (encF n)) from ho2.congr fun i hi => by
    unfold catF
    by_cases h : i < N
    · rw [if_pos h, if_pos h]
    · rw [if_neg h, if_neg h, show i - N = 0 by omega, HK.out]; rfl)
  have hz3 : w.heap.size ≤ w2.heap.size := by omega
  clear ho2 hg2 ht2 hz2 B1 S1 O1 hb1
  go_loopw [7, 8] (fun bv iv wr => ∃ r j : Nat, r + j = K ∧ iv = .int .i64 ((r : Int) - 1) ∧ Own wr w.heap.size 5 bv (N + j + 1) (catF N b (encF n)) ∧ Below w.heap.size w wr ∧ w.heap.size ≤ wr.heap.size) (fun _ iv _ => (intOf iv + 1).toNat)
  case atStart => exact ⟨K, 0, by omega, rfl, O2.out, B2.out, hz3⟩
  case round =>
    clear O2 B2 hz3
    obtain ⟨r, j, hrj, rfl, ho, hbl, hz⟩ := hrel
    obtain ⟨wo, rfl⟩ : ∃ wo : World, wo = wr := ⟨_, rfl⟩
    have HOo := Lib.hid ho
    have HB := Lib.hid hbl
    clear ho hbl
    rcases r with _ | s
    · have hd : decide ((0 : Int) ≤ ((0 : Nat) : Int) - 1) = false := by decide
      have hj : j = K := by omega
      subst hj
      go_wp2_with fail
      exact bodyPost_ret (v := .tuple #[u7, .int .i64 0]) (by simp [results, Try.results31, go_sem]) rfl ⟨_, rfl, by unfold encL; rw [← HK.out]; exact HOo.out, HB.out⟩
    · have e1 : ((s + 1 : Nat) : Int) - 1 = (s : Int) := by omega
      rw [e1]
      have hd : decide ((0 : Int) ≤ (s : Int)) = true := by simp
      have B3 := Lib.hid (HB.out.alloc hz (.cells #[.int .u8 ((n : Int) / 2 ^ (8 * s) % 256)] 5))
      have S3 := Lib.hid (show Sl (wo.alloc (.cells #[.int .u8 ((n : Int) / 2 ^ (8 * s) % 256)] 5)) (wo.heap.size + 1) (some ⟨wo.heap.size, 0, none⟩) 1 1 (fun _ => BitVec.ofNat 8 (n / 256 ^ s)) by rw [byt_9]; exact Sl.one wo _ _ _ (by omega))
      have O3 := Lib.hid (HOo.out.alloc (.cells #[.int .u8 ((n : Int) / 2 ^ (8 * s) % 256)] 5))
      have hb3 : w.heap.size ≤ (wo.alloc (.cells #[.int .u8 ((n : Int) / 2 ^ (8 * s) % 256)] 5)).heap.size := by simp; omega
      clear HB HOo
      go_wp2_with (at_builtin; refine wpl_appB rfl (.tmp 26) (.tmp 32) rfl sli_u u8_info O3.out S3.out (by omega) hb3 rfl rfl ?_; intro v4 w4 ho4 hg4 ht4)
      have hz4 := hg4.size
      have B4 := Lib.hid (O3.out.after hg4 B3.out hb3 (Nat.le_refl _))
      have O4 := Lib.hid (show Own w4 w.heap.size 5 v4 (N + (j + 1) + 1) (catF N b (encF n)) from ho4.congr fun i hi => by
        have := enc_step n N j b (by rw [← HK.out]; omega) i hi
        rw [← HK.out, show K - (j + 1) = s by omega] at this
        exact this)
      have hz5 : w.heap.size ≤ w4.heap.size := by omega
      clear ho4 hg4 ht4 hz4 B3 S3 O3 hb3
      go_roundw
      case rel => exact ⟨s, j + 1, by omega, rfl, O4.out, B4.out, hz5⟩
      case measure => simp [intOf]

set_option maxHeartbeats 1000000 in
theorem rputt_long (N c T c1 : Nat) (A A1 : Option Addr) (w : World) (hT : 4096 < T) :
    Calls Try.prog 32 #[.slice A N c, .slice A1 T c1] w fun e w' => e = .returned (.tuple #[.slice none 0 0, .int .i64 2]) ∧ w = w' := by
  have hd : decide (4096 < (T : Int)) = true := by simp; omega
  go_enter Try.func32, Try.ntmps32
  go_wp2_with fail
  exact bodyPost_ret (v := .tuple #[.slice none 0 0, .int .i64 2]) (by simp [results, Try.results32, go_sem]) rfl ⟨rfl, rfl⟩
set_option maxHeartbeats 1000000 in
theorem rputt_any (N c T c1 : Nat) (A A1 : Option Addr) (b t : Bf) (w : World) (hs : Sl w w.heap.size A N c b) (ht : Sl w w.heap.size A1 T c1 t) (hN : N ≤ 140737488351232) (hT : T ≤ 4096) :
    Calls Try.prog 32 #[.slice A N c, .slice A1 T c1] w fun e w' => ∃ v, e = .returned (.tuple #[v, .int .i64 0]) ∧ Own w' w.heap.size 5 v (N + txL T) (catF N b (txF T t)) ∧ Below w.heap.size w w' := by
  have hd : decide (4096 < (T : Int)) = false := by simp; omega
  have H1 := Lib.hid (rput_any T N c A b w hs (by omega) (by omega))
  have HT := Lib.hid ht
  have hE := encL_le T
  clear hs ht
  go_enter Try.func32, Try.ntmps32
  go_wp2_with fail
  refine H1.out.mono ?_
  rintro e w2 ⟨v2, rfl, ho2, hb2⟩
  have O2 := Lib.hid ho2
  have B2 := Lib.hid hb2
  have T2 := Lib.hid (HT.out.below B2.out)
  have hz2 := B2.out.size
  clear H1 ho2 hb2
  go_wp2_with (at_builtin; refine wpl_appW rfl (.tmp 18) (.tmp 19) rfl sli_u u8_info O2.out T2.out (by omega) hz2 rfl rfl ?_; intro v4 w4 ho4 hg4)
  rw [catF_assoc, Nat.add_assoc] at ho4
  have B4 := O2.out.after hg4 B2.out hz2 (Nat.le_refl _)
  exact bodyPost_ret (v := .tuple #[v4, .int .i64 0]) (by simp [results, Try.results32, go_sem]) rfl ⟨_, rfl, ho4, B4⟩
end Go.Proofs.Ytfpkfbojckgcdaa.Oct
