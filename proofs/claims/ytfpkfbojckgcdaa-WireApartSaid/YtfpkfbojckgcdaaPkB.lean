/- Contracts: bytes.Clone, pack's appendNumber, Put, PutText. -/
import Derived.Test.YtfpkfbojckgcdaaPkA
import Derived.Test.YtfpkfbojckgcdaaTyBs
import Derived.WalkSpells
namespace Go.Proofs.Ytfpkfbojckgcdaa.Oct
open Go.ChangeShapes Go.WideShapes Go.ChangeAt Go.RowKit
set_option linter.unusedVariables false

set_option maxHeartbeats 1000000 in
theorem clone_any (n c : Nat) (A : Option Addr) (b : Bf) (w : World) (hs : Sl w w.heap.size A n c b) (hn : n ≤ 140737488355328) :
    Calls Try.prog 66 #[.slice A n c] w fun e w' => ∃ v, e = .returned v ∧ Own w' w.heap.size 5 v n b ∧ Below w.heap.size w w' := by
  have HS := Lib.hid hs
  go_enter Try.func66, Try.ntmps66
  cases A with
  | none =>
    have h0 := hs.nil_zero rfl
    subst h0
    clear hs
    have qT := fun (w : World) (n c : Nat) => Lib.run_eql_slice_nil (P := Try.prog) w 22 5 none n c 0 0 sli_u
    go_wp2_with fail
    go_ret
    exact ⟨_, rfl, Own.nil _ _ _ _, Below.refl _ _⟩
  | some a =>
    clear hs
    have qT := fun (w : World) (n c : Nat) => Lib.run_eql_slice_nil (P := Try.prog) w 22 5 (some a) n c 0 0 sli_u
    have O1 := Lib.hid (show Own (w.alloc (.cells #[] 5)) w.heap.size 5 (.slice (some ⟨w.heap.size, 0, none⟩) 0 0) 0 b from Own.empty w w.heap.size 5 _ (Nat.le_refl _))
    have B1 := (Below.refl w.heap.size w).alloc (Nat.le_refl _) (.cells #[] 5)
    have S1 := HS.out.below B1
    have hb : w.heap.size ≤ (w.alloc (.cells #[] 5)).heap.size := by simp
    go_wp2_with (at_builtin; refine wpl_appB rfl (.tmp 5) (.tmp 6) rfl sli_u u8_info O1.out S1 (by omega) hb rfl rfl ?_; intro v4 w4 ho4 hg4 ht4)
    go_ret
    exact ⟨_, rfl, by rw [Nat.zero_add, catF_zero] at ho4; exact ho4, O1.out.after hg4 B1 hb (Nat.le_refl _)⟩

/-- the writing of a number, as it is laid byte by byte: the first j bytes behind n -/
theorem enc_step (n N j : Nat) (f : Bf) (hj : j < nd n) (i : Nat) (hi : i < N + (j + 1) + 1) :
    catF (N + (j + 1)) (catF N f (encF n)) (fun _ => BitVec.ofNat 8 (n / 256 ^ (nd n - (j + 1)))) i = catF N f (encF n) i := by
  unfold catF
  by_cases h : i < N + (j + 1)
  · rw [if_pos h]
  · rw [if_neg h, if_neg (by omega), show i - N = j + 1 by omega]
    unfold encF
    rw [if_neg (by omega)]

theorem byt_8 (n s : Nat) : ((n : Int) / 2 ^ (s * 8) % 256) = I (BitVec.ofNat 8 (n / 256 ^ s)) := by
  unfold I
  rw [BitVec.toNat_ofNat, show (256 : Nat) ^ s = 2 ^ (s * 8) by rw [Nat.mul_comm, Nat.pow_mul]]
  rfl
theorem byt_9 (n s : Nat) : ((n : Int) / 2 ^ (8 * s) % 256) = I (BitVec.ofNat 8 (n / 256 ^ s)) := by rw [Nat.mul_comm]; exact byt_8 n s

set_option maxHeartbeats 2000000 in
theorem appn_any (n N base : Nat) (v : Value) (f : Bf) (w : World) (ho : Own w base 5 v N f) (hN : N ≤ 140737488355000) (hb : base ≤ w.heap.size) (hn : n < 9223372036854775808) :
    Calls Try.prog 65 #[v, .int .i64 n] w fun e w' => ∃ v', e = .returned v' ∧ Own w' base 5 v' (N + encL n) (catF N f (encF n)) ∧ Below base w w' := by
  have HO := Lib.hid ho
  have H1 := Lib.hid (blen_any n hn w)
  have hcv : IntKind.u64.wrap (n : Int) = n := by rw [IntKind.wrap_u64]; omega
  clear ho
  go_enter Try.func65, Try.ntmps65
  go_wp2_with fail
  refine H1.out.mono ?_
  rintro e w' ⟨L, rfl, hL, hk, rfl⟩
  have hK8 := nd_le n
  obtain ⟨K, hK⟩ : ∃ K, K = nd n := ⟨_, rfl⟩
  rw [← hK] at hk hK8
  have hq : ((L : Int) + 8 - 1) / 8 = (K : Int) := by omega
  have hI : (K : Int) = I (BitVec.ofNat 8 K) := by unfold I; rw [BitVec.toNat_ofNat]; omega
  have HI := Lib.hid hI
  have HK := Lib.hid hK
  have B1 := Lib.hid ((Below.refl base w).alloc hb (.cells #[.int .u8 (K : Int)] 5))
  have S1 := Lib.hid (show Sl (w.alloc (.cells #[.int .u8 (K : Int)] 5)) (w.heap.size + 1) (some ⟨w.heap.size, 0, none⟩) 1 1 (fun _ => BitVec.ofNat 8 K) by rw [hI]; exact Sl.one w _ _ _ (by omega))
  have O1 := Lib.hid (HO.out.alloc (.cells #[.int .u8 (K : Int)] 5))
  have hb1 : base ≤ (w.alloc (.cells #[.int .u8 (K : Int)] 5)).heap.size := by simp; omega
  clear H1 hI hK hk
  go_wp2_with (at_builtin; refine wpl_appB rfl (.tmp 13) (.tmp 16) rfl sli_u u8_info O1.out S1.out (by omega) hb1 rfl rfl ?_; intro v2 w2 ho2 hg2 ht2)
  have B2 := Lib.hid (O1.out.after hg2 B1.out hb1 (Nat.le_refl _))
  have hz2 := hg2.size
  have O2 := Lib.hid (show Own w2 base 5 v2 (N + 0 + 1) (catF N f (encF n)) from ho2.congr fun i hi => by
    unfold catF
    by_cases h : i < N
    · rw [if_pos h, if_pos h]
    · rw [if_neg h, if_neg h, show i - N = 0 by omega, HK.out]; rfl)
  have hz3 : base ≤ w2.heap.size := by simp at hz2; omega
  clear ho2 hg2 ht2 hz2 B1 S1 O1 hb1
  go_loopw [0, 6] (fun bv iv wr => ∃ r j : Nat, r + j = K ∧ iv = .int .i64 ((r : Int) - 1) ∧ Own wr base 5 bv (N + j + 1) (catF N f (encF n)) ∧ Below base w wr ∧ base ≤ wr.heap.size) (fun _ iv _ => (intOf iv + 1).toNat)
  case atStart => exact ⟨K, 0, by omega, rfl, O2.out, B2.out, hz3⟩
  case round =>
    clear O2 B2 hz3
    obtain ⟨r, j, hrj, rfl, ho, hbl, hz⟩ := hrel
    obtain ⟨wo, rfl⟩ : ∃ wo : World, wo = wr := ⟨_, rfl⟩
    have HOo := Lib.hid ho
    have HB := Lib.hid hbl
    clear ho hbl
    rcases r with _ | s
    · have hd : decide ((0 : Int) ≤ ((0 : Nat) : Int) - 1) = false := by decide
      have hj : j = K := by omega
      subst hj
      go_wp2_with fail
      go_ret
      exact ⟨_, rfl, by unfold encL; rw [← HK.out]; exact HOo.out, HB.out⟩
    · have e1 : ((s + 1 : Nat) : Int) - 1 = (s : Int) := by omega
      rw [e1]
      have hd : decide ((0 : Int) ≤ (s : Int)) = true := by simp
      have B3 := Lib.hid (HB.out.alloc hz (.cells #[.int .u8 ((n : Int) / 2 ^ (s * 8) % 256)] 5))
      have S3 := Lib.hid (show Sl (wo.alloc (.cells #[.int .u8 ((n : Int) / 2 ^ (s * 8) % 256)] 5)) (wo.heap.size + 1) (some ⟨wo.heap.size, 0, none⟩) 1 1 (fun _ => BitVec.ofNat 8 (n / 256 ^ s)) by rw [byt_8]; exact Sl.one wo _ _ _ (by omega))
      have O3 := Lib.hid (HOo.out.alloc (.cells #[.int .u8 ((n : Int) / 2 ^ (s * 8) % 256)] 5))
      have hb3 : base ≤ (wo.alloc (.cells #[.int .u8 ((n : Int) / 2 ^ (s * 8) % 256)] 5)).heap.size := by simp; omega
      clear HB HOo
      go_wp2_with (at_builtin; refine wpl_appB rfl (.tmp 24) (.tmp 30) rfl sli_u u8_info O3.out S3.out (by omega) hb3 rfl rfl ?_; intro v4 w4 ho4 hg4 ht4)
      have hz4 := hg4.size
      have B4 := Lib.hid (O3.out.after hg4 B3.out hb3 (Nat.le_refl _))
      have O4 := Lib.hid (show Own w4 base 5 v4 (N + (j + 1) + 1) (catF N f (encF n)) from ho4.congr fun i hi => by
        have := enc_step n N j f (by rw [← HK.out]; omega) i hi
        rw [← HK.out, show K - (j + 1) = s by omega] at this
        exact this)
      have hz5 : base ≤ w4.heap.size := by omega
      clear ho4 hg4 ht4 hz4 B3 S3 O3 hb3
      go_roundw
      case rel => exact ⟨s, j + 1, by omega, rfl, O4.out, B4.out, hz5⟩
      case measure => simp [intOf]

set_option maxHeartbeats 1000000 in
theorem put_neg (n : Int) (N c : Nat) (A : Option Addr) (w : World) (hn : n < 0) :
    Calls Try.prog 50 #[.slice A N c, .int .i64 n] w fun e w' => e = .returned (.tuple #[.slice none 0 0, .int .i64 1]) ∧ w = w' := by
  have hd : decide (n < 0) = true := by simp; omega
  go_enter Try.func50, Try.ntmps50
  go_wp2_with fail
  exact bodyPost_ret (v := .tuple #[.slice none 0 0, .int .i64 1]) (by simp [results, Try.results50, go_sem]) rfl ⟨rfl, rfl⟩
set_option maxHeartbeats 1000000 in
theorem put_any (n N c : Nat) (A : Option Addr) (b : Bf) (w : World) (hs : Sl w w.heap.size A N c b) (hN : N ≤ 140737488355000) (hn : n < 9223372036854775808) :
    Calls Try.prog 50 #[.slice A N c, .int .i64 n] w fun e w' => ∃ v, e = .returned (.tuple #[v, .int .i64 0]) ∧ Own w' w.heap.size 5 v (N + encL n) (catF N b (encF n)) ∧ Below w.heap.size w w' := by
  have hd : decide ((n : Int) < 0) = false := by simp
  have H1 := Lib.hid (clone_any N c A b w hs (by omega))
  clear hs
  go_enter Try.func50, Try.ntmps50
  go_wp2_with fail
  refine H1.out.mono ?_
  rintro e w1 ⟨v1, rfl, ho1, hb1⟩
  have H2 := Lib.hid (appn_any n N w.heap.size v1 b w1 ho1 hN hb1.size hn)
  have B1 := Lib.hid hb1
  clear H1 ho1 hb1
  go_wp2_with fail
  refine H2.out.mono ?_
  rintro e w2 ⟨v2, rfl, ho2, hb2⟩
  have O2 := Lib.hid ho2
  have B2 := Lib.hid (B1.out.trans hb2)
  clear H2 ho2 hb2 B1
  go_wp2_with fail
  exact bodyPost_ret (v := .tuple #[v2, .int .i64 0]) (by simp [results, Try.results50, go_sem]) rfl ⟨_, rfl, O2.out, B2.out⟩
end Go.Proofs.Ytfpkfbojckgcdaa.Oct
