/- Contracts: math/bits.Len, the reference's needs. -/
import Derived.Test.YtfpkfbojckgcdaaTySl
import Derived.Test.YtfpkfbojckgcdaaPkMath
import Derived.Lib.Hide
namespace Go.Proofs.Ytfpkfbojckgcdaa.Oct
open Go.ChangeShapes Go.WideShapes Go.ChangeAt Go.RowKit
set_option linter.unusedVariables false

set_option maxRecDepth 20000 in
/-- how many bits a byte needs, by the library's table -/
abbrev l8T : ByteArray := ⟨#[0, 1, 2, 2, 3, 3, 3, 3, 4, 4, 4, 4, 4, 4, 4, 4, 5, 5, 5, 5, 5, 5, 5, 5, 5, 5, 5, 5, 5, 5, 5, 5, 6, 6, 6, 6, 6, 6, 6, 6, 6, 6, 6, 6, 6, 6, 6, 6, 6, 6, 6, 6, 6, 6, 6, 6, 6, 6, 6, 6, 6, 6, 6, 6, 7, 7, 7, 7, 7, 7, 7, 7, 7, 7, 7, 7, 7, 7, 7, 7, 7, 7, 7, 7, 7, 7, 7, 7, 7, 7, 7, 7, 7, 7, 7, 7, 7, 7, 7, 7, 7, 7, 7, 7, 7, 7, 7, 7, 7, 7, 7, 7, 7, 7, 7, 7, 7, 7, 7, 7, 7, 7, 7, 7, 7, 7, 7, 7, 8, 8, 8, 8, 8, 8, 8, 8, 8, 8, 8, 8, 8, 8, 8, 8, 8, 8, 8, 8, 8, 8, 8, 8, 8, 8, 8, 8, 8, 8, 8, 8, 8, 8, 8, 8, 8, 8, 8, 8, 8, 8, 8, 8, 8, 8, 8, 8, 8, 8, 8, 8, 8, 8, 8, 8, 8, 8, 8, 8, 8, 8, 8, 8, 8, 8, 8, 8, 8, 8, 8, 8, 8, 8, 8, 8, 8, 8, 8, 8, 8, 8, 8, 8, 8, 8, 8, 8, 8, 8, 8, 8, 8, 8, 8, 8, 8, 8, 8, 8, 8, 8, 8, 8, 8, 8, 8, 8, 8, 8, 8, 8, 8, 8, 8, 8, 8, 8, 8, 8, 8, 8, 8, 8, 8, 8, 8, 8]⟩
set_option maxRecDepth 20000 in
theorem l8_size : l8T.size = 256 := by decide +kernel
set_option maxRecDepth 20000 in
theorem l8_all : ∀ x : Fin 256, ∀ h : x.val < l8T.size, (l8T[x.val]'h).toNat ≤ 8 ∧ ((l8T[x.val]'h).toNat = 0 ↔ x.val = 0) := by decide +kernel
set_option maxRecDepth 20000 in
theorem l8_in (B : Nat) (n x : Nat) (h : x < 256) (h' : x < l8T.size) (hB : B ≤ 56) (h8 : B % 8 = 0) (hk : nd n = B / 8 + if x = 0 then 0 else 1) (v : Int) (hv : v = wrap64 ((B : Int) + wrap64 ((l8T[x]'h').toNat : Int))) (w : World) :
    ∃ L : Nat, (Ending.returned (Value.int IntKind.i64 v)) = .returned (.int .i64 L) ∧ L ≤ 64 ∧ (L + 7) / 8 = nd n ∧ w = w := by
  obtain ⟨h1, h2⟩ := l8_all ⟨x, h⟩ h'
  simp only at h1 h2
  obtain ⟨t, ht⟩ : ∃ t, t = (l8T[x]'h').toNat := ⟨_, rfl⟩
  rw [← ht] at h1 h2 hv
  subst hv
  refine ⟨B + t, ?_, by omega, ?_, rfl⟩
  · rw [IntWalk.wrap64_in (t : Int) (by omega), IntWalk.wrap64_in _ (by omega)]; rfl
  · rw [hk]
    split
    · omega
    · omega
set_option maxHeartbeats 2000000 in
set_option maxRecDepth 20000 in
theorem len64_any (n : Nat) (hn : n < 18446744073709551616) (w : World) :
    Calls Try.prog 76 #[.int .u64 n] w fun e w' => ∃ L : Nat, e = .returned (.int .i64 L) ∧ L ≤ 64 ∧ (L + 7) / 8 = nd n ∧ w = w' := by
  go_enter Try.func76, Try.ntmps76
  by_cases h1 : n < 4294967296
  · have d1 : decide (4294967296 ≤ (n : Int)) = false := by simp; omega
    by_cases h2 : n < 65536
    · have d2 : decide (65536 ≤ (n : Int)) = false := by simp; omega
      by_cases h3 : n < 256
      · have d3 : decide (256 ≤ (n : Int)) = false := by simp; omega
        go_wp2_with fail
        go_ret
        exact l8_in 0 n (n) (by omega) (by rw [l8_size]; omega) (by omega) rfl (by unfold nd; (repeat' split) <;> omega) _ (congrArg wrap64 (Int.zero_add _).symm) _
      · have d3 : decide (256 ≤ (n : Int)) = true := by simp; omega
        go_wp2_with fail
        go_ret
        exact l8_in 8 n (n / 256) (by omega) (by rw [l8_size]; omega) (by omega) rfl (by unfold nd; (repeat' split) <;> omega) _ (by rfl) _
    · have d2 : decide (65536 ≤ (n : Int)) = true := by simp; omega
      by_cases h3 : n / 65536 < 256
      · have d3 : decide (256 ≤ (n : Int) / 65536) = false := by simp; omega
        go_wp2_with fail
        go_ret
        exact l8_in 16 n (n / 65536) (by omega) (by rw [l8_size]; omega) (by omega) rfl (by unfold nd; (repeat' split) <;> omega) _ (by rfl) _
      · have d3 : decide (256 ≤ (n : Int) / 65536) = true := by simp; omega
        go_wp2_with fail
        go_ret
        exact l8_in 24 n (n / 65536 / 256) (by omega) (by rw [l8_size]; omega) (by omega) rfl (by unfold nd; (repeat' split) <;> omega) _ (by rfl) _
  · have d1 : decide (4294967296 ≤ (n : Int)) = true := by simp; omega
    by_cases h2 : n / 4294967296 < 65536
    · have d2 : decide (65536 ≤ (n : Int) / 4294967296) = false := by simp; omega
      by_cases h3 : n / 4294967296 < 256
      · have d3 : decide (256 ≤ (n : Int) / 4294967296) = false := by simp; omega
        go_wp2_with fail
        go_ret
        exact l8_in 32 n (n / 4294967296) (by omega) (by rw [l8_size]; omega) (by omega) rfl (by unfold nd; (repeat' split) <;> omega) _ (by rfl) _
      · have d3 : decide (256 ≤ (n : Int) / 4294967296) = true := by simp; omega
        go_wp2_with fail
        go_ret
        exact l8_in 40 n (n / 4294967296 / 256) (by omega) (by rw [l8_size]; omega) (by omega) rfl (by unfold nd; (repeat' split) <;> omega) _ (by rfl) _
    · have d2 : decide (65536 ≤ (n : Int) / 4294967296) = true := by simp; omega
      by_cases h3 : n / 4294967296 / 65536 < 256
      · have d3 : decide (256 ≤ (n : Int) / 4294967296 / 65536) = false := by simp; omega
        go_wp2_with fail
        go_ret
        exact l8_in 48 n (n / 4294967296 / 65536) (by omega) (by rw [l8_size]; omega) (by omega) rfl (by unfold nd; (repeat' split) <;> omega) _ (by rfl) _
      · have d3 : decide (256 ≤ (n : Int) / 4294967296 / 65536) = true := by simp; omega
        go_wp2_with fail
        go_ret
        exact l8_in 56 n (n / 4294967296 / 65536 / 256) (by omega) (by rw [l8_size]; omega) (by omega) rfl (by unfold nd; (repeat' split) <;> omega) _ (by rfl) _

set_option maxHeartbeats 1000000 in
theorem blen_any (n : Nat) (hn : n < 9223372036854775808) (w : World) :
    Calls Try.prog 71 #[.int .u64 n] w fun e w' => ∃ L : Nat, e = .returned (.int .i64 L) ∧ L ≤ 64 ∧ (L + 7) / 8 = nd n ∧ w = w' := by
  have H := Lib.hid (len64_any n (by omega) w)
  go_enter Try.func71, Try.ntmps71
  go_wp2_with fail
  refine H.out.mono ?_
  rintro e w' ⟨L, rfl, h1, h2, rfl⟩
  go_wp2_with fail
  go_ret
  exact ⟨L, rfl, h1, h2, rfl⟩

set_option maxHeartbeats 1000000 in
theorem needs_any (n : Nat) (hn : n < 9223372036854775808) (w : World) :
    Calls Try.prog 53 #[.int .i64 n] w fun e w' => e = .returned (.int .i64 (nd n : Nat)) ∧ w = w' := by
  go_enter Try.func53, Try.ntmps53
  go_wp2_with fail
  go_loopw [0, 3] (fun nv kv wr => ∃ m k : Nat, m ≤ n ∧ k + nd m = nd n ∧ nv = .int .i64 m ∧ kv = .int .i64 k ∧ wr = w) (fun nv _ _ => (intOf nv).toNat)
  case atStart => exact ⟨n, 0, Nat.le_refl _, by omega, rfl, rfl, rfl⟩
  case round =>
    obtain ⟨m, k, hm, hk, rfl, rfl, rfl⟩ := hrel
    have hk8 := nd_le n
    by_cases h0 : m = 0
    · subst h0
      have hk0 : k = nd n := by rw [nd_zero] at hk; omega
      subst hk0
      go_wp2_with fail
      go_ret
      exact ⟨rfl, rfl⟩
    · have hd : decide ((0 : Int) < (m : Int)) = true := by simp; omega
      have hs := nd_step m (by omega) (by omega)
      have HS := Lib.hid hs
      have HK := Lib.hid hk
      have hk9 : k ≤ 8 := by omega
      clear hs hk
      go_wp2_with fail
      go_roundw
      case rel => exact ⟨m / 256, k + 1, by omega, by have := HS.out; have := HK.out; omega, rfl, rfl, trivial⟩
      case measure => simp [intOf]; omega
end Go.Proofs.Ytfpkfbojckgcdaa.Oct
