/- The message that is laid byte by byte: what its row holds on the way. Of whatever program. -/
import Derived.Test.YtjebkokkgkkogaaDoorShaMath
import Derived.Test.YtjebkokkgkkogaaDoorOwnG
import Derived.Test.YtjebkokkgkkogaaDoorLib
namespace Go.Proofs.YtjebkokkgkkogaaDoor.Oct
open Go.RowKit

theorem msg_more (b : Bf) (N k : Nat) : (ba k (msg b N)).toList ++ [.int .u8 (I (msg b N k))] = (ba (k + 1) (msg b N)).toList := by
  have h := cat_ba k 1 (msg b N) (fun _ => msg b N k)
  rw [← ba_1] at h
  rw [show [Value.int .u8 (I (msg b N k))] = (#[.int .u8 (I (msg b N k))] : Array Value).toList from rfl, h]
  congr 1
  refine ba_ext fun i hi => ?_
  unfold catF
  by_cases hk : i < k
  · rw [if_pos hk]
  · rw [if_neg hk, show k = i by omega]
theorem msg_head (b : Bf) (N : Nat) : ba N b = ba N (msg b N) := ba_ext fun i hi => by unfold msg; rw [if_pos hi]
theorem msg_mark (b : Bf) (N : Nat) : msg b N N = 128#8 := by unfold msg; rw [if_neg (by omega), if_pos rfl]
theorem msg_zero (b : Bf) (N k : Nat) (h1 : N < k) (h2 : k < 64 * nbk N - 8) : msg b N k = 0#8 := by unfold msg; rw [if_neg (by omega), if_neg (by omega), if_pos h2]
theorem msg_len (b : Bf) (N i : Nat) (h : i < 8) : msg b N (64 * nbk N - (i + 1)) = BitVec.ofNat 8 (8 * N / 256 ^ i) := by
  have := nbk_bd N
  unfold msg lenB
  rw [if_neg (by omega), if_neg (by omega), if_neg (by omega), show 7 - (64 * nbk N - (i + 1) - (64 * nbk N - 8)) = i by omega]
/-- a row of the message, as a slice -/
theorem msg_sl {w : World} {base k : Nat} {u : TypeId} {v : Value} {b : Bf} {N : Nat} (h : w.ownsRow base u 1 v k (ba k (msg b N)).toList) : ∃ A c, v = .slice A k c ∧ Sl w w.heap.size A k c (msg b N) ∧ c ≤ maxLen := by
  obtain ⟨A, c, e, hs, hc, _⟩ := Own.sl (show Own w base u v k (msg b N) from h)
  exact ⟨A, c, e, hs, hc⟩
end Go.Proofs.YtjebkokkgkkogaaDoor.Oct
