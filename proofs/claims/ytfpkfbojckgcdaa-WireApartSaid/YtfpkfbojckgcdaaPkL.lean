/- What the statements of layer 8 share: strings put together. -/
import Derived.Test.YtfpkfbojckgcdaaPkV
namespace Go.Proofs.Ytfpkfbojckgcdaa.Oct
open Go.ChangeShapes Go.WideShapes Go.ChangeAt Go.RowKit
set_option linter.unusedVariables false

theorem str_cat (n m : Nat) (p q : Bf) : strOf n p ++ strOf m q = strOf (n + m) (catF n p q) := by
  unfold strOf
  have h : ((List.range n).map fun i => UInt8.ofNat (p i).toNat) ++ ((List.range m).map fun i => UInt8.ofNat (q i).toNat) = (List.range (n + m)).map fun i => UInt8.ofNat (catF n p q i).toNat := by
    rw [List.range_add, List.map_append, List.map_map]
    congr 1
    · apply List.map_congr_left
      intro i hi
      have := List.mem_range.1 hi
      simp [catF, this]
    · apply List.map_congr_left
      intro i _
      simp only [Function.comp, catF]
      rw [if_neg (by omega), Nat.add_sub_cancel_left]
  rw [← h]
  apply ByteArray.ext
  simp
/-- a row that is one behind another, as strings put together -/
theorem conv_two {w : World} {b n m : Nat} {v : Value} {f g : Bf} (h : Own w b 5 v (n + m) (catF n f g)) : (convert 22 9 v).run Try.prog w = .ok (.string (strOf n f ++ strOf m g)) w := by
  rw [str_cat]; exact conv_own h
theorem conv_sl {w : World} {B n c : Nat} {A : Option Addr} {f : Bf} (h : Sl w B A n c f) : (convert 22 9 (.slice A n c)).run Try.prog w = .ok (.string (strOf n f)) w := run_str sli_u u8_u str_u h
theorem conv_nil (w : World) : (convert 22 9 (.slice none 0 0)).run Try.prog w = .ok (.string (strOf 0 nF)) w := run_str sli_u u8_u str_u (Sl.nothing w 0 none 0 nF)
theorem tll_le {n : Nat} {m : Int} {f : Bf} (h : tllE n m f = 0) (hm : m ≤ 2000) : tkV f ≤ 2000 := by
  unfold tllE at h
  split at h
  · omega
  split at h
  · omega
  · omega
end Go.Proofs.Ytfpkfbojckgcdaa.Oct
