/- The struct types of disk and of its reference: their cells. -/
import Derived.Test.YthdhbjfenanbnaaDkT
import Derived.Test.YthdhbjfenanbnaaTyBs
import Derived.WalkSpells
import Derived.Deep.DeepCutAuto
import Derived.Lib.Hide
namespace Go.Proofs.Ythdhbjfenanbnaa.Oct
open Go.ChangeShapes Go.WideShapes Go.ChangeAt Go.RowKit
set_option linter.unusedVariables false

theorem ld_row {P : Program} (t : Nat) (d : TypeDesc) (hu : P.underlying t = some d) (hd : d.isRow = true) (m : Nat) (hi : (P.info? t).map (·.size) = some m) (w : World) (b o : Nat) :
    (ldA t (.pointer (some ⟨b, o, none⟩))).run P w = ldR P t m w b o (row w b) := by
  unfold ldR
  split
  · rename_i c hr
    split
    · rename_i hc
      obtain ⟨t', ht⟩ := row_is hr
      have hx := run_loadAt_mid (P := P) w b o t (c.extract o (o + m)).toList _ (World.rangeAt_of_block ht o m) hu hd (by rw [hi]; simp; omega)
      rw [Array.toArray_toList] at hx
      exact hx
    · rfl
  · rfl
/-! a change: kept, bytes -/
theorem chg_u : ∃ d, Try.prog.underlying 67 = some d ∧ d.isRow = true := ⟨_, Try.underlying67, rfl⟩
theorem chg_info : (Try.prog.info? 67).map (fun i => (i.zero, i.size, i.bytes)) = some (some (.agg #[.int .i64 0, .slice none 0 0]), 2, 32) := by kernel_rfl
theorem chg_i : (Try.prog.info? 67).map (·.size) = some 2 := by kernel_rfl
theorem slc_u : Try.prog.underlying 56 = some (.slice 67) := by kernel_rfl
theorem don_u : ∃ d, Try.prog.underlying 77 = some d ∧ d.isRow = true := ⟨_, Try.underlying77, rfl⟩
theorem don_info : (Try.prog.info? 77).map (fun i => (i.zero, i.size, i.bytes)) = some (some (.agg #[.bool false, .int .i64 0, .slice none 0 0]), 3, 40) := by kernel_rfl
theorem don_i : (Try.prog.info? 77).map (·.size) = some 3 := by kernel_rfl
theorem sld_u : Try.prog.underlying 37 = some (.slice 77) := by kernel_rfl
end Go.Proofs.Ythdhbjfenanbnaa.Oct
