/- Types of envelope: [8]uint8; slices of api.Nonce. -/
import Derived.Test.YtamemjldafoolaaGreatEvMath
import Derived.Test.YtamemjldafoolaaGreatVlTy
namespace Go.Proofs.YtamemjldafoolaaGreat.Oct
open Go.ChangeShapes Go.WideShapes Go.ChangeAt Go.RowKit
set_option linter.unusedVariables false

theorem e8_u : Tryz.prog.underlying 92 = some (.array 8 5) := by kernel_rfl
theorem e8_i : (Tryz.prog.info? 92).map (·.size) = some 8 := by kernel_rfl
@[go_sem ↓] theorem e8_l (p : Value) : Instr.loadAt 92 p = ldA 92 p := rfl
@[go_sem ↓] theorem e8_s (p v : Value) : Instr.storeAt 92 p v = stA 92 p v := rfl
@[go_sem] theorem e8_ld (w : World) (b o : Nat) : (ldA 92 (.pointer (some ⟨b, o, none⟩))).run Tryz.prog w = ldR Tryz.prog 92 8 w b o (row w b) := ld_rule _ _ _ e8_u 8 e8_i w b o
@[go_sem] theorem e8_st (w : World) (b o : Nat) (c : Array Value) : (stA 92 (.pointer (some ⟨b, o, none⟩)) (.agg c)).run Tryz.prog w = stR Tryz.prog 92 8 w b o (.agg c) (row w b) := st_rule _ 8 e8_i w b o c
theorem e8_z : (Tryz.prog.info? 92).map (·.zero) = some (some (.agg (ba 8 fun _ => 0#8))) := by unfold ba; kernel_rfl
@[go_sem ↓] theorem e8_zero (w : World) : (zeroValue 92).run Tryz.prog w = .ok (.agg (ba 8 fun _ => 0#8)) w := zero_rule _ _ e8_z w
theorem size_ev {P : Program} {t m : Nat} (h : (P.info? t).map (·.size) = some m) (w : World) : (sizeOf t).run P w = .ok m w := by
  cases hq : P.info? t with
  | none => rw [hq] at h; cases h
  | some i =>
    rw [hq] at h
    have h' : i.size = m := Option.some.inj h
    simp [sizeOf, typeInfo, hq, h']
end Go.Proofs.YtamemjldafoolaaGreat.Oct
