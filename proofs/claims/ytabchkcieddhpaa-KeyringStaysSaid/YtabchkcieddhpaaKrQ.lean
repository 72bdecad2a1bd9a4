/- A call in a variable: its zero, stored whole. -/
import Derived.Test.YtabchkcieddhpaaKrL
namespace Go.Proofs.Ytabchkcieddhpaa.Oct
open Go.ChangeShapes Go.WideShapes Go.ChangeAt Go.RowKit
set_option linter.unusedVariables false

def op0 : OpK := ⟨0, 0, 0, fun _ => 0#8⟩
theorem opA_list (o : OpK) : (opA o).toList = okC o := by unfold opA; rfl
theorem okC_one : ∀ (o : OpK), ∀ x ∈ okC o, x.oneCell' = true := by
  intro o x hx
  obtain ⟨i, hi, rfl⟩ := List.mem_iff_getElem.1 hx
  rw [okC_len] at hi
  have e : ∀ y, (okC o)[i]? = some y → (okC o)[i] = y := fun y h => by rw [List.getElem?_eq_getElem (by rw [okC_len]; exact hi)] at h; exact Option.some.inj h
  by_cases h0 : i = 0
  · subst h0; rw [e _ (okC_0 o)]; rfl
  by_cases h1 : i = 1
  · subst h1; rw [e _ (okC_1 o)]; rfl
  by_cases h2 : i = 2
  · subst h2; rw [e _ (okC_2 o)]; rfl
  obtain ⟨k, rfl⟩ : ∃ k, i = 3 + k := ⟨i - 3, by omega⟩
  rw [e _ (okC_m o k (by omega))]; rfl
theorem opA_ones (o : OpK) : Ones (opA o) := by
  show (opA o).all _ = true
  rw [← Array.all_toList, opA_list, List.all_eq_true]
  exact okC_one o
@[go_sem ↓] theorem op_s (p v : Value) : Instr.storeAt 34 p v = stA 34 p v := rfl
@[go_sem] theorem op_st (w : World) (b o : Nat) (c : Array Value) : (stA 34 (.pointer (some ⟨b, o, none⟩)) (.agg c)).run Try.prog w = stR Try.prog 34 35 w b o (.agg c) (row w b) := st_rule _ 35 op_i w b o c
theorem op_z : (Try.prog.info? 34).map (·.zero) = some (some (.agg (opA op0))) := by unfold opA okC ba; kernel_rfl
@[go_sem ↓] theorem op_zero (w : World) : (zeroValue 34).run Try.prog w = .ok (.agg (opA op0)) w := by
  have h := op_z
  cases hq : Try.prog.info? 34 with
  | none => rw [hq] at h; cases h
  | some i =>
    rw [hq] at h
    have h' : i.zero = some (.agg (opA op0)) := Option.some.inj h
    simp [zeroValue, typeInfo, hq, h']
@[go_sem] theorem opA_stw (P : Program) (T : Nat) (v x : OpK) (w : World) (B : Nat) : stR P T 35 w B 0 (.agg (opA x)) (some (opA v)) = .ok () (w.setRow B (opA x)) := stR_whole P T 35 w B _ _ (opA_size v).symm (by rw [opA_size, opA_size]) (opA_ones x)
end Go.Proofs.Ytabchkcieddhpaa.Oct
