/- strongroomlaw12.At, a place: three ints. -/
import Derived.Test.YtkgefljjjheobaaGreatDoorVlTy
import Derived.Test.YtkgefljjjheobaaGreatDoorFld
import Derived.Test.YtkgefljjjheobaaGreatDoorLib
import Derived.Test.YtkgefljjjheobaaGreatDoorShaT
import Derived.Laws.StructEq
namespace Go.Proofs.YtkgefljjjheobaaGreatDoor.Oct
open Go.ChangeShapes Go.WideShapes Go.ChangeAt Go.RowKit
set_option linter.unusedVariables false

@[irreducible] def atC (d t x : Int) : Array Value := #[.int .i64 d, .int .i64 t, .int .i64 x]
@[go_sem] theorem at_size (d t x : Int) : (atC d t x).size = 3 := by unfold atC; rfl
@[go_sem] theorem at_ne (d t x : Int) : (atC d t x = #[]) = False := eq_false fun e => by have := congrArg Array.size e; rw [at_size] at this; simp at this
theorem at_i : (Tryz.prog.info? 25).map (·.size) = some 3 := by kernel_rfl
@[go_sem ↓] theorem at_l (p : Value) : Instr.loadAt 25 p = ldA 25 p := rfl
@[go_sem] theorem at_ld (w : World) (b o : Nat) : (ldA 25 (.pointer (some ⟨b, o, none⟩))).run Tryz.prog w = ldR Tryz.prog 25 3 w b o (row w b) := ld_rule_d _ _ Tryz.underlying25 rfl 3 at_i w b o
@[go_sem] theorem at_lda (P : Program) (T : Nat) (d t x : Int) (w : World) (b : Nat) : ldR P T 3 w b 0 (some (atC d t x)) = .ok (.agg (atC d t x)) w := ldR_whole P T 3 w b _ (at_size d t x).symm
section
variable {w : World} {B : Nat} {d t x : Int} (h : row w B = some (atC d t x))
include h
theorem at_c0 : w.cell? ⟨B, 0, none⟩ = some (.int .i64 d) := by rw [cell_row h]; unfold atC; rfl
theorem at_c1 : w.cell? ⟨B, 1, none⟩ = some (.int .i64 t) := by rw [cell_row h]; unfold atC; rfl
theorem at_c2 : w.cell? ⟨B, 2, none⟩ = some (.int .i64 x) := by rw [cell_row h]; unfold atC; rfl
end
theorem eq_int9 (a x : Int) (w : World) : (Op.equalIn 9999 3 (.int .i64 a) (.int .i64 x)).run Tryz.prog w = .ok (a == x) w := by
  rw [show (9999 : Nat) = 9998 + 1 from rfl, run_equalIn_int w 9998 3 .i64 .i64 a x Tryz.underlying3]
theorem eqf_stepV {P : Program} {d : Nat} {xs ys : Array Value} {f : Field} {fs : List Field} {a b : Value} {r : Bool} {w : World} (hn : f.name ≠ "_") (ha : (Go.part f.type xs f.offset).run P w = .ok a w) (hb : (Go.part f.type ys f.offset).run P w = .ok b w) (he : (Op.equalIn d f.type a b).run P w = .ok r w) :
    (Op.eqFields d xs ys (f :: fs)).run P w = if r then (Op.eqFields d xs ys fs).run P w else .ok false w := by
  rw [Op.eqFields, if_pos hn]
  simp only [Sem.run_bind, ha, hb, he, Result.andThen_ok]
  cases r <;> simp
set_option maxRecDepth 20000 in
theorem eq_at (d t x d' t' x' : Int) (w : World) : (binOp .eql 25 (.agg (atC d t x)) (.agg (atC d' t' x'))).run Tryz.prog w = .ok (.bool ((d == d') && ((t == t') && (x == x')))) w := by
  have hS : Tryz.prog.underlying 25 = some (.struct (Tryz.prog.fieldsOf 25)) := by kernel_rfl
  have hp : Tryz.prog.stoodInHeld 25 = false := by kernel_rfl
  rw [run_eql_struct, show (10000 : Nat) = 9999 + 1 from rfl, run_equalIn_agg w 9999 25 _ _ hS hp]
  simp only [Program.fieldsOf, Tryz.underlying25]
  unfold atC
  rw [eqf_stepV (by decide) (a := .int .i64 d) (b := .int .i64 d') (by kernel_rfl) (by kernel_rfl) (eq_int9 _ _ w),
    eqf_stepV (by decide) (a := .int .i64 t) (b := .int .i64 t') (by kernel_rfl) (by kernel_rfl) (eq_int9 _ _ w),
    eqf_stepV (by decide) (a := .int .i64 x) (b := .int .i64 x') (by kernel_rfl) (by kernel_rfl) (eq_int9 _ _ w), Op.eqFields]
  generalize (d == d') = b1
  generalize (t == t') = b2
  generalize (x == x') = b3
  cases b1 <;> cases b2 <;> cases b3 <;> rfl

section
variable {H : Type} {enc : TypeId × Value → H} {w : World} {base : Nat} {spare : Nat → Bool} {held : Bool}
set_option maxRecDepth 20000 in
theorem open_at {r : Reach} {b : Nat} {v : Value} {d : DataW H} {p : List MemPlace} (hv : Value.okWide Tryz.prog w r b 25 v) (h : DataW.Trod enc Tryz.prog w base spare held 25 v d p) :
    ∃ k x y, v = .agg (atC k x y) := by
  obtain ⟨cs, rfl, hs, m, hall⟩ := open_struct Tryz.underlying25 hv h
  have hc : Tryz.prog.cellsOf 25 = 3 := by kernel_rfl
  have hl : cs.toList.length = 1 + 1 + 1 := by rw [Array.length_toList, hs, hc]
  obtain ⟨y0, e0⟩ := hall 0 _ rfl
  obtain ⟨y1, e1⟩ := hall 1 _ rfl
  obtain ⟨y2, e2⟩ := hall 2 _ rfl
  obtain ⟨k, ek, _, _⟩ := DataW.trod_int (k := .i64) (by kernel_rfl) e0
  obtain ⟨x, ex, _, _⟩ := DataW.trod_int (k := .i64) (by kernel_rfl) e1
  obtain ⟨y, ey, _, _⟩ := DataW.trod_int (k := .i64) (by kernel_rfl) e2
  refine ⟨k, x, y, ?_⟩
  congr 1
  apply Array.ext'
  rw [fld_three hl]
  rw [show fld cs.toList 0 1 = [.int .i64 k] from ek, show fld cs.toList 1 1 = [.int .i64 x] from ex, show fld cs.toList (1 + 1) 1 = [.int .i64 y] from ey]
  unfold atC
  rfl
end
end Go.Proofs.YtkgefljjjheobaaGreatDoor.Oct
