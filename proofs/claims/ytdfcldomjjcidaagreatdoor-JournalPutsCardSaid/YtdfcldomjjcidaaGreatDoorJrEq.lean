/- journal's structs compared: Hard, place, fields. -/
import Derived.Test.YtdfcldomjjcidaaGreatDoorTyJr
import Derived.Laws.StructEq
namespace Go.Proofs.YtdfcldomjjcidaaGreatDoor.Oct
open Go.ChangeShapes Go.WideShapes Go.ChangeAt Go.RowKit
set_option linter.unusedVariables false

theorem eq_hard (a b x y : Int) (w : World) : (binOp .eql 24 (.agg #[.int .i64 a, .int .i64 b]) (.agg #[.int .i64 x, .int .i64 y])).run Tryz.prog w = .ok (.bool ((a == x) && (b == y))) w := by
  have u3 := Tryz.underlying3
  have hS : Tryz.prog.underlying 24 = some (.struct (Tryz.prog.fieldsOf 24)) := by kernel_rfl
  have hp : Tryz.prog.stoodInHeld 24 = false := by kernel_rfl
  rw [run_eql_struct, show (10000 : Nat) = 9999 + 1 from rfl, run_equalIn_agg w 9999 24 _ _ hS hp]
  simp only [Program.fieldsOf, Tryz.underlying24]
  go_simp
  by_cases h1 : a = x <;> by_cases h2 : b = y <;> simp [h1, h2]
theorem eq_place (a b x y : Int) (w : World) : (binOp .eql 106 (.agg #[.int .i64 a, .int .i64 b]) (.agg #[.int .i64 x, .int .i64 y])).run Tryz.prog w = .ok (.bool ((a == x) && (b == y))) w := by
  have u3 := Tryz.underlying3
  have hS : Tryz.prog.underlying 106 = some (.struct (Tryz.prog.fieldsOf 106)) := by kernel_rfl
  have hp : Tryz.prog.stoodInHeld 106 = false := by kernel_rfl
  rw [run_eql_struct, show (10000 : Nat) = 9999 + 1 from rfl, run_equalIn_agg w 9999 106 _ _ hS hp]
  simp only [Program.fieldsOf, Tryz.underlying106]
  go_simp
  by_cases h1 : a = x <;> by_cases h2 : b = y <;> simp [h1, h2]
/-- the fields beside the kind -/
@[irreducible] def fdC (r : Rc) : Array Value := #[.int .i64 r.i, .int .i64 r.t, .int .i64 r.n, .int .i64 r.a, .int .i64 r.b, .int .i64 r.e.t, .int .i64 r.e.k, .int .i64 r.e.T, .int .i64 r.e.n]
def fdB (r : Rc) : Bool := (r.i == 0) && ((r.t == 0) && ((r.n == 0) && (((r.a == 0) && (r.b == 0)) && ((r.e.t == 0) && ((r.e.k == 0) && (((r.e.T : Int) == 0) && ((r.e.n : Int) == 0)))))))
theorem eq_hard' (a b x y : Int) (w : World) : (Op.equalIn 9999 24 (.agg #[.int .i64 a, .int .i64 b]) (.agg #[.int .i64 x, .int .i64 y])).run Tryz.prog w = .ok ((a == x) && (b == y)) w := by
  have u3 := Tryz.underlying3
  have hS : Tryz.prog.underlying 24 = some (.struct (Tryz.prog.fieldsOf 24)) := by kernel_rfl
  have hp : Tryz.prog.stoodInHeld 24 = false := by kernel_rfl
  rw [show (9999 : Nat) = 9998 + 1 from rfl, run_equalIn_agg w 9998 24 _ _ hS hp]
  simp only [Program.fieldsOf, Tryz.underlying24]
  go_simp
  by_cases h1 : a = x <;> by_cases h2 : b = y <;> simp [h1, h2]
theorem eq_int' (a x : Int) (w : World) : (Op.equalIn 9999 3 (.int .i64 a) (.int .i64 x)).run Tryz.prog w = .ok (a == x) w := by
  rw [show (9999 : Nat) = 9998 + 1 from rfl, run_equalIn_int w 9998 3 .i64 .i64 a x Tryz.underlying3]
theorem eqf_step {P : Program} {d : Nat} {xs ys : Array Value} {f : Field} {fs : List Field} {a b : Value} {r : Bool} {w : World} (hn : f.name ≠ "_") (ha : (part f.type xs f.offset).run P w = .ok a w) (hb : (part f.type ys f.offset).run P w = .ok b w) (he : (Op.equalIn d f.type a b).run P w = .ok r w) :
    (Op.eqFields d xs ys (f :: fs)).run P w = if r then (Op.eqFields d xs ys fs).run P w else .ok false w := by
  rw [Op.eqFields, if_pos hn]
  simp only [Sem.run_bind, ha, hb, he, Result.andThen_ok]
  cases r <;> simp
set_option maxRecDepth 20000 in
set_option maxHeartbeats 1000000 in
theorem ne_fields (r : Rc) (w : World) : (binOp .neq 89 (.agg (fdC r)) (.agg (fdC .zero))).run Tryz.prog w = .ok (.bool (!fdB r)) w := by
  have hS : Tryz.prog.underlying 89 = some (.struct (Tryz.prog.fieldsOf 89)) := by kernel_rfl
  have hp : Tryz.prog.stoodInHeld 89 = false := by kernel_rfl
  rw [run_neq_struct, show (10000 : Nat) = 9999 + 1 from rfl, run_equalIn_agg w 9999 89 _ _ hS hp]
  simp only [Program.fieldsOf, Tryz.underlying89]
  unfold fdC fdB
  rw [eqf_step (by decide) (a := .int .i64 r.i) (b := .int .i64 0) (by kernel_rfl) (by kernel_rfl) (eq_int' _ _ w),
    eqf_step (by decide) (a := .int .i64 r.t) (b := .int .i64 0) (by kernel_rfl) (by kernel_rfl) (eq_int' _ _ w),
    eqf_step (by decide) (a := .int .i64 r.n) (b := .int .i64 0) (by kernel_rfl) (by kernel_rfl) (eq_int' _ _ w),
    eqf_step (by decide) (a := .agg #[.int .i64 r.a, .int .i64 r.b]) (b := .agg #[.int .i64 0, .int .i64 0]) (by kernel_rfl) (by kernel_rfl) (eq_hard' _ _ _ _ w),
    eqf_step (by decide) (a := .int .i64 r.e.t) (b := .int .i64 0) (by kernel_rfl) (by kernel_rfl) (eq_int' _ _ w),
    eqf_step (by decide) (a := .int .i64 r.e.k) (b := .int .i64 0) (by kernel_rfl) (by kernel_rfl) (eq_int' _ _ w),
    eqf_step (by decide) (a := .int .i64 r.e.T) (b := .int .i64 0) (by kernel_rfl) (by kernel_rfl) (eq_int' _ _ w),
    eqf_step (by decide) (a := .int .i64 r.e.n) (b := .int .i64 0) (by kernel_rfl) (by kernel_rfl) (eq_int' _ _ w), Op.eqFields]
  generalize (r.i == 0) = b1
  generalize (r.t == 0) = b2
  generalize (r.n == 0) = b3
  generalize (r.a == 0 && r.b == 0) = b4
  generalize (r.e.t == 0) = b5
  generalize (r.e.k == 0) = b6
  generalize ((r.e.T : Int) == 0) = b7
  generalize ((r.e.n : Int) == 0) = b8
  cases b1 <;> cases b2 <;> cases b3 <;> cases b4 <;> cases b5 <;> cases b6 <;> cases b7 <;> cases b8 <;> rfl
theorem fd_i : (Tryz.prog.info? 89).map (·.size) = some 9 := by kernel_rfl
@[go_sem] theorem fd_size (r : Rc) : (fdC r).size = 9 := by unfold fdC; rfl
@[go_sem] theorem fd_ne (r : Rc) : (fdC r = #[]) = False := eq_false fun e => by have := congrArg Array.size e; rw [fd_size] at this; simp at this
theorem fd_ones (r : Rc) : Ones (fdC r) := by
  unfold Ones fdC
  have a (x : Int) : (Value.int .i64 x).oneCell' = true := rfl
  simp [a]
@[go_sem ↓] theorem fd_s (p v : Value) : Instr.storeAt 89 p v = stA 89 p v := rfl
@[go_sem] theorem fd_st (w : World) (b o : Nat) (c : Array Value) : (stA 89 (.pointer (some ⟨b, o, none⟩)) (.agg c)).run Tryz.prog w = stR Tryz.prog 89 9 w b o (.agg c) (row w b) := st_rule _ 9 fd_i w b o c
@[go_sem] theorem fd_stw (P : Program) (t : Nat) (w : World) (b : Nat) (r r' : Rc) : stR P t 9 w b 0 (.agg (fdC r)) (some (fdC r')) = .ok () (w.setRow b (fdC r)) :=
  stR_whole P t 9 w b _ _ (fd_size _).symm (by rw [fd_size, fd_size]) (fd_ones _)
@[go_sem ↓] theorem fd_bd (parts : Array (Nat × Value)) : Instr.build 89 parts = bdA 89 parts := rfl
theorem fd_bdu (parts : Array (Nat × Value)) (w : World) (v : Value) (h : (Instr.build 89 parts).run Tryz.prog w = .ok v w) : (bdA 89 parts).run Tryz.prog w = .ok v w := h
@[go_sem] theorem fd_b0 (w : World) : (bdA 89 #[]).run Tryz.prog w = .ok (.agg (fdC .zero)) w := fd_bdu _ _ _ (by unfold fdC; kernel_rfl)
theorem fd_b8 (r : Rc) (w : World) : (bdA 89 #[(0, .int .i64 r.i), (1, .int .i64 r.t), (2, .int .i64 r.n), (3, .agg #[.int .i64 r.a, .int .i64 r.b]), (4, .int .i64 r.e.t), (5, .int .i64 r.e.k), (6, .int .i64 r.e.T), (7, .int .i64 r.e.n)]).run Tryz.prog w = .ok (.agg (fdC r)) w := fd_bdu _ _ _ (by unfold fdC; kernel_rfl)
theorem fd_lit0 : #[.int .i64 0, .int .i64 0, .int .i64 0, .int .i64 0, .int .i64 0, .int .i64 0, .int .i64 0, .int .i64 0, .int .i64 0] = fdC .zero := by unfold fdC; rfl
end Go.Proofs.YtdfcldomjjcidaaGreatDoor.Oct
