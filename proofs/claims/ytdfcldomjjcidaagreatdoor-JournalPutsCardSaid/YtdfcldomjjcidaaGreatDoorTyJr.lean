/- journal's struct types: Record, State (and its reference's): their cells, loads, stores. -/
import Derived.Test.YtdfcldomjjcidaaGreatDoorJrA
namespace Go.Proofs.YtdfcldomjjcidaaGreatDoor.Oct
open Go.ChangeShapes Go.WideShapes Go.ChangeAt Go.RowKit
set_option linter.unusedVariables false

theorem ld_rowJ {P : Program} (t : Nat) (d : TypeDesc) (hu : P.underlying t = some d) (hd : d.isRow = true) (m : Nat) (hi : (P.info? t).map (·.size) = some m) (w : World) (b o : Nat) :
    (ldA t (.pointer (some ⟨b, o, none⟩))).run P w = ldR P t m w b o (row w b) := by
  unfold ldR
  split
  · rename_i c hr
    split
    · rename_i hc
      obtain ⟨t', ht⟩ := row_is hr
      have hx := run_loadAt_mid (P := P) w b o t (c.extract o (o + m)).toList _ (World.rangeAt_of_block ht o m) hu hd (by rw [hi]; simp; omega)
      rw [Array.toArray_toList] at hx
      exact hx
    · rfl
  · rfl
theorem res_c {P : Program} {fn : Func} {p : Tmp} {ty : TypeId} (h : fn.results = #[.cell p ty]) (tmps : Array Value) (w : World) (b : Nat) (c : Array Value) (d : TypeDesc)
    (hp : tmps.getD p undef = .pointer (some ⟨b, 0, none⟩)) (hr : row w b = some c) (hu : P.underlying ty = some d) (hd : d.isRow = true) (hi : (P.info? ty).map (·.size) = some c.size) :
    (results fn tmps).run P w = .ok (.agg c) w := by
  have hp2 : tmps[p]?.getD undef = .pointer (some ⟨b, 0, none⟩) := by simpa using hp
  simp only [results, h]
  simp [hp2, asAddr, load_row hr hu hd hi]
/-- an entry: its numbers, its text, its members -/
structure En where
  t : Int
  k : Int
  T : Nat
  f : Bf
  n : Nat
  x : Nat → Int
/-- a record: Kind, Index, Term, N, Hard, E -/
structure Rc where
  k : Int
  i : Int
  t : Int
  n : Int
  a : Int
  b : Int
  e : En
def En.zero : En := ⟨0, 0, 0, nF, 0, fun _ => 0⟩
def Rc.zero : Rc := ⟨0, 0, 0, 0, 0, 0, .zero⟩
/-- its cells; D, M: its text's slice, its members' slice -/
@[irreducible] def rcC (r : Rc) (D M : Value) : Array Value := #[.int .i64 r.k, .int .i64 r.i, .int .i64 r.t, .int .i64 r.n, .int .i64 r.a, .int .i64 r.b, .int .i64 r.e.t, .int .i64 r.e.k, D, M]
@[go_sem] theorem rc_size (r : Rc) (D M : Value) : (rcC r D M).size = 10 := by unfold rcC; rfl
@[go_sem] theorem rc_ne (r : Rc) (D M : Value) : (rcC r D M = #[]) = False := eq_false fun e => by have := congrArg Array.size e; rw [rc_size] at this; simp at this
theorem rc_ones (r : Rc) {D M : Value} (hu : D.oneCell' = true) (hv : M.oneCell' = true) : Ones (rcC r D M) := by
  unfold Ones rcC
  have a (x : Int) : (Value.int .i64 x).oneCell' = true := rfl
  simp [hu, hv, a]
theorem rc_i : (Tryz.prog.info? 29).map (·.size) = some 10 := by kernel_rfl
@[go_sem ↓] theorem rc_l (p : Value) : Instr.loadAt 29 p = ldA 29 p := rfl
@[go_sem ↓] theorem rc_s (p v : Value) : Instr.storeAt 29 p v = stA 29 p v := rfl
@[go_sem] theorem rc_ld (w : World) (b o : Nat) : (ldA 29 (.pointer (some ⟨b, o, none⟩))).run Tryz.prog w = ldR Tryz.prog 29 10 w b o (row w b) := ld_rowJ _ _ Tryz.underlying29 rfl 10 rc_i w b o
@[go_sem] theorem rc_st (w : World) (b o : Nat) (c : Array Value) : (stA 29 (.pointer (some ⟨b, o, none⟩)) (.agg c)).run Tryz.prog w = stR Tryz.prog 29 10 w b o (.agg c) (row w b) := st_rule _ 10 rc_i w b o c
@[go_sem] theorem rc_ldw (P : Program) (t : Nat) (w : World) (b : Nat) (r : Rc) (D M : Value) : ldR P t 10 w b 0 (some (rcC r D M)) = .ok (.agg (rcC r D M)) w := ldR_whole P t 10 w b _ (rc_size r D M).symm
@[go_sem] theorem rc_stw (P : Program) (t : Nat) (w : World) (b : Nat) (r r' : Rc) (A A' : Option Addr) (n c n' c' : Nat) (D' M' : Value) : stR P t 10 w b 0 (.agg (rcC r (.slice A n c) (.slice A' n' c'))) (some (rcC r' D' M')) = .ok () (w.setRow b (rcC r (.slice A n c) (.slice A' n' c'))) :=
  stR_whole P t 10 w b _ _ (rc_size _ _ _).symm (by rw [rc_size, rc_size]) (rc_ones _ rfl rfl)
@[go_sem] theorem rc_stl (P : Program) (t : Nat) (w : World) (b : Nat) (r : Rc) (A A' : Option Addr) (n c n' c' : Nat) (x0 x1 x2 x3 x4 x5 x6 x7 x8 x9 : Value) : stR P t 10 w b 0 (.agg (rcC r (.slice A n c) (.slice A' n' c'))) (some #[x0, x1, x2, x3, x4, x5, x6, x7, x8, x9]) = .ok () (w.setRow b (rcC r (.slice A n c) (.slice A' n' c'))) :=
  stR_whole P t 10 w b _ _ rfl (by rw [rc_size]; rfl) (rc_ones _ rfl rfl)
theorem rc_cells {w : World} {B : Nat} {r : Rc} {D M : Value} (h : row w B = some (rcC r D M)) : w.cell? ⟨B, 0, none⟩ = some (.int .i64 r.k) ∧ w.cell? ⟨B, 1, none⟩ = some (.int .i64 r.i) ∧ w.cell? ⟨B, 2, none⟩ = some (.int .i64 r.t) ∧ w.cell? ⟨B, 3, none⟩ = some (.int .i64 r.n) ∧
    w.cell? ⟨B, 4, none⟩ = some (.int .i64 r.a) ∧ w.cell? ⟨B, 5, none⟩ = some (.int .i64 r.b) ∧ w.cell? ⟨B, 6, none⟩ = some (.int .i64 r.e.t) ∧ w.cell? ⟨B, 7, none⟩ = some (.int .i64 r.e.k) ∧ w.cell? ⟨B, 8, none⟩ = some D ∧ w.cell? ⟨B, 9, none⟩ = some M := by
  simp only [cell_row h]
  unfold rcC
  exact ⟨rfl, rfl, rfl, rfl, rfl, rfl, rfl, rfl, rfl, rfl⟩
/-- an entry laid into a record, cell by cell -/
theorem rc_setE {w : World} {B : Nat} {r : Rc} {D M : Value} (h : row w B = some (rcC r D M)) (e : En) (D' M' : Value) :
    (((w.setCell ⟨B, 6, none⟩ (.int .i64 e.t)).setCell ⟨B, 7, none⟩ (.int .i64 e.k)).setCell ⟨B, 8, none⟩ D').setCell ⟨B, 9, none⟩ M' = w.setRow B (rcC { r with e := e } D' M') := by
  rw [setCell_row h, setCell_row (row_setRow h _), setRow_setRow, setCell_row (row_setRow h _), setRow_setRow, setCell_row (row_setRow h _), setRow_setRow]
  unfold rcC
  rfl
abbrev nilS : Value := .slice none 0 0
theorem rc_z : (Tryz.prog.info? 29).map (·.zero) = some (some (.agg (rcC .zero nilS nilS))) := by unfold rcC; kernel_rfl
theorem rc_lit (k i t n a b et ek : Int) (T m : Nat) (f : Bf) (x : Nat → Int) (D M : Value) : #[.int .i64 k, .int .i64 i, .int .i64 t, .int .i64 n, .int .i64 a, .int .i64 b, .int .i64 et, .int .i64 ek, D, M] = rcC ⟨k, i, t, n, a, b, et, ek, T, f, m, x⟩ D M := by unfold rcC; rfl
theorem rc_lit0 : #[.int .i64 0, .int .i64 0, .int .i64 0, .int .i64 0, .int .i64 0, .int .i64 0, .int .i64 0, .int .i64 0, nilS, nilS] = rcC .zero nilS nilS := by unfold rcC; rfl
@[go_sem ↓] theorem rc_bd (parts : Array (Nat × Value)) : Instr.build 29 parts = bdA 29 parts := rfl
theorem rc_bdu (parts : Array (Nat × Value)) (w : World) (v : Value) (h : (Instr.build 29 parts).run Tryz.prog w = .ok v w) : (bdA 29 parts).run Tryz.prog w = .ok v w := h
@[go_sem] theorem rc_b0 (w : World) : (bdA 29 #[]).run Tryz.prog w = .ok (.agg (rcC .zero nilS nilS)) w := rc_bdu _ _ _ (by unfold rcC; kernel_rfl)

/-- a state: Hard, Index, Term, File, Entries -/
structure St where
  a : Int
  b : Int
  i : Int
  t : Int
  f : Int
  l : List En
def St.zero : St := ⟨0, 0, 0, 0, 0, []⟩
@[irreducible] def stC (s : St) (V : Value) : Array Value := #[.int .i64 s.a, .int .i64 s.b, .int .i64 s.i, .int .i64 s.t, .int .i64 s.f, V]
@[go_sem] theorem st_size (s : St) (V : Value) : (stC s V).size = 6 := by unfold stC; rfl
@[go_sem] theorem st_ne (s : St) (V : Value) : (stC s V = #[]) = False := eq_false fun e => by have := congrArg Array.size e; rw [st_size] at this; simp at this
theorem st_ones (s : St) {V : Value} (hu : V.oneCell' = true) : Ones (stC s V) := by
  unfold Ones stC
  have a (x : Int) : (Value.int .i64 x).oneCell' = true := rfl
  simp [hu, a]
theorem st_cells {w : World} {B : Nat} {s : St} {V : Value} (h : row w B = some (stC s V)) : w.cell? ⟨B, 0, none⟩ = some (.int .i64 s.a) ∧ w.cell? ⟨B, 1, none⟩ = some (.int .i64 s.b) ∧ w.cell? ⟨B, 2, none⟩ = some (.int .i64 s.i) ∧ w.cell? ⟨B, 3, none⟩ = some (.int .i64 s.t) ∧
    w.cell? ⟨B, 4, none⟩ = some (.int .i64 s.f) ∧ w.cell? ⟨B, 5, none⟩ = some V := by
  simp only [cell_row h]
  unfold stC
  exact ⟨rfl, rfl, rfl, rfl, rfl, rfl⟩
@[go_sem] theorem st_ldw (P : Program) (t : Nat) (w : World) (b : Nat) (s : St) (V : Value) : ldR P t 6 w b 0 (some (stC s V)) = .ok (.agg (stC s V)) w := ldR_whole P t 6 w b _ (st_size s V).symm
@[go_sem] theorem st_stw (P : Program) (t : Nat) (w : World) (b : Nat) (s s' : St) (A : Option Addr) (n c : Nat) (V' : Value) : stR P t 6 w b 0 (.agg (stC s (.slice A n c))) (some (stC s' V')) = .ok () (w.setRow b (stC s (.slice A n c))) :=
  stR_whole P t 6 w b _ _ (st_size _ _).symm (by rw [st_size, st_size]) (st_ones _ rfl)
@[go_sem] theorem st_stl (P : Program) (t : Nat) (w : World) (b : Nat) (s : St) (A : Option Addr) (n c : Nat) (x0 x1 x2 x3 x4 x5 : Value) : stR P t 6 w b 0 (.agg (stC s (.slice A n c))) (some #[x0, x1, x2, x3, x4, x5]) = .ok () (w.setRow b (stC s (.slice A n c))) :=
  stR_whole P t 6 w b _ _ rfl (by rw [st_size]; rfl) (st_ones _ rfl)
theorem stj_i : (Tryz.prog.info? 51).map (·.size) = some 6 := by kernel_rfl
@[go_sem ↓] theorem stj_l (p : Value) : Instr.loadAt 51 p = ldA 51 p := rfl
@[go_sem ↓] theorem stj_s (p v : Value) : Instr.storeAt 51 p v = stA 51 p v := rfl
@[go_sem] theorem stj_ld (w : World) (b o : Nat) : (ldA 51 (.pointer (some ⟨b, o, none⟩))).run Tryz.prog w = ldR Tryz.prog 51 6 w b o (row w b) := ld_rowJ _ _ Tryz.underlying51 rfl 6 stj_i w b o
@[go_sem] theorem stj_st (w : World) (b o : Nat) (c : Array Value) : (stA 51 (.pointer (some ⟨b, o, none⟩)) (.agg c)).run Tryz.prog w = stR Tryz.prog 51 6 w b o (.agg c) (row w b) := st_rule _ 6 stj_i w b o c
theorem st_lit0 : #[.int .i64 0, .int .i64 0, .int .i64 0, .int .i64 0, .int .i64 0, nilS] = stC .zero nilS := by unfold stC; rfl
end Go.Proofs.YtdfcldomjjcidaaGreatDoor.Oct
