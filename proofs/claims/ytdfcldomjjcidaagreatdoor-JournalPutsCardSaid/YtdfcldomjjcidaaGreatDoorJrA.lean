/- journal: what panics with an error: insist, must; what attempt makes of it. -/
import Derived.Test.YtdfcldomjjcidaaGreatDoorWiAll
import Derived.Test.YtdfcldomjjcidaaGreatDoorShaR
import Derived.Test.YtdfcldomjjcidaaGreatDoorDkB0
import Derived.Test.YtdfcldomjjcidaaGreatDoorFlowE
import Derived.Test.YtdfcldomjjcidaaGreatDoorFld
import Derived.Recover
import Derived.WalkSmall
namespace Go.Proofs.YtdfcldomjjcidaaGreatDoor.Oct
open Go.ChangeShapes Go.WideShapes Go.ChangeAt Go.RowKit
set_option linter.unusedVariables false

/-- a panic with an error -/
abbrev pnE (E : Int) : List PanicEntry := [{ v := .iface 31 (.int .i64 E), recovered := false }]
theorem insist_ok (w : World) : Calls Tryz.prog 47 #[.int .i64 0] w fun e w' => e = .returned (.tuple #[]) ∧ w' = w := by
  go_enter Tryz.func47, Tryz.ntmps47
  go_wp2_with fail
  go_end0
  exact ⟨rfl, rfl⟩
theorem insist_bad (E : Int) (h : E ≠ 0) (w : World) : Calls Tryz.prog 47 #[.int .i64 E] w fun e w' => e = .panicked (pnE E) ∧ w' = w := by
  have hne : ((E : Int) != 0) = true := by simp; omega
  clear h
  go_enter Tryz.func47, Tryz.ntmps47
  go_wp2_with fail
  exact ⟨rfl, rfl, rfl⟩
theorem mustb_ok (v : Value) (w : World) : Calls Tryz.prog 25 #[v, .int .i64 0] w fun e w' => e = .returned v ∧ w' = w := by
  go_enter Tryz.func25, Tryz.ntmps25
  go_wp2_with fail
  refine (insist_ok _).mono ?_
  rintro e w' ⟨rfl, rfl⟩
  go_wp2_with fail
  go_ret
  exact ⟨rfl, rfl⟩
theorem mustb_bad (v : Value) (E : Int) (h : E ≠ 0) (w : World) : Calls Tryz.prog 25 #[v, .int .i64 E] w fun e w' => e = .panicked (pnE E) ∧ w' = w := by
  go_enter Tryz.func25, Tryz.ntmps25
  go_wp2_with fail
  refine (insist_bad E h _).mono ?_
  rintro e w' ⟨rfl, rfl⟩
  go_wp2_with fail
  exact ⟨rfl, rfl, rfl⟩
theorem ta_ok (x : Value) (w : World) : (Instr.typeAssert (.iface 31 x) 20 31 true).run Tryz.prog w = .ok (.tuple #[x, .bool true]) w := by kernel_rfl
set_option maxRecDepth 20000 in
theorem catchb_panicking (p : Nat) (E x : Int) (w : World) (hc : w.cell? ⟨p, 0, none⟩ = some (.int .i64 x)) (hz : w.frozen? ⟨p, 0, none⟩ = false) :
    CallsD Tryz.prog 44 #[.pointer (some ⟨p, 0, none⟩)] (.panicking (pnE E)) w fun e u' w' =>
      e = .returned (.tuple #[]) ∧ u' = .panicking [{ v := .iface 31 (.int .i64 E), recovered := true }] ∧ w' = w.setCell ⟨p, 0, none⟩ (.int .i64 E) := by
  have hta := ta_ok
  refine callsD_of_wpS Tryz.func44 rfl fun c₀ cs hu => ?_
  apply wpS_seq
  apply wpS_region
  simp [wpOpsS, go_sem, recoverD, hu, Tryz.ntmps44, Exit.thenS]
  refine wpS_of_wp ?_
  simp only [Array.replicate]
  go_wp2_with fail
  simp [bodyPostS, results, Tryz.results44, go_sem]
set_option maxRecDepth 20000 in
theorem catchb_idle (p : Nat) (w : World) :
    CallsD Tryz.prog 44 #[.pointer (some ⟨p, 0, none⟩)] .returning w fun e u' w' => e = .returned (.tuple #[]) ∧ u' = .returning ∧ w' = w := by
  refine callsD_of_wpS Tryz.func44 rfl fun c₀ cs hu => ?_
  apply wpS_seq
  apply wpS_region
  simp [wpOpsS, go_sem, recoverD, hu, Tryz.ntmps44, Exit.thenS]
  refine wpS_of_wp ?_
  simp only [Array.replicate]
  go_wp2_with fail
  simp only [bodyPostS, results, Tryz.results44, go_sem]
  cases c₀
  simp_all
/-- what a function that is attempted ends in: an answer, or a panic with an error -/
def atP (G : Value → World → Prop) (B : Int → Prop) (w : World) (e : Ending) (w' : World) : Prop :=
  Below w.heap.size w w' ∧ ((∃ v, e = .returned v ∧ G v w') ∨ (∃ E, E ≠ 0 ∧ B E ∧ e = .panicked (pnE E)))
set_option maxRecDepth 20000 in
set_option maxHeartbeats 1000000 in
theorem attb_any (F : FuncId) (cap : Array Value) (w : World) (hen : Entr F) (G : Value → World → Prop) (B : Int → Prop)
    (h : Calls Tryz.prog F cap (w.alloc (.cells #[.int .i64 0] 31)) (atP G B (w.alloc (.cells #[.int .i64 0] 31)))) :
    Calls Tryz.prog 22 #[.func (.func F) #[] cap] w fun e w' => Below w.heap.size w w' ∧ ((∃ v, e = .returned (.tuple #[v, .int .i64 0]) ∧ G v w') ∨ (∃ E, E ≠ 0 ∧ B E ∧ e = .returned (.tuple #[.slice none 0 0, .int .i64 E]))) := by
  have H := Lib.hid h
  clear h
  unfold Entr at hen
  have hmf : ∀ (fn : Fn) (first cap : Array Value) (w : World), (Instr.makeFunc fn first cap).run Tryz.prog w = .ok (.func fn first cap) w := fun _ _ _ _ => rfl
  go_enter_defers Tryz.func22, Tryz.ntmps22
  go_wp2_with fail
  refine H.out.mono ?_
  rintro e w1 ⟨hb, h⟩
  have hb' : Below (w.heap.size + 1) (w.alloc (.cells #[.int .i64 0] 31)) w1 := by simpa using hb
  have r0 : row (w.alloc (.cells #[.int .i64 0] 31)) w.heap.size = some #[.int .i64 0] := row_alloc_at _ _ _ _ rfl
  have r1 := carry hb r0
  have hB := onto ((Below.refl w.heap.size w).alloc (Nat.le_refl _) (.cells #[.int .i64 0] 31)) (by simp) hb
  have hz := froz_row r1 0
  have hc : w1.cell? ⟨w.heap.size, 0, none⟩ = some (.int .i64 0) := by rw [cell_row r1]; rfl
  clear hb hb' r0 H
  rcases h with ⟨v, rfl, hG⟩ | ⟨E, hE, hBE, rfl⟩
  · have hs : w1.setCell ⟨w.heap.size, 0, none⟩ (.int .i64 0) = w1 := by rw [setCell_row r1]; exact setRow_self r1
    go_wp2_with fail
    refine leaves_cons (f := 44) (args := #[.pointer (some ⟨w.heap.size, 0, none⟩)]) (by simp) (by simp [go_sem]) ?_
    refine (catchb_idle w.heap.size _).mono ?_
    rintro e u' w'' ⟨rfl, rfl, rfl⟩
    exact ⟨.tuple #[v, .int .i64 0], by simp [results, Tryz.results22, go_sem, hc], hB, .inl ⟨v, rfl, hG⟩⟩
  · have hc2 : (w1.setCell ⟨w.heap.size, 0, none⟩ (.int .i64 E)).cell? ⟨w.heap.size, 0, none⟩ = some (.int .i64 E) := by rw [setCell_row r1, cell_row (row_setRow r1 _)]; rfl
    go_wp2_with fail
    refine leaves_cons (f := 44) (args := #[.pointer (some ⟨w.heap.size, 0, none⟩)]) (by simp) (by simp [go_sem]) ?_
    refine (catchb_panicking w.heap.size E 0 _ hc hz).mono ?_
    rintro e u' w'' ⟨rfl, rfl, rfl⟩
    exact ⟨.tuple #[.slice none 0 0, .int .i64 E], by simp [results, Tryz.results22, go_sem, hc2], hB.setCell (Nat.le_refl _) _, .inr ⟨E, hE, hBE, rfl⟩⟩
end Go.Proofs.YtdfcldomjjcidaaGreatDoor.Oct
