/- Slices of bytes in this program: literals, literals that are marked, make. -/
import Derived.Test.YtamemjldafoolaaGreatTySl
import Derived.Test.YtamemjldafoolaaGreatLib
import Derived.Lib.SlBytesConst
namespace Go.Proofs.YtamemjldafoolaaGreat.Oct
open Go.ChangeShapes Go.WideShapes Go.ChangeAt Go.RowKit
set_option linter.unusedVariables false

theorem bs0 (w : World) : (Instr.buildSlice 33 0 #[]).run Tryz.prog w = .ok (.slice (some ⟨w.heap.size, 0, none⟩) 0 0) (w.alloc (.cells #[] 5)) := by kernel_rfl
theorem bs1 (x : Int) (w : World) : (Instr.buildSlice 33 1 #[(0, .int .u8 x)]).run Tryz.prog w = .ok (.slice (some ⟨w.heap.size, 0, none⟩) 1 1) (w.alloc (.cells #[.int .u8 x] 5)) := by kernel_rfl
theorem ex_bs0 (ρ : Operand → Value) {o : Oper} (ho : o.op = .buildSlice 33 0 #[]) (w : World) : (execOp ρ o).run Tryz.prog w = .ok (.value (.slice (some ⟨w.heap.size, 0, none⟩) 0 0)) (w.alloc (.cells #[] 5)) := by
  unfold execOp
  simp only [ho, Sem.run_bind, List.map_toArray, List.map_nil]
  rw [bs0]
  rfl
theorem ex_bs1 (ρ : Operand → Value) {o : Oper} (t : Operand) (ho : o.op = .buildSlice 33 1 #[(0, t)]) (x : Int) (hx : ρ t = .int .u8 x) (w : World) : (execOp ρ o).run Tryz.prog w = .ok (.value (.slice (some ⟨w.heap.size, 0, none⟩) 1 1)) (w.alloc (.cells #[.int .u8 x] 5)) := by
  unfold execOp
  simp only [ho, Sem.run_bind, List.map_toArray, List.map_cons, List.map_nil, hx]
  rw [bs1]
  rfl
theorem mk_sl (n : Nat) (hn : n ≤ 140737488355328) (w : World) : (Instr.makeSlice 33 (.int .i64 (n : Int)) (.int .i64 (n : Int))).run Tryz.prog w = .ok (.slice (some ⟨w.heap.size, 0, none⟩) n n) (w.alloc (.cells (ba n fun _ => 0#8) 5)) := by
  obtain ⟨iu, hiu, z0, z1, z2⟩ := info_parts (P := Tryz.prog) u8_info
  rw [run_make w 33 5 iu (.int .u8 0) sli_u hiu z0 .i64 .i64 n n (by omega) (Int.le_refl _) (by rw [z2]; omega) (by omega), Int.toNat_natCast, z1, made_ba]
@[go_sem] theorem conv_lit (w : World) (C : Array Value) (n c p : Nat) (hp : p = w.heap.size) : (convert 33 33 (.slice (some ⟨p, 0, none⟩) n c)).run Tryz.prog (w.alloc (.cells C 5)) = .ok (.slice (some ⟨p, 0, none⟩) n c) (w.alloc (.cells C 5 (C.size, C.size + 1))) := by
  subst hp
  exact Lib.run_convert_bytes_const (P := Tryz.prog) w 33 5 C n c sli_u u8_u
/-- a literal of bytes, marked: it reads as it stands -/
theorem Sl.lit (w : World) {C : Array Value} {n : Nat} {f : Bf} (hC : C = ba n f) (u : TypeId) (m : Nat × Nat) (B : Nat) (hB : w.heap.size < B) : Sl (w.alloc (.cells C u m)) B (some ⟨w.heap.size, 0, none⟩) n n f := by
  subst hC
  exact ⟨Nat.le_refl _, fun _ => ⟨w.heap.size, 0, rfl, hB, fun i hi => by rw [Nat.zero_add, cell_of_row _ _ i _ _ _ (heap_alloc_new w _), ba_get n f i hi]⟩⟩
end Go.Proofs.YtamemjldafoolaaGreat.Oct
