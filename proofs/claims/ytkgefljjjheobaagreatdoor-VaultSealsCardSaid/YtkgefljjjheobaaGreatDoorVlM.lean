/- A literal's bytes marked by a conversion to its own type, wherever its block lies. -/
import Derived.Test.YtkgefljjjheobaaGreatDoorTyBs
import Derived.Test.YtkgefljjjheobaaGreatDoorLib
namespace Go.Proofs.YtkgefljjjheobaaGreatDoor.Oct
open Go.ChangeShapes Go.WideShapes Go.ChangeAt Go.RowKit
set_option linter.unusedVariables false

theorem frz_heap (w : World) (p k : Nat) : (w.freeze ⟨p, k, none⟩ 1).heap = w.heap.modify p fun
      | .cells c elem (lo, hi) => .cells c elem (if lo == hi then (k, k + 1) else (min lo k, max hi (k + 1)))
      | o => o := by
  unfold World.freeze
  rw [if_neg (by decide)]
  rfl
theorem frz_size (w : World) (p k : Nat) : (w.freeze ⟨p, k, none⟩ 1).heap.size = w.heap.size := by rw [frz_heap, Array.size_modify]
theorem frz_other (w : World) (p k i : Nat) (h : i ≠ p) : (w.freeze ⟨p, k, none⟩ 1).heap[i]? = w.heap[i]? := by
  rw [frz_heap, Array.getElem?_modify, if_neg (fun e => h e.symm)]
theorem frz_at {w : World} {p : Nat} {C : Array Value} {u : TypeId} {m : Nat × Nat} (h : w.heap[p]? = some (.cells C u m)) (k : Nat) : ∃ m', (w.freeze ⟨p, k, none⟩ 1).heap[p]? = some (.cells C u m') := by
  obtain ⟨lo, hi⟩ := m
  rw [frz_heap, Array.getElem?_modify, if_pos rfl, h]
  exact ⟨_, rfl⟩
theorem frz_below {B : Nat} {a w : World} (h : Below B a w) (p k : Nat) (hp : B ≤ p) : Below B a (w.freeze ⟨p, k, none⟩ 1) := by
  refine h.trans ⟨?_, ?_, ?_, ?_, fun i hi => frz_other w p k i (by omega)⟩
  · unfold World.freeze; rw [if_neg (by decide)]
  · unfold World.freeze; rw [if_neg (by decide)]
  · unfold World.freeze; rw [if_neg (by decide)]
  · rw [frz_size]; exact Nat.le_refl _
theorem conv_at (w : World) (C : Array Value) (n c p : Nat) (m : Nat × Nat) (h : w.heap[p]? = some (.cells C 5 m)) : (convert 26 26 (.slice (some ⟨p, 0, none⟩) n c)).run Tryz.prog w = .ok (.slice (some ⟨p, 0, none⟩) n c) (w.freeze ⟨p, C.size, none⟩ 1) := by
  have hsh : w.shape? p = some (5, C.size) := by unfold World.shape?; rw [h]
  simp [convert, run_underlying (P := Tryz.prog) sli_u, run_underlying (P := Tryz.prog) u8_u, markStringish, hsh]
theorem sl_at {w : World} {p n : Nat} {u : TypeId} {m : Nat × Nat} {f : Bf} (h : w.heap[p]? = some (.cells (ba n f) u m)) (B : Nat) (hB : p < B) : Sl w B (some ⟨p, 0, none⟩) n n f :=
  ⟨Nat.le_refl _, fun _ => ⟨p, 0, rfl, hB, fun i hi => by rw [Nat.zero_add, cell_of_row _ _ i _ _ _ h, ba_get n f i hi]⟩⟩
theorem Frm.frz (x : World) (p k : Nat) {hot : List Nat} (hp : p ∈ hot) : Frm hot x (x.freeze ⟨p, k, none⟩ 1) := ⟨Nat.le_of_eq (frz_size x p k).symm, fun i hi hn => frz_other x p k i (fun e => hn (e ▸ hp))⟩
end Go.Proofs.YtkgefljjjheobaaGreatDoor.Oct
