/- The struct types of layer 4's statements: their cells, what their fields read as, and that what came in is of that form. -/
import Derived.Test.YtokhldihfbaeoaaOpenS
import Derived.Test.YtokhldihfbaeoaaGcmS
namespace Go.Proofs.Ytokhldihfbaeoaa.Oct
open Go.ChangeShapes Go.WideShapes Go.ChangeAt Go.RowKit
set_option linter.unusedVariables false

@[irreducible] def boxC (k n : Bf) (v : Value) : Array Value := (((ba 32 k).toList ++ ((ba 12 n).toList ++ [v])) : List Value).toArray
theorem ba_len (n : Nat) (f : Bf) : (ba n f).toList.length = n := by rw [Array.length_toList, ba_size]
theorem boxC_size (k n : Bf) (v : Value) : (boxC k n v).size = 45 := by unfold boxC; simp [ba_size]
theorem boxC_get (k n : Bf) (v : Value) (i : Nat) : (boxC k n v)[i]? = if i < 32 then some (.int .u8 (I (k i))) else if i < 44 then some (.int .u8 (I (n (i - 32)))) else if i = 44 then some v else none := by
  unfold boxC
  rw [List.getElem?_toArray]
  by_cases h1 : i < 32
  · rw [List.getElem?_append_left (by rw [ba_len]; exact h1), Array.getElem?_toList, ba_get _ _ _ h1, if_pos h1]
  · rw [List.getElem?_append_right (by rw [ba_len]; omega), ba_len, if_neg h1]
    by_cases h2 : i < 44
    · rw [List.getElem?_append_left (by rw [ba_len]; omega), Array.getElem?_toList, ba_get _ _ _ (by omega), if_pos h2]
    · rw [List.getElem?_append_right (by rw [ba_len]; omega), ba_len, if_neg h2]
      by_cases h3 : i = 44
      · subst h3; rfl
      · rw [if_neg h3, List.getElem?_eq_none (by simp; omega)]
theorem box_ld_key {w : World} {B : Nat} {k n : Bf} {v : Value} (h : row w B = some (boxC k n v)) : ldR Try.prog 23 32 w B 0 (row w B) = .ok (.agg (ba 32 k)) w :=
  ldR_cells _ 32 _ key_u 32 key_i w B 0 k fun i hi => by rw [cell_row h, boxC_get, if_pos (by omega), Nat.zero_add]
theorem box_ld_non {w : World} {B : Nat} {k n : Bf} {v : Value} (h : row w B = some (boxC k n v)) : ldR Try.prog 25 12 w B 32 (row w B) = .ok (.agg (ba 12 n)) w :=
  ldR_cells _ 12 _ non_u 12 non_i w B 32 n fun i hi => by rw [cell_row h, boxC_get, if_neg (by omega), if_pos (by omega), Nat.add_sub_cancel_left]
theorem box_cell {w : World} {B : Nat} {k n : Bf} {v : Value} (h : row w B = some (boxC k n v)) : w.cell? ⟨B, 44, none⟩ = some v := by rw [cell_row h, boxC_get]; rfl

section
variable {H : Type} {enc : TypeId × Value → H} {w : World} {base : Nat} {spare : Nat → Bool} {held : Bool}
theorem open_box {r : Reach} {b : Nat} {v : Value} {d : DataW H} {p : List MemPlace} (hv : Value.okWide Try.prog w r b 28 v) (h : DataW.Trod enc Try.prog w base spare held 28 v d p) :
    ∃ k n A L c f, v = .agg (boxC k n (.slice A L c)) ∧ Sl w w.heap.size A L c f ∧ c ≤ maxLen := by
  obtain ⟨cs, rfl, hs, m, hall⟩ := open_struct Try.underlying28 hv h
  have hc : Try.prog.cellsOf 28 = 45 := by kernel_rfl
  have hk : Try.prog.cellsOf 23 = 32 := by kernel_rfl
  have hn : Try.prog.cellsOf 25 = 12 := by kernel_rfl
  have h1 : Try.prog.cellsOf 5 = 1 := by kernel_rfl
  have hl : cs.toList.length = 32 + 12 + 1 := by rw [Array.length_toList, hs, hc]
  obtain ⟨y0, e0⟩ := hall 0 _ rfl
  obtain ⟨y1, e1⟩ := hall 1 _ rfl
  obtain ⟨y2, e2⟩ := hall 2 _ rfl
  have e0 : DataW.trod enc Try.prog w base spare held m 23 (fld cs.toList 0 (Try.prog.cellsOf 23)) = some y0 := e0
  have e1 : DataW.trod enc Try.prog w base spare held m 25 (fld cs.toList 32 (Try.prog.cellsOf 25)) = some y1 := e1
  rw [hk] at e0
  rw [hn] at e1
  obtain ⟨k, ek⟩ := fld_bytes key_u u8_u hk h1 e0 (fld_len (by omega))
  obtain ⟨n, en⟩ := fld_bytes non_u u8_u hn h1 e1 (fld_len (by omega))
  obtain ⟨A, L, c, f, es, hsl, hm⟩ := fld_sl sli_u u8_u h1 e2
  refine ⟨k, n, A, L, c, f, ?_, hsl, hm⟩
  congr 1
  apply Array.ext'
  rw [fld_three hl, ek, en]
  unfold boxC
  simp only [List.append_cancel_left_eq]
  rw [← es]
  rfl
theorem open_cut {r : Reach} {b : Nat} {v : Value} {d : DataW H} {p : List MemPlace} (hv : Value.okWide Try.prog w r b 45 v) (h : DataW.Trod enc Try.prog w base spare held 45 v d p) :
    ∃ A L c f x, v = .agg #[.slice A L c, .int .i64 x] ∧ Sl w w.heap.size A L c f ∧ c ≤ maxLen ∧ (Lit.int .i64 x).wf = true := by
  obtain ⟨cs, rfl, hs, m, hall⟩ := open_struct Try.underlying45 hv h
  have hc : Try.prog.cellsOf 45 = 2 := by kernel_rfl
  have h1 : Try.prog.cellsOf 5 = 1 := by kernel_rfl
  have hl : cs.toList.length = 1 + 1 := by rw [Array.length_toList, hs, hc]
  obtain ⟨y0, e0⟩ := hall 0 _ rfl
  obtain ⟨y1, e1⟩ := hall 1 _ rfl
  obtain ⟨A, L, c, f, es, hsl, hm⟩ := fld_sl sli_u u8_u h1 e0
  obtain ⟨x, ex, _, hx⟩ := DataW.trod_int (k := .i64) (by kernel_rfl) e1
  refine ⟨A, L, c, f, x, ?_, hsl, hm, hx⟩
  congr 1
  apply Array.ext'
  rw [fld_two hl]
  rw [show fld cs.toList 0 1 = [.slice A L c] from es, show fld cs.toList 1 1 = [.int .i64 x] from ex]
  rfl
end
end Go.Proofs.Ytokhldihfbaeoaa.Oct
