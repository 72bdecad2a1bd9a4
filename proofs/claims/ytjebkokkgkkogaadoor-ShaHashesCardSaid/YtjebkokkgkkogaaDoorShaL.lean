/- The reference's Table, and the contracts of Make and Press. -/
import Derived.Test.YtjebkokkgkkogaaDoorShaK
namespace Go.Proofs.YtjebkokkgkkogaaDoor.Oct
open Go.ChangeShapes Go.WideShapes Go.ChangeAt Go.RowKit
set_option linter.unusedVariables false

/-- the cells of a Table: the slice K, the words H -/
@[irreducible] def tbA (v : Value) (H : Wf) : Array Value := #[v] ++ wa 8 H
@[go_sem] theorem tb_size (v : Value) (H : Wf) : (tbA v H).size = 9 := by unfold tbA; rw [Array.size_append, wa_size]; rfl
@[go_sem] theorem tb_0 (v : Value) (H : Wf) (h : 0 < (tbA v H).size) : (tbA v H)[0] = v := by simp [tbA]
theorem tb_get0 (v : Value) (H : Wf) : (tbA v H)[0]? = some v := by unfold tbA; rw [Array.getElem?_append_left (by simp)]; rfl
@[go_sem] theorem tb_ne (v : Value) (H : Wf) : (tbA v H = #[]) = False := eq_false fun e => by have := congrArg Array.size e; rw [tb_size] at this; simp at this
theorem tb_ones {A : Option Addr} {n c : Nat} (H : Wf) : Ones (tbA (.slice A n c) H) := by
  unfold Ones tbA
  rw [Array.all_append, wa_one]
  simp [Value.oneCell']
@[go_sem] theorem ldR_tb (P : Program) (t : Nat) (w : World) (b : Nat) (v : Value) (H : Wf) : ldR P t 9 w b 0 (some (tbA v H)) = .ok (.agg (tbA v H)) w := by
  unfold ldR
  simp only [tb_size]
  rw [if_pos (by omega)]
  congr 2
  rw [show 0 + 9 = (tbA v H).size by rw [tb_size], Array.extract_size]
@[go_sem] theorem ldR_tbH (P : Program) (t : Nat) (w : World) (b : Nat) (v : Value) (H : Wf) : ldR P t 8 w b 1 (some (tbA v H)) = .ok (.agg (wa 8 H)) w := by
  unfold ldR
  simp only [tb_size]
  rw [if_pos (by omega)]
  congr 2
  unfold tbA
  apply Array.ext_getElem?
  intro i
  rw [Array.getElem?_extract]
  by_cases hi : i < 8
  · rw [if_pos (by simp [wa_size]; omega), Array.getElem?_append_right (by simp)]
    simp
  · rw [if_neg (by simp [wa_size]; omega), wa_none _ _ _ hi]
@[go_sem] theorem stR_tb (P : Program) (t : Nat) (w : World) (b : Nat) (A : Option Addr) (n c : Nat) (H : Wf) (v : Value) (H' : Wf) : stR P t 9 w b 0 (.agg (tbA (.slice A n c) H)) (some (tbA v H')) = .ok () (w.setRow b (tbA (.slice A n c) H)) := by
  have e : 0 + 9 ≤ (tbA v H').size ∧ (Value.agg (tbA (.slice A n c) H)).cells.size = 9 ∧ Ones (Value.agg (tbA (.slice A n c) H)).cells := ⟨by rw [tb_size]; omega, tb_size _ _, tb_ones H⟩
  unfold stR
  simp only [if_pos e]
  congr 2
  apply Array.ext_getElem?
  intro k
  rw [spl_get _ _ _ _ (by simp [tb_size, Value.cells])]
  simp only [Value.cells, Array.length_toList, tb_size, Nat.zero_le, Nat.zero_add, true_and, Nat.sub_zero, Array.getElem?_toList]
  by_cases hk : k < 9
  · rw [if_pos hk]
  · rw [if_neg hk, Array.getElem?_eq_none (by rw [tb_size]; omega), Array.getElem?_eq_none (by rw [tb_size]; omega)]
theorem ld_rule_d {P : Program} (t : TypeId) (d : TypeDesc) (hu : P.underlying t = some d) (hd : d.isRow = true) (m : Nat) (hi : (P.info? t).map (·.size) = some m) (w : World) (b o : Nat) :
    (ldA t (.pointer (some ⟨b, o, none⟩))).run P w = ldR P t m w b o (row w b) := by
  unfold ldR
  split
  · rename_i c hr
    split
    · rename_i hc
      obtain ⟨t', ht⟩ := row_is hr
      have hx := run_loadAt_mid (P := P) w b o t (c.extract o (o + m)).toList _ (World.rangeAt_of_block ht o m) hu hd (by rw [hi]; simp; omega)
      rw [Array.toArray_toList] at hx
      exact hx
    · rfl
  · rfl
theorem tab_i : (Tryd.prog.info? 39).map (·.size) = some 9 := by kernel_rfl
@[go_sem ↓] theorem tab_l (p : Value) : Instr.loadAt 39 p = ldA 39 p := rfl
@[go_sem ↓] theorem tab_s (p v : Value) : Instr.storeAt 39 p v = stA 39 p v := rfl
theorem tab_u : ∃ d, Tryd.prog.underlying 39 = some d ∧ d.isRow = true := by
  have h : (Tryd.prog.underlying 39).map TypeDesc.isRow = some true := by kernel_rfl
  cases hq : Tryd.prog.underlying 39 with
  | none => rw [hq] at h; cases h
  | some d => rw [hq] at h; exact ⟨d, rfl, Option.some.inj h⟩
@[go_sem] theorem tab_ld (w : World) (b o : Nat) : (ldA 39 (.pointer (some ⟨b, o, none⟩))).run Tryd.prog w = ldR Tryd.prog 39 9 w b o (row w b) := by
  obtain ⟨d, hu, hd⟩ := tab_u
  exact ld_rule_d _ d hu hd 9 tab_i w b o
@[go_sem] theorem tab_st (w : World) (b o : Nat) (c : Array Value) : (stA 39 (.pointer (some ⟨b, o, none⟩)) (.agg c)).run Tryd.prog w = stR Tryd.prog 39 9 w b o (.agg c) (row w b) := st_rule _ 9 tab_i w b o c
theorem tab_z : (Tryd.prog.info? 39).map (·.zero) = some (some (.agg (tbA (.slice none 0 0) fun _ => 0#32))) := by unfold tbA wa; kernel_rfl
@[go_sem ↓] theorem tab_zero (w : World) : (zeroValue 39).run Tryd.prog w = .ok (.agg (tbA (.slice none 0 0) fun _ => 0#32)) w := zero_rule _ _ tab_z w
theorem tab_lit (A : Option Addr) (n c : Nat) (H : Wf) : Array.foldl (fun cs x => cs.setIfInBounds (1 + x.2) x.1) ((tbA (.slice none 0 0) fun _ => 0#32).setIfInBounds 0 (.slice A n c)) (wa 8 H).zipIdx 0 8 = tbA (.slice A n c) H := by
  unfold tbA wa; kernel_rfl

set_option maxRecDepth 20000 in
set_option maxHeartbeats 2000000 in
theorem make_any (w : World) :
    Calls Tryd.prog 16 #[] w fun e w' => ∃ A c, e = .returned (.agg (tbA (.slice A 64 c) iF)) ∧ SlG w' w'.heap.size A 64 c kV ∧ Below w.heap.size w w' := by
  have B0 := Lib.hid ((Below.refl w.heap.size w).alloc (by simp) (.cells (tbA (.slice none 0 0) fun _ => 0#32) 39))
  have q0 : row (w.alloc (.cells (tbA (.slice none 0 0) fun _ => 0#32) 39)) w.heap.size = some (tbA (.slice none 0 0) fun _ => 0#32) := by simp [go_sem]
  go_enter Tryd.func16, Tryd.ntmps16
  go_wp2_with fail
  refine (thirds_any _).mono ?_
  rintro e w1 ⟨g, c, cur, rfl, hg, hc, hr, hcu, hb1⟩
  have r1 := carry hb1 q0
  have B1 := Lib.hid (onto B0.out (by simp) hb1)
  have s1 : w.heap.size + 1 ≤ w1.heap.size := by have := hb1.size; simpa using this
  have HR := Lib.hid hr
  have HCU := Lib.hid hcu
  have hg2 : w.heap.size < g := by simp at hg; omega
  clear hr hcu hb1 q0 hg
  go_wp2_with fail
  refine (seconds_any _).mono ?_
  rintro e w2 ⟨rfl, hb2⟩
  have r2 := carry hb2 r1
  have B2 := Lib.hid (onto B1.out (by omega) hb2)
  have HR2 := Lib.hid (carry hb2 HR.out)
  clear hb2 r1
  have hlit := tab_lit (some (⟨g, 0, none⟩ : Addr)) 64 c iF
  go_wp2_with fail
  obtain ⟨t', ht'⟩ := row_is (row_setRow r2 (tbA (.slice (some ⟨g, 0, none⟩) 64 c) iF))
  obtain ⟨d, hu, hd⟩ := tab_u
  refine bodyPost_ret (v := .agg (tbA (.slice (some ⟨g, 0, none⟩) 64 c) iF)) (results_cell_row rfl _ _ w.heap.size _ _ _ d rfl ht' hu (by cases d <;> first | rfl | cases hd) (by rw [tb_size]; exact tab_i)) rfl ⟨_, c, rfl, ?_, ?_⟩
  · have hrg : row (w2.setRow w.heap.size (tbA (.slice (some ⟨g, 0, none⟩) 64 c) iF)) g = some cur := by rw [row_setRow_other _ _ _ _ (by omega)]; exact HR2.out
    exact slG_row hrg (row_lt hrg) hc HCU.out
  · exact below_setRow B2.out (by omega) _
end Go.Proofs.YtjebkokkgkkogaaDoor.Oct
