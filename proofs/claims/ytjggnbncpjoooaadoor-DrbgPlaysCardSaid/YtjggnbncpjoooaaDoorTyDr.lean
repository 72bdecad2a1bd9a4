/- The struct types of drbg and of its reference: their cells, loads, stores, literals. -/
import Derived.Test.YtjggnbncpjoooaaDoorFld
import Derived.Test.YtjggnbncpjoooaaDoorShaT
namespace Go.Proofs.YtjggnbncpjoooaaDoor.Oct
open Go.ChangeShapes Go.WideShapes Go.ChangeAt Go.RowKit
set_option linter.unusedVariables false

theorem sum_sl_at (B o : Nat) (w : World) : (Instr.sliceAt 41 (.pointer (some ⟨B, o, none⟩)) none none none).run Tryd.prog w = .ok (.slice (some ⟨B, o, none⟩) 32 32) w := by
  rw [run_sliceAt_array_all w 41 ⟨B, o, none⟩ (by kernel_rfl), sum_elem, u8_size, sum_len, Result.andThen_ok]
  rfl
theorem ones_1 (v : Value) (h : v.oneCell' = true) : Ones #[v] := by simp [Ones, h]
/-! drbg.Source: key, v, count -/
@[irreducible] def srcC (k v : Bf) (c : Int) : Array Value := flt [ba 32 k, ba 32 v, #[.int .i64 c]]
section
variable (k v : Bf) (c : Int)
@[go_sem] theorem src_size : (srcC k v c).size = 65 := by unfold srcC; rw [flt_size]; simp [szs, ba_size]
theorem src_ones : Ones (srcC k v c) := by
  unfold srcC
  refine flt_ones _ fun x hx => ?_
  simp only [List.mem_cons, List.not_mem_nil, or_false] at hx
  rcases hx with rfl | rfl | rfl
  · exact ones_ba _ _
  · exact ones_ba _ _
  · exact ones_1 _ rfl
@[go_sem] theorem src_ne : (srcC k v c = #[]) = False := eq_false fun e => by have := congrArg Array.size e; rw [src_size] at this; simp at this
@[go_sem] theorem src_ldk (P : Program) (t : Nat) (w : World) (b : Nat) : ldR P t 32 w b 0 (some (srcC k v c)) = .ok (.agg (ba 32 k)) w := by
  unfold srcC; exact ldR_flt P t 32 w b [] _ _ rfl (by rw [ba_size])
@[go_sem] theorem src_ldv (P : Program) (t : Nat) (w : World) (b : Nat) : ldR P t 32 w b 32 (some (srcC k v c)) = .ok (.agg (ba 32 v)) w := by
  unfold srcC; exact ldR_flt P t 32 w b [ba 32 k] _ _ (by simp [szs, ba_size]) (by rw [ba_size])
@[go_sem] theorem src_lda (P : Program) (t : Nat) (w : World) (b : Nat) : ldR P t 65 w b 0 (some (srcC k v c)) = .ok (.agg (srcC k v c)) w := ldR_whole P t 65 w b _ (src_size k v c).symm
@[go_sem] theorem src_stk (P : Program) (t : Nat) (w : World) (b : Nat) (g : Bf) : stR P t 32 w b 0 (.agg (ba 32 g)) (some (srcC k v c)) = .ok () (w.setRow b (srcC g v c)) := by
  unfold srcC; exact stR_flt P t 32 w b [] _ _ _ rfl (by rw [ba_size]) (by rw [ba_size, ba_size]) (ones_ba _ _)
@[go_sem] theorem src_stv (P : Program) (t : Nat) (w : World) (b : Nat) (g : Bf) : stR P t 32 w b 32 (.agg (ba 32 g)) (some (srcC k v c)) = .ok () (w.setRow b (srcC k g c)) := by
  unfold srcC; exact stR_flt P t 32 w b [ba 32 k] _ _ _ (by simp [szs, ba_size]) (by rw [ba_size]) (by rw [ba_size, ba_size]) (ones_ba _ _)
variable {k v c}
variable {w : World} {B : Nat} (h : row w B = some (srcC k v c))
include h
theorem src_cell : w.cell? ⟨B, 64, none⟩ = some (.int .i64 c) := by
  rw [cell_row h]; unfold srcC
  exact flt_get [ba 32 k, ba 32 v] [] _ (o := 64) (j := 0) (by simp [szs, ba_size]) (by simp)
theorem src_cellk (i : Nat) (hi : i < 32) : w.cell? ⟨B, i, none⟩ = some (.int .u8 (I (k i))) := by
  rw [cell_row h]; unfold srcC
  have e := flt_get [] [ba 32 v, #[.int .i64 c]] (ba 32 k) (o := 0) (j := i) rfl (by rw [ba_size]; exact hi)
  rw [Nat.zero_add] at e
  exact e.trans (ba_get 32 k i hi)
theorem src_cellv (i : Nat) (hi : i < 32) : w.cell? ⟨B, 32 + i, none⟩ = some (.int .u8 (I (v i))) := by
  rw [cell_row h]; unfold srcC
  exact (flt_get [ba 32 k] [#[.int .i64 c]] (ba 32 v) (o := 32) (j := i) (by simp [szs, ba_size]) (by rw [ba_size]; exact hi)).trans (ba_get 32 v i hi)
theorem src_set (c' : Int) : w.setCell ⟨B, 64, none⟩ (.int .i64 c') = w.setRow B (srcC k v c') := by
  rw [setCell_row h]; unfold srcC
  exact congrArg (w.setRow B) (flt_set [ba 32 k, ba 32 v] [] _ (o := 64) (j := 0) _ (by simp [szs, ba_size]) (by simp))
omit h in
theorem src_setv (i : Nat) (hi : i < 32) (x : BitVec 8) : (srcC k v c).setIfInBounds (32 + i) (.int .u8 (I x)) = srcC k (upd v i x) c := by
  unfold srcC
  rw [← ba_set]
  exact flt_set [ba 32 k] [#[.int .i64 c]] (ba 32 v) (o := 32) (j := i) _ (by simp [szs, ba_size]) (by rw [ba_size]; exact hi)
theorem src_set1 (i : Nat) (hi : i < 32) (x : BitVec 8) : w.setCell ⟨B, 32 + i, none⟩ (.int .u8 (I x)) = w.setRow B (srcC k (upd v i x) c) := by
  rw [setCell_row h]; unfold srcC
  rw [← ba_set]
  exact congrArg (w.setRow B) (flt_set [ba 32 k] [#[.int .i64 c]] (ba 32 v) (o := 32) (j := i) _ (by simp [szs, ba_size]) (by rw [ba_size]; exact hi))
theorem src_slk (D : Nat) (hD : B < D) : Sl w D (some ⟨B, 0, none⟩) 32 32 k := ⟨Nat.le_refl _, fun _ => ⟨B, 0, rfl, hD, fun i hi => by rw [Nat.zero_add]; exact src_cellk h i hi⟩⟩
theorem src_slv (D : Nat) (hD : B < D) : Sl w D (some ⟨B, 32, none⟩) 32 32 v := ⟨Nat.le_refl _, fun _ => ⟨B, 32, rfl, hD, fun i hi => src_cellv h i hi⟩⟩
end
theorem src_i : (Tryd.prog.info? 49).map (·.size) = some 65 := by kernel_rfl
@[go_sem ↓] theorem src_l (p : Value) : Instr.loadAt 49 p = ldA 49 p := rfl
@[go_sem ↓] theorem src_s (p v : Value) : Instr.storeAt 49 p v = stA 49 p v := rfl
theorem src_z : (Tryd.prog.info? 49).map (·.zero) = some (some (.agg (srcC (fun _ => 0#8) (fun _ => 0#8) 0))) := by unfold srcC flt ba; kernel_rfl
theorem src_z0 : Tryd.zeroCells49 = srcC (fun _ => 0#8) (fun _ => 0#8) 0 := by unfold srcC flt ba; kernel_rfl
@[go_sem ↓] theorem src_bd (parts : Array (Nat × Value)) : Instr.build 49 parts = bdA 49 parts := rfl
@[go_sem] theorem src_b0 (w : World) : (bdA 49 #[]).run Tryd.prog w = .ok (.agg (srcC (fun _ => 0#8) (fun _ => 0#8) 0)) w :=
  run_lit _ _ _ _ [(0, 32), (32, 32), (64, 1)] src_z (by kernel_rfl) rfl w
@[go_sem] theorem src_b3 (k v : Bf) (c : Int) (w : World) : (bdA 49 #[(0, .agg (ba 32 k)), (1, .agg (ba 32 v)), (2, .int .i64 c)]).run Tryd.prog w = .ok (.agg (srcC k v c)) w := by
  refine run_lit _ _ _ _ [(0, 32), (32, 32), (64, 1)] src_z (by kernel_rfl) ?_ w
  unfold srcC
  exact (fill_flt (pre := []) (o := 0) (m := 32) rfl rfl (by rw [ba_size]) (by rw [ba_size]; exact ba_size _ _)).trans
    ((fill_flt (pre := [ba 32 k]) (o := 32) (m := 32) rfl (by simp [szs, ba_size]) (by rw [ba_size]) (by rw [ba_size]; exact ba_size _ _)).trans
    (fill_flt (pre := [ba 32 k, ba 32 v]) (o := 64) (m := 1) rfl (by simp [szs, ba_size]) rfl rfl))
/-! the reference's Source: T, Key, V, Count -/
@[irreducible] def rscC (t : Value) (k v : Bf) (c : Int) : Array Value := flt [tbA t iF, ba 32 k, ba 32 v, #[.int .i64 c]]
section
variable (t : Value) (k v : Bf) (c : Int)
@[go_sem] theorem rsc_size : (rscC t k v c).size = 74 := by unfold rscC; rw [flt_size]; simp [szs, ba_size, tb_size]
theorem rsc_ones {A : Option Addr} {n m : Nat} : Ones (rscC (.slice A n m) k v c) := by
  unfold rscC
  refine flt_ones _ fun x hx => ?_
  simp only [List.mem_cons, List.not_mem_nil, or_false] at hx
  rcases hx with rfl | rfl | rfl | rfl
  · exact tb_ones _
  · exact ones_ba _ _
  · exact ones_ba _ _
  · exact ones_1 _ rfl
@[go_sem] theorem rsc_ne : (rscC t k v c = #[]) = False := eq_false fun e => by have := congrArg Array.size e; rw [rsc_size] at this; simp at this
@[go_sem] theorem rsc_ldt (P : Program) (u : Nat) (w : World) (b : Nat) : ldR P u 9 w b 0 (some (rscC t k v c)) = .ok (.agg (tbA t iF)) w := by
  unfold rscC; exact ldR_flt P u 9 w b [] _ _ rfl (by rw [tb_size])
@[go_sem] theorem rsc_ldk (P : Program) (u : Nat) (w : World) (b : Nat) : ldR P u 32 w b 9 (some (rscC t k v c)) = .ok (.agg (ba 32 k)) w := by
  unfold rscC; exact ldR_flt P u 32 w b [tbA t iF] _ _ (by simp [szs, tb_size]) (by rw [ba_size])
@[go_sem] theorem rsc_ldv (P : Program) (u : Nat) (w : World) (b : Nat) : ldR P u 32 w b 41 (some (rscC t k v c)) = .ok (.agg (ba 32 v)) w := by
  unfold rscC; exact ldR_flt P u 32 w b [tbA t iF, ba 32 k] _ _ (by simp [szs, ba_size, tb_size]) (by rw [ba_size])
@[go_sem] theorem rsc_lda (P : Program) (u : Nat) (w : World) (b : Nat) : ldR P u 74 w b 0 (some (rscC t k v c)) = .ok (.agg (rscC t k v c)) w := ldR_whole P u 74 w b _ (rsc_size t k v c).symm
@[go_sem] theorem rsc_stk (P : Program) (u : Nat) (w : World) (b : Nat) (g : Bf) : stR P u 32 w b 9 (.agg (ba 32 g)) (some (rscC t k v c)) = .ok () (w.setRow b (rscC t g v c)) := by
  unfold rscC; exact stR_flt P u 32 w b [tbA t iF] _ _ _ (by simp [szs, tb_size]) (by rw [ba_size]) (by rw [ba_size, ba_size]) (ones_ba _ _)
@[go_sem] theorem rsc_stv (P : Program) (u : Nat) (w : World) (b : Nat) (g : Bf) : stR P u 32 w b 41 (.agg (ba 32 g)) (some (rscC t k v c)) = .ok () (w.setRow b (rscC t k g c)) := by
  unfold rscC; exact stR_flt P u 32 w b [tbA t iF, ba 32 k] _ _ _ (by simp [szs, ba_size, tb_size]) (by rw [ba_size]) (by rw [ba_size, ba_size]) (ones_ba _ _)
variable {t k v c}
variable {w : World} {B : Nat} (h : row w B = some (rscC t k v c))
include h
theorem rsc_cell : w.cell? ⟨B, 73, none⟩ = some (.int .i64 c) := by
  rw [cell_row h]; unfold rscC
  exact flt_get [tbA t iF, ba 32 k, ba 32 v] [] _ (o := 73) (j := 0) (by simp [szs, ba_size, tb_size]) (by simp)
theorem rsc_cellk (i : Nat) (hi : i < 32) : w.cell? ⟨B, 9 + i, none⟩ = some (.int .u8 (I (k i))) := by
  rw [cell_row h]; unfold rscC
  exact (flt_get [tbA t iF] [ba 32 v, #[.int .i64 c]] (ba 32 k) (o := 9) (j := i) (by simp [szs, tb_size]) (by rw [ba_size]; exact hi)).trans (ba_get 32 k i hi)
theorem rsc_cellv (i : Nat) (hi : i < 32) : w.cell? ⟨B, 41 + i, none⟩ = some (.int .u8 (I (v i))) := by
  rw [cell_row h]; unfold rscC
  exact (flt_get [tbA t iF, ba 32 k] [#[.int .i64 c]] (ba 32 v) (o := 41) (j := i) (by simp [szs, ba_size, tb_size]) (by rw [ba_size]; exact hi)).trans (ba_get 32 v i hi)
theorem rsc_set (c' : Int) : w.setCell ⟨B, 73, none⟩ (.int .i64 c') = w.setRow B (rscC t k v c') := by
  rw [setCell_row h]; unfold rscC
  exact congrArg (w.setRow B) (flt_set [tbA t iF, ba 32 k, ba 32 v] [] _ (o := 73) (j := 0) _ (by simp [szs, ba_size, tb_size]) (by simp))
omit h in
theorem rsc_setv (i : Nat) (hi : i < 32) (x : BitVec 8) : (rscC t k v c).setIfInBounds (41 + i) (.int .u8 (I x)) = rscC t k (upd v i x) c := by
  unfold rscC
  rw [← ba_set]
  exact flt_set [tbA t iF, ba 32 k] [#[.int .i64 c]] (ba 32 v) (o := 41) (j := i) _ (by simp [szs, ba_size, tb_size]) (by rw [ba_size]; exact hi)
theorem rsc_set1 (i : Nat) (hi : i < 32) (x : BitVec 8) : w.setCell ⟨B, 41 + i, none⟩ (.int .u8 (I x)) = w.setRow B (rscC t k (upd v i x) c) := by
  rw [setCell_row h]; unfold rscC
  rw [← ba_set]
  exact congrArg (w.setRow B) (flt_set [tbA t iF, ba 32 k] [#[.int .i64 c]] (ba 32 v) (o := 41) (j := i) _ (by simp [szs, ba_size, tb_size]) (by rw [ba_size]; exact hi))
theorem rsc_slk (D : Nat) (hD : B < D) : Sl w D (some ⟨B, 9, none⟩) 32 32 k := ⟨Nat.le_refl _, fun _ => ⟨B, 9, rfl, hD, fun i hi => rsc_cellk h i hi⟩⟩
theorem rsc_slv (D : Nat) (hD : B < D) : Sl w D (some ⟨B, 41, none⟩) 32 32 v := ⟨Nat.le_refl _, fun _ => ⟨B, 41, rfl, hD, fun i hi => rsc_cellv h i hi⟩⟩
end
theorem rsc_i : (Tryd.prog.info? 57).map (·.size) = some 74 := by kernel_rfl
@[go_sem ↓] theorem rsc_l (p : Value) : Instr.loadAt 57 p = ldA 57 p := rfl
@[go_sem ↓] theorem rsc_s (p v : Value) : Instr.storeAt 57 p v = stA 57 p v := rfl
theorem rsc_z : (Tryd.prog.info? 57).map (·.zero) = some (some (.agg (flt [tbA (.slice none 0 0) fun _ => 0#32, ba 32 fun _ => 0#8, ba 32 fun _ => 0#8, #[.int .i64 0]]))) := by unfold flt tbA wa ba; kernel_rfl
@[go_sem ↓] theorem rsc_bd (parts : Array (Nat × Value)) : Instr.build 57 parts = bdA 57 parts := rfl
@[go_sem] theorem rsc_b2 (t : Value) (w : World) : (bdA 57 #[(0, .agg (tbA t iF)), (3, .int .i64 1)]).run Tryd.prog w = .ok (.agg (rscC t (fun _ => 0#8) (fun _ => 0#8) 1)) w := by
  refine run_lit _ _ _ _ [(0, 9), (9, 32), (41, 32), (73, 1)] rsc_z (by kernel_rfl) ?_ w
  unfold rscC
  exact (fill_flt (pre := []) (o := 0) (m := 9) rfl rfl (by rw [tb_size]) (by rw [tb_size]; exact tb_size _ _)).trans
    (fill_flt (pre := [tbA t iF, ba 32 _, ba 32 _]) (o := 73) (m := 1) rfl (by simp [szs, ba_size, tb_size]) rfl rfl)
end Go.Proofs.YtjggnbncpjoooaaDoor.Oct
