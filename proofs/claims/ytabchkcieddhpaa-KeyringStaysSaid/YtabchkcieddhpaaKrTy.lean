/- The types of layer 13: api.Version, api.Ring, slices of them, api.Key: loads, stores, literals. -/
import Derived.Test.YtabchkcieddhpaaKrT
import Derived.Test.YtabchkcieddhpaaFld
import Derived.Test.YtabchkcieddhpaaTySl
import Derived.Laws.StructEq
namespace Go.Proofs.Ytabchkcieddhpaa.Oct
open Go.ChangeShapes Go.WideShapes Go.ChangeAt Go.RowKit
set_option linter.unusedVariables false

theorem ld_ruleK {P : Program} (t : TypeId) (d : TypeDesc) (hu : P.underlying t = some d) (hd : d.isRow = true) (m : Nat) (hi : (P.info? t).map (·.size) = some m) (w : World) (b o : Nat) :
    (ldA t (.pointer (some ⟨b, o, none⟩))).run P w = ldR P t m w b o (row w b) := by
  unfold ldR
  split
  · rename_i c hr
    split
    · rename_i hc
      obtain ⟨t', ht⟩ := row_is hr
      have hx := run_loadAt_mid (P := P) w b o t (c.extract o (o + m)).toList _ (World.rangeAt_of_block ht o m) hu hd (by rw [hi]; simp; omega)
      rw [Array.toArray_toList] at hx
      exact hx
    · rfl
  · rfl
/- api.Key -/
theorem kk_u : Try.prog.underlying 32 = some (.array 32 5) := by kernel_rfl
theorem kk_i : (Try.prog.info? 32).map (·.size) = some 32 := by kernel_rfl
@[go_sem ↓] theorem kk_l (p : Value) : Instr.loadAt 32 p = ldA 32 p := rfl
@[go_sem ↓] theorem kk_s (p v : Value) : Instr.storeAt 32 p v = stA 32 p v := rfl
@[go_sem] theorem kk_ld (w : World) (b o : Nat) : (ldA 32 (.pointer (some ⟨b, o, none⟩))).run Try.prog w = ldR Try.prog 32 32 w b o (row w b) := ld_rule _ _ _ kk_u 32 kk_i w b o
@[go_sem] theorem kk_st (w : World) (b o : Nat) (c : Array Value) : (stA 32 (.pointer (some ⟨b, o, none⟩)) (.agg c)).run Try.prog w = stR Try.prog 32 32 w b o (.agg c) (row w b) := st_rule _ 32 kk_i w b o c
theorem kk_z : (Try.prog.info? 32).map (·.zero) = some (some (.agg (ba 32 fun _ => 0#8))) := by unfold ba; kernel_rfl
@[go_sem ↓] theorem kk_zero (w : World) : (zeroValue 32).run Try.prog w = .ok (.agg (ba 32 fun _ => 0#8)) w := zero_rule _ _ kk_z w
@[go_sem] theorem kk_gd (op : BinOp) (x y : Operand) (xs ys : Array Value) (w : World) : (eqGuard op 32 x y (.agg xs) (.agg ys)).run Try.prog w = .ok () w := run_eqGuard_agg w op _ x y xs ys (by kernel_rfl)
@[go_sem] theorem kk_eq (d : Nat) (f g : Nat → BitVec 8) (w : World) : (Op.equalIn (d + 2) 32 (.agg (ba 32 f)) (.agg (ba 32 g))).run Try.prog w = .ok (eqB 32 f g) w := eq_bytes _ 32 d _ .u8 kk_u u8_u u8_i f g w
@[go_sem] theorem kk_b0 (w : World) : (Instr.build 32 #[]).run Try.prog w = .ok (.agg (ba 32 fun _ => 0#8)) w := by unfold ba; kernel_rfl
/- api.Version -/
@[irreducible] def veA (v : Ve) : Array Value := (veC v).toArray
@[go_sem] theorem veA_size (v : Ve) : (veA v).size = 34 := by unfold veA; rw [List.size_toArray, veC_len]
@[go_sem] theorem veA_ne (v : Ve) : (veA v = #[]) = False := eq_false fun e => by have := congrArg Array.size e; rw [veA_size] at this; simp at this
theorem veA_flt (v : Ve) : veA v = flt [ba 32 v.m, #[.int .i64 v.u], #[.bool v.g]] := by
  unfold veA veC flt
  congr 1
theorem veA_list (v : Ve) : (veA v).toList = veC v := by unfold veA; rfl
theorem veA_ones (v : Ve) : Ones (veA v) := by
  show (veA v).all _ = true
  rw [← Array.all_toList, veA_list, List.all_eq_true]
  exact veC_one v
@[go_sem] theorem veA_ldm (P : Program) (T : Nat) (v : Ve) (w : World) (B : Nat) : ldR P T 32 w B 0 (some (veA v)) = .ok (.agg (ba 32 v.m)) w := by
  rw [veA_flt]; exact ldR_flt P T 32 w B [] _ _ rfl (by rw [ba_size])
@[go_sem] theorem veA_ldw (P : Program) (T : Nat) (v : Ve) (w : World) (B : Nat) : ldR P T 34 w B 0 (some (veA v)) = .ok (.agg (veA v)) w := ldR_whole P T 34 w B _ (veA_size v).symm
@[go_sem] theorem veA_stw (P : Program) (T : Nat) (v x : Ve) (w : World) (B : Nat) : stR P T 34 w B 0 (.agg (veA x)) (some (veA v)) = .ok () (w.setRow B (veA x)) := stR_whole P T 34 w B _ _ (veA_size v).symm (by rw [veA_size, veA_size]) (veA_ones x)
@[go_sem] theorem veA_g32 (v : Ve) : (veA v)[32]? = some (.int .i64 v.u) := by rw [← Array.getElem?_toList, veA_list, veC_u]
@[go_sem] theorem veA_g33 (v : Ve) : (veA v)[33]? = some (.bool v.g) := by rw [← Array.getElem?_toList, veA_list, veC_g]
@[go_sem] theorem veA_e32 (v : Ve) (h : 32 < (veA v).size) : (veA v)[32] = .int .i64 v.u := by have := veA_g32 v; rw [Array.getElem?_eq_getElem h] at this; exact Option.some.inj this
@[go_sem] theorem veA_e33 (v : Ve) (h : 33 < (veA v).size) : (veA v)[33] = .bool v.g := by have := veA_g33 v; rw [Array.getElem?_eq_getElem h] at this; exact Option.some.inj this
theorem ver_i : (Try.prog.info? 50).map (·.size) = some 34 := by kernel_rfl
@[go_sem ↓] theorem ver_l (p : Value) : Instr.loadAt 50 p = ldA 50 p := rfl
@[go_sem ↓] theorem ver_s (p v : Value) : Instr.storeAt 50 p v = stA 50 p v := rfl
@[go_sem] theorem ver_ld (w : World) (b o : Nat) : (ldA 50 (.pointer (some ⟨b, o, none⟩))).run Try.prog w = ldR Try.prog 50 34 w b o (row w b) := ld_ruleK _ _ Try.underlying50 rfl 34 ver_i w b o
@[go_sem] theorem ver_st (w : World) (b o : Nat) (c : Array Value) : (stA 50 (.pointer (some ⟨b, o, none⟩)) (.agg c)).run Try.prog w = stR Try.prog 50 34 w b o (.agg c) (row w b) := st_rule _ 34 ver_i w b o c
theorem ver_z : (Try.prog.info? 50).map (·.zero) = some (some (.agg (veA ve0))) := by unfold veA veC ba; kernel_rfl
@[go_sem ↓] theorem ver_zero (w : World) : (zeroValue 50).run Try.prog w = .ok (.agg (veA ve0)) w := by
  have h := ver_z
  cases hq : Try.prog.info? 50 with
  | none => rw [hq] at h; cases h
  | some i =>
    rw [hq] at h
    have h' : i.zero = some (.agg (veA ve0)) := Option.some.inj h
    simp [zeroValue, typeInfo, hq, h']
@[go_sem ↓] theorem ver_bd (parts : Array (Nat × Value)) : Instr.build 50 parts = bdA 50 parts := rfl
@[go_sem] theorem ver_b1 (m : Bf) (w : World) : (bdA 50 #[(0, .agg (ba 32 m))]).run Try.prog w = .ok (.agg (veA ⟨m, 0, false⟩)) w := by
  refine run_lit _ _ _ _ [(0, 32), (32, 1), (33, 1)] ver_z (by kernel_rfl) ?_ w
  rw [veA_flt, veA_flt]
  exact fill_flt (pre := []) (o := 0) (m := 32) rfl rfl (by rw [ba_size]) (by rw [ba_size]; exact ba_size _ _)
@[go_sem] theorem ver_b2 (u : Int) (w : World) : (bdA 50 #[(1, .int .i64 u)]).run Try.prog w = .ok (.agg (veA ⟨fun _ => 0#8, u, false⟩)) w := by
  refine run_lit _ _ _ _ [(0, 32), (32, 1), (33, 1)] ver_z (by kernel_rfl) ?_ w
  rw [veA_flt, veA_flt]
  exact fill_flt (pre := [ba 32 fun _ => 0#8]) (o := 32) (m := 1) rfl (by simp [szs, ba_size]) rfl rfl
/-- two versions compared -/
def veB (a b : Ve) : Bool := eqB 32 a.m b.m && ((a.u == b.u) && (a.g == b.g))
/- slices of versions -/
theorem vers_u : Try.prog.underlying 46 = some (.slice 50) := by kernel_rfl
theorem ver_info : (Try.prog.info? 50).map (fun i => (i.zero, i.size, i.bytes)) = some (some (.agg (veA ve0)), 34, 48) := by unfold veA veC ba; kernel_rfl
def bsK (t : TypeId) (n : Nat) (parts : Array (Nat × Value)) : Sem Value := Instr.buildSlice t n parts
@[go_sem ↓] theorem vers_bs (n : Nat) (parts : Array (Nat × Value)) : Instr.buildSlice 46 n parts = bsK 46 n parts := rfl
theorem bsK_of (t : TypeId) (n : Nat) (parts : Array (Nat × Value)) (w : World) (v : Value) (w' : World) (h : (Instr.buildSlice t n parts).run Try.prog w = .ok v w') : (bsK t n parts).run Try.prog w = .ok v w' := h
@[go_sem] theorem vers_b0 (w : World) : (bsK 46 0 #[]).run Try.prog w = .ok (.slice (some ⟨w.heap.size, 0, none⟩) 0 0) (w.alloc (.cells #[] 50)) := bsK_of _ _ _ _ _ _ (by kernel_rfl)
@[go_sem] theorem vers_b1 (v : Ve) (w : World) : (bsK 46 1 #[(0, .agg (veA v))]).run Try.prog w = .ok (.slice (some ⟨w.heap.size, 0, none⟩) 1 1) (w.alloc (.cells (veA v) 50)) :=
  bsK_of _ _ _ _ _ _ (by unfold veA veC ba; kernel_rfl)
/- api.Ring -/
@[irreducible] def rgA (b : Bool) (v : Value) : Array Value := #[.bool b, v]
@[go_sem] theorem rgA_size (b : Bool) (v : Value) : (rgA b v).size = 2 := by unfold rgA; rfl
@[go_sem] theorem rgA_ne (b : Bool) (v : Value) : (rgA b v = #[]) = False := eq_false fun e => by have := congrArg Array.size e; rw [rgA_size] at this; simp at this
@[go_sem] theorem rgA_e0 (b : Bool) (v : Value) (h : 0 < (rgA b v).size) : (rgA b v)[0] = .bool b := by unfold rgA; rfl
@[go_sem] theorem rgA_e1 (b : Bool) (v : Value) (h : 1 < (rgA b v).size) : (rgA b v)[1] = v := by unfold rgA; rfl
@[go_sem] theorem rgA_g0 (b : Bool) (v : Value) : (rgA b v)[0]? = some (.bool b) := by unfold rgA; rfl
@[go_sem] theorem rgA_g1 (b : Bool) (v : Value) : (rgA b v)[1]? = some v := by unfold rgA; rfl
theorem rin_i : (Try.prog.info? 48).map (·.size) = some 2 := by kernel_rfl
theorem rins_u : Try.prog.underlying 27 = some (.slice 48) := by kernel_rfl
theorem rin_z : (Try.prog.info? 48).map (·.zero) = some (some (.agg (rgA false (.slice none 0 0)))) := by unfold rgA; kernel_rfl
theorem rin_info : (Try.prog.info? 48).map (fun i => (i.zero, i.size, i.bytes)) = some (some (.agg (rgA false (.slice none 0 0))), 2, 32) := by unfold rgA; kernel_rfl
@[go_sem ↓] theorem rin_zero (w : World) : (zeroValue 48).run Try.prog w = .ok (.agg (rgA false (.slice none 0 0))) w := by
  have h := rin_z
  cases hq : Try.prog.info? 48 with
  | none => rw [hq] at h; cases h
  | some i =>
    rw [hq] at h
    have h' : i.zero = some (.agg (rgA false (.slice none 0 0))) := Option.some.inj h
    simp [zeroValue, typeInfo, hq, h']
@[go_sem ↓] theorem rin_l (p : Value) : Instr.loadAt 48 p = ldA 48 p := rfl
@[go_sem ↓] theorem rin_s (p v : Value) : Instr.storeAt 48 p v = stA 48 p v := rfl
@[go_sem] theorem rin_ld (w : World) (b o : Nat) : (ldA 48 (.pointer (some ⟨b, o, none⟩))).run Try.prog w = ldR Try.prog 48 2 w b o (row w b) := ld_ruleK _ _ Try.underlying48 rfl 2 rin_i w b o
@[go_sem] theorem rin_st (w : World) (b o : Nat) (c : Array Value) : (stA 48 (.pointer (some ⟨b, o, none⟩)) (.agg c)).run Try.prog w = stR Try.prog 48 2 w b o (.agg c) (row w b) := st_rule _ 2 rin_i w b o c
theorem rgA_ones (b : Bool) (A : Option Addr) (n c : Nat) : Ones (rgA b (.slice A n c)) := by unfold rgA; simp [Ones, Value.oneCell']
@[go_sem] theorem rgA_ldw (P : Program) (T : Nat) (b : Bool) (v : Value) (w : World) (B : Nat) : ldR P T 2 w B 0 (some (rgA b v)) = .ok (.agg (rgA b v)) w := ldR_whole P T 2 w B _ (rgA_size b v).symm
@[go_sem] theorem rgA_stw (P : Program) (T : Nat) (b b' : Bool) (v : Value) (A : Option Addr) (n c : Nat) (w : World) (B : Nat) : stR P T 2 w B 0 (.agg (rgA b' (.slice A n c))) (some (rgA b v)) = .ok () (w.setRow B (rgA b' (.slice A n c))) :=
  stR_whole P T 2 w B _ _ (rgA_size b v).symm (by rw [rgA_size, rgA_size]) (rgA_ones _ _ _ _)
theorem rgA_c0 {w : World} {B : Nat} {b : Bool} {v : Value} (h : row w B = some (rgA b v)) : w.cell? ⟨B, 0, none⟩ = some (.bool b) := by rw [cell_row h]; unfold rgA; rfl
theorem rgA_c1 {w : World} {B : Nat} {b : Bool} {v : Value} (h : row w B = some (rgA b v)) : w.cell? ⟨B, 1, none⟩ = some v := by rw [cell_row h]; unfold rgA; rfl
@[go_sem ↓] theorem rin_bd (parts : Array (Nat × Value)) : Instr.build 48 parts = bdA 48 parts := rfl
@[go_sem] theorem rin_b1 (A : Option Addr) (n c : Nat) (w : World) : (bdA 48 #[(1, .slice A n c)]).run Try.prog w = .ok (.agg (rgA false (.slice A n c))) w := by unfold bdA rgA; kernel_rfl
@[go_sem] theorem rin_b2 (b : Bool) (A : Option Addr) (n c : Nat) (w : World) : (bdA 48 #[(0, .bool b), (1, .slice A n c)]).run Try.prog w = .ok (.agg (rgA b (.slice A n c))) w := by unfold bdA rgA; kernel_rfl
@[go_sem ↓] theorem rins_bs (n : Nat) (parts : Array (Nat × Value)) : Instr.buildSlice 27 n parts = bsK 27 n parts := rfl
@[go_sem] theorem rins_b1 (b : Bool) (A : Option Addr) (n c : Nat) (w : World) : (bsK 27 1 #[(0, .agg (rgA b (.slice A n c)))]).run Try.prog w = .ok (.slice (some ⟨w.heap.size, 0, none⟩) 1 1) (w.alloc (.cells (rgA b (.slice A n c)) 48)) :=
  bsK_of _ _ _ _ _ _ (by unfold rgA; kernel_rfl)
@[go_sem] theorem rins_b0 (w : World) : (bsK 27 0 #[]).run Try.prog w = .ok (.slice (some ⟨w.heap.size, 0, none⟩) 0 0) (w.alloc (.cells #[] 48)) := bsK_of _ _ _ _ _ _ (by kernel_rfl)
/-- a ring out of cells -/
theorem rin_cells (w : World) (g o : Nat) (b : Bool) (v : Value) (h0 : w.cell? ⟨g, o, none⟩ = some (.bool b)) (h1 : w.cell? ⟨g, o + 1, none⟩ = some v) :
    ldR Try.prog 48 2 w g o (row w g) = .ok (.agg (rgA b v)) w := by
  rw [← rin_ld]
  have h := run_loadAt_mid (P := Try.prog) w g o 48 [.bool b, v] _ (fun j x hx => by
    match j, hx with
    | 0, hx => rw [Nat.add_zero, h0]; exact hx
    | 1, hx => rw [h1]; exact hx
    | j + 2, hx => cases hx) Try.underlying48 rfl (by rw [rin_i]; rfl)
  unfold rgA
  exact h
/-- a version out of cells, wherever they lie -/
theorem ver_cells (w : World) (g o : Nat) (v : Ve) (hc : ∀ j, j < 34 → w.cell? ⟨g, o + j, none⟩ = (veC v)[j]?) :
    ldR Try.prog 50 34 w g o (row w g) = .ok (.agg (veA v)) w := by
  rw [← ver_ld]
  have h := run_loadAt_mid (P := Try.prog) w g o 50 (veC v) _ (fun j x hx => by
    by_cases hj : j < 34
    · rw [hc j hj]; exact hx
    · rw [List.getElem?_eq_none (by rw [veC_len]; omega)] at hx; cases hx) Try.underlying50 rfl (by rw [ver_i, veC_len])
  unfold veA
  exact h
/-- its material out of cells -/
theorem mat_cells (w : World) (g o : Nat) (v : Ve) (hc : ∀ j, j < 34 → w.cell? ⟨g, o + j, none⟩ = (veC v)[j]?) :
    ldR Try.prog 32 32 w g o (row w g) = .ok (.agg (ba 32 v.m)) w := by
  rw [← kk_ld]
  have h := run_loadAt_mid (P := Try.prog) w g o 32 (ba 32 v.m).toList _ (fun j x hx => by
    rw [Array.getElem?_toList] at hx
    by_cases hj : j < 32
    · rw [hc j (by omega), veC_m v j hj]; rw [ba_get 32 v.m j hj] at hx; exact hx
    · rw [ba_none 32 v.m j hj] at hx; cases hx) kk_u rfl (by rw [kk_i, Array.length_toList, ba_size])
  rw [Array.toArray_toList] at h
  exact h
/- results -/
theorem ld_rowK {P : Program} {w : World} {b : Nat} {c : Array Value} {ty : TypeId} {d : TypeDesc} (hr : row w b = some c) (hu : P.underlying ty = some d) (hd : d.isRow = true) (hi : (P.info? ty).map (·.size) = some c.size) :
    (loadVar ty ⟨b, 0, none⟩).run P w = .ok (.agg c) w := by
  obtain ⟨t', ht⟩ := row_is hr
  have hg : w.rangeAt b 0 (c.extract 0 (0 + c.size)).toList := World.rangeAt_of_block ht 0 c.size
  have hx := run_loadVar_mid (P := P) w b 0 ty _ d hg hu hd (by rw [hi]; simp)
  rw [Array.toArray_toList, Nat.zero_add, Array.extract_size] at hx
  exact hx
theorem res_ctK {P : Program} {fn : Func} {p u : Tmp} {ty : TypeId} (h : fn.results = #[.cell p ty, .tmp u]) (tmps : Array Value) (w : World) (b : Nat) (c : Array Value) (d : TypeDesc)
    (hp : tmps.getD p undef = .pointer (some ⟨b, 0, none⟩)) (hr : row w b = some c) (hu : P.underlying ty = some d) (hd : d.isRow = true) (hi : (P.info? ty).map (·.size) = some c.size) :
    (results fn tmps).run P w = .ok (.tuple #[.agg c, tmps.getD u undef]) w := by
  have hp2 : tmps[p]?.getD undef = .pointer (some ⟨b, 0, none⟩) := by simpa using hp
  simp only [results, h]
  simp [hp2, asAddr, ld_rowK hr hu hd hi]
theorem res_ttctK {P : Program} {fn : Func} {q r p u : Tmp} {ty : TypeId} (h : fn.results = #[.tmp q, .tmp r, .cell p ty, .tmp u]) (tmps : Array Value) (w : World) (b : Nat) (c : Array Value) (d : TypeDesc)
    (hp : tmps.getD p undef = .pointer (some ⟨b, 0, none⟩)) (hr : row w b = some c) (hu : P.underlying ty = some d) (hd : d.isRow = true) (hi : (P.info? ty).map (·.size) = some c.size) :
    (results fn tmps).run P w = .ok (.tuple #[tmps.getD q undef, tmps.getD r undef, .agg c, tmps.getD u undef]) w := by
  have hp2 : tmps[p]?.getD undef = .pointer (some ⟨b, 0, none⟩) := by simpa using hp
  simp only [results, h]
  simp [hp2, asAddr, ld_rowK hr hu hd hi]
end Go.Proofs.Ytabchkcieddhpaa.Oct
