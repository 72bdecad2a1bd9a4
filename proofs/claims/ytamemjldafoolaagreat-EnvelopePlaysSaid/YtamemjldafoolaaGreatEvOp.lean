/- An Op of layer 14's plays (37 cells): what came in; in a variable. -/
import Derived.Test.YtamemjldafoolaaGreatEvS
import Derived.Test.YtamemjldafoolaaGreatLib
namespace Go.Proofs.YtamemjldafoolaaGreat.Oct
open Go.ChangeShapes Go.WideShapes Go.ChangeAt Go.RowKit
set_option linter.unusedVariables false

/-- a call of the plays: kind, id, number, material, bytes, bytes beside -/
structure OpE where
  k : Int
  id : Int
  n : Int
  m : Bf
  A : Option Addr
  L : Nat
  c : Nat
  f : Bf
  A2 : Option Addr
  L2 : Nat
  c2 : Nat
  f2 : Bf
@[irreducible] def oeC (o : OpE) : List Value := [.int .i64 o.k, .int .i64 o.id, .int .i64 o.n] ++ ((ba 32 o.m).toList ++ [.slice o.A o.L o.c, .slice o.A2 o.L2 o.c2])
theorem oeC_len (o : OpE) : (oeC o).length = 37 := by unfold oeC; simp [ba_size]
theorem oeC_0 (o : OpE) : (oeC o)[0]? = some (.int .i64 o.k) := by unfold oeC; rfl
theorem oeC_1 (o : OpE) : (oeC o)[1]? = some (.int .i64 o.id) := by unfold oeC; rfl
theorem oeC_2 (o : OpE) : (oeC o)[2]? = some (.int .i64 o.n) := by unfold oeC; rfl
theorem oeC_m (o : OpE) (i : Nat) (h : i < 32) : (oeC o)[3 + i]? = some (.int .u8 (I (o.m i))) := by
  unfold oeC
  rw [List.getElem?_append_right (by simp), show 3 + i - [Value.int .i64 o.k, .int .i64 o.id, .int .i64 o.n].length = i by simp, List.getElem?_append_left (by rw [Array.length_toList, ba_size]; exact h), Array.getElem?_toList, ba_get _ _ _ h]
theorem oeC_b (o : OpE) : (oeC o)[35]? = some (.slice o.A o.L o.c) := by
  unfold oeC
  rw [List.getElem?_append_right (by simp), List.getElem?_append_right (by rw [Array.length_toList, ba_size]; simp), show (ba 32 o.m).toList.length = 32 by rw [Array.length_toList, ba_size]]
  rfl
theorem oeC_s (o : OpE) : (oeC o)[36]? = some (.slice o.A2 o.L2 o.c2) := by
  unfold oeC
  rw [List.getElem?_append_right (by simp), List.getElem?_append_right (by rw [Array.length_toList, ba_size]; simp), show (ba 32 o.m).toList.length = 32 by rw [Array.length_toList, ba_size]]
  rfl
theorem oeC_one : ∀ (o : OpE), ∀ x ∈ oeC o, x.oneCell' = true := by
  intro o x hx
  obtain ⟨i, hi, rfl⟩ := List.mem_iff_getElem.1 hx
  rw [oeC_len] at hi
  have e : ∀ y, (oeC o)[i]? = some y → (oeC o)[i] = y := fun y h => by rw [List.getElem?_eq_getElem (by rw [oeC_len]; exact hi)] at h; exact Option.some.inj h
  by_cases h0 : i = 0
  · subst h0; rw [e _ (oeC_0 o)]; rfl
  by_cases h1 : i = 1
  · subst h1; rw [e _ (oeC_1 o)]; rfl
  by_cases h2 : i = 2
  · subst h2; rw [e _ (oeC_2 o)]; rfl
  by_cases h3 : i = 35
  · subst h3; rw [e _ (oeC_b o)]; rfl
  by_cases h4 : i = 36
  · subst h4; rw [e _ (oeC_s o)]; rfl
  obtain ⟨k, rfl⟩ : ∃ k, i = 3 + k := ⟨i - 3, by omega⟩
  rw [e _ (oeC_m o k (by omega))]; rfl
def i64E (x : Int) : Prop := -9223372036854775808 ≤ x ∧ x < 9223372036854775808
/-- the calls that came in -/
structure OpsE (w : World) (v : Value) (l : List OpE) : Prop where
  wf : ∀ o ∈ l, (i64E o.k ∧ i64E o.id ∧ i64E o.n) ∧ (Sl w w.heap.size o.A o.L o.c o.f ∧ o.c ≤ maxLen) ∧ Sl w w.heap.size o.A2 o.L2 o.c2 o.f2 ∧ o.c2 ≤ maxLen
  at_ : ∃ A c, v = .slice A l.length c ∧ l.length ≤ c ∧ c ≤ maxLen ∧ (0 < l.length → ∃ g o, A = some ⟨g, o, none⟩ ∧ g < w.heap.size ∧ ∀ i j (hi : i < l.length), j < 37 → w.cell? ⟨g, o + i * 37 + j, none⟩ = (oeC l[i])[j]?)
section
variable {H : Type} {enc : TypeId × Value → H} {w : World} {base : Nat} {spare : Nat → Bool} {held : Bool}
theorem wfE {x : Int} (hw : (Lit.int .i64 x).wf = true) : i64E x := by
  simp only [Lit.wf, IntKind.min, IntKind.max, IntKind.signed, IntKind.bits, Bool.and_eq_true, decide_eq_true_eq, if_true] at hw
  unfold i64E
  omega
theorem fldd_structE {P : Program} {t : TypeId} {fs : Array Field} {fuel : Nat} {cs : List Value} {x : DataW H × List MemPlace} (ht : P.underlying t = some (.struct fs)) (h : DataW.trod enc P w base spare held fuel t cs = some x) :
    ∃ m, ∀ (i : Nat) (f : Field), fs[i]? = some f → ∃ y, DataW.trod enc P w base spare held m f.type (fld cs f.offset (P.cellsOf f.type)) = some y := by
  obtain ⟨xs, m, _, _, _, hx, hall⟩ := DataW.trod_struct ht h
  refine ⟨m, fun i f hi => ?_⟩
  have hlt : i < xs.length := by rw [hx]; exact (Array.getElem?_eq_some_iff.1 hi).1
  exact ⟨xs[i], by have := hall i f hi; rw [List.getElem?_eq_getElem hlt] at this; exact this⟩
set_option maxRecDepth 20000 in
/-- an element's cells -/
theorem el_opE {fuel : Nat} {cs : List Value} {x : DataW H × List MemPlace} (hl : cs.length = 37) (h : DataW.trod enc Tryz.prog w base spare held fuel 35 cs = some x) :
    ∃ o : OpE, cs = oeC o ∧ (i64E o.k ∧ i64E o.id ∧ i64E o.n) ∧ (Sl w w.heap.size o.A o.L o.c o.f ∧ o.c ≤ maxLen) ∧ Sl w w.heap.size o.A2 o.L2 o.c2 o.f2 ∧ o.c2 ≤ maxLen := by
  obtain ⟨m, hall⟩ := fldd_structE Tryz.underlying35 h
  obtain ⟨y0, e0⟩ := hall 0 _ rfl
  obtain ⟨y1, e1⟩ := hall 1 _ rfl
  obtain ⟨y2, e2⟩ := hall 2 _ rfl
  obtain ⟨y3, e3⟩ := hall 3 _ rfl
  obtain ⟨y4, e4⟩ := hall 4 _ rfl
  obtain ⟨y5, e5⟩ := hall 5 _ rfl
  have h0 : Tryz.prog.cellsOf 5 = 1 := by kernel_rfl
  obtain ⟨a, ea, _, ha⟩ := DataW.trod_int (k := .i64) (by kernel_rfl) e0
  obtain ⟨b, eb, _, hb⟩ := DataW.trod_int (k := .i64) (by kernel_rfl) e1
  obtain ⟨c, ec, _, hc⟩ := DataW.trod_int (k := .i64) (by kernel_rfl) e2
  obtain ⟨f, ef⟩ := fld_bytes key_u u8_u (by kernel_rfl) (by kernel_rfl) e3 (by show (fld cs 3 32).length = 32; exact fld_len (by omega))
  obtain ⟨A, n, k, g, eg, hg, hk⟩ := fld_sl sli_u u8_u h0 e4
  obtain ⟨A2, n2, k2, g2, eg2, hg2, hk2⟩ := fld_sl sli_u u8_u h0 e5
  refine ⟨⟨a, b, c, f, A, n, k, g, A2, n2, k2, g2⟩, ?_, ⟨wfE ha, wfE hb, wfE hc⟩, ⟨hg, hk⟩, hg2, hk2⟩
  unfold oeC
  have h3 : cs = fld cs 0 1 ++ (fld cs 1 1 ++ (fld cs 2 1 ++ (fld cs 3 32 ++ (fld cs 35 1 ++ fld cs 36 1)))) := by
    have d0 : cs.take 1 ++ cs.drop 1 = cs := List.take_append_drop 1 cs
    have d1 : (cs.drop 1).take 1 ++ cs.drop 2 = cs.drop 1 := by rw [show cs.drop 2 = (cs.drop 1).drop 1 by rw [List.drop_drop], List.take_append_drop]
    have d2 : (cs.drop 2).take 1 ++ cs.drop 3 = cs.drop 2 := by rw [show cs.drop 3 = (cs.drop 2).drop 1 by rw [List.drop_drop], List.take_append_drop]
    have d3 : (cs.drop 3).take 32 ++ cs.drop 35 = cs.drop 3 := by rw [show cs.drop 35 = (cs.drop 3).drop 32 by rw [List.drop_drop], List.take_append_drop]
    have d4 : (cs.drop 35).take 1 ++ cs.drop 36 = cs.drop 35 := by rw [show cs.drop 36 = (cs.drop 35).drop 1 by rw [List.drop_drop], List.take_append_drop]
    have d5 : (cs.drop 36).take 1 = cs.drop 36 := List.take_of_length_le (by simp; omega)
    unfold fld
    rw [List.drop_zero, d5, d4, d3, d2, d1, d0]
  rw [h3]
  rw [show fld cs 0 1 = [.int .i64 a] from ea, show fld cs 1 1 = [.int .i64 b] from eb, show fld cs 2 1 = [.int .i64 c] from ec, show fld cs 3 32 = (ba 32 f).toList from ef, show fld cs 35 1 = [.slice A n k] from eg, show fld cs 36 1 = [.slice A2 n2 k2] from eg2]
  rfl
set_option maxRecDepth 20000 in
theorem open_opsE {r : Reach} {b : Nat} {v : Value} {d : DataW H} {p : List MemPlace} (hv : Value.okWide Tryz.prog w r b 22 v) (h : DataW.Trod enc Tryz.prog w base spare held 22 v d p) : ∃ l, OpsE w v l := by
  obtain ⟨a0, n0, c0, rfl⟩ := okWide_slice Tryz.underlying22 hv
  obtain ⟨fuel, hf⟩ := h
  have hc5 : Tryz.prog.cellsOf 35 = 37 := by kernel_rfl
  rcases Deep.open_slice Tryz.underlying22 hf with ⟨hcs, _⟩ | ⟨a, len, cap, m, n, D, Pl, hcs, _, hl, hm, hmm, _, hx⟩
  · have e0 : (.slice a0 n0 c0 : Value) = .slice none 0 0 := by simpa [Value.cells] using hcs
    injection e0 with e1 e2 e3
    subst e1; subst e2; subst e3
    exact ⟨[], ⟨fun o ho => (List.not_mem_nil ho).elim, none, 0, rfl, Nat.le_refl _, Nat.zero_le _, fun hn => absurd hn (Nat.lt_irrefl 0)⟩⟩
  · have e0 : (.slice a0 n0 c0 : Value) = .slice (some a) len cap := by simpa [Value.cells] using hcs
    injection e0 with e1 e2 e3
    subst e1; subst e2; subst e3
    have hlen : n0 ≤ m := by rw [hmm]; split <;> omega
    have hsp : 0 < n0 → a.spot = none ∧ a.block < w.heap.size := fun hn => by
      obtain ⟨cs0, hcl0, _⟩ := hx 0 (by omega)
      rw [hc5] at hcl0
      obtain ⟨_, hl0, hcell0⟩ := World.cells?_some hcl0
      have hc0 := hcell0 0 (by omega)
      rw [List.getElem?_eq_getElem (by omega)] at hc0
      have h1 := World.cell?_spot hc0
      obtain ⟨g, o, s⟩ := a
      have hs' : s = none := h1
      subst hs'
      simp only [add_mid] at hc0
      exact ⟨rfl, World.block_lt_of_cell? w _ hc0⟩
    have hb : ∀ i : Nat, ∃ O : OpE, i < n0 → ((i64E O.k ∧ i64E O.id ∧ i64E O.n) ∧ (Sl w w.heap.size O.A O.L O.c O.f ∧ O.c ≤ maxLen) ∧ Sl w w.heap.size O.A2 O.L2 O.c2 O.f2 ∧ O.c2 ≤ maxLen) ∧ ∀ j, j < 37 → w.cell? ⟨a.block, a.off + i * 37 + j, none⟩ = (oeC O)[j]? := fun i => by
      by_cases hi : i < n0
      · obtain ⟨cs', hcl, htr⟩ := hx i (by omega)
        rw [hc5] at hcl
        obtain ⟨hb', hl5, hcell⟩ := World.cells?_some hcl
        obtain ⟨O, e, hw⟩ := el_opE hl5 htr
        refine ⟨O, fun _ => ⟨hw, fun j hj => ?_⟩⟩
        have h1 := hcell j (by omega)
        have h2 := (hsp (by omega)).1
        obtain ⟨g, o, s⟩ := a
        have hs' : s = none := h2
        subst hs'
        simp only [add_mid] at h1
        rw [← e]
        exact h1
      · exact ⟨⟨0, 0, 0, nF, none, 0, 0, nF, none, 0, 0, nF⟩, fun e => absurd e hi⟩
    obtain ⟨X, hX⟩ := Classical.axiomOfChoice hb
    have hlr : ((List.range n0).map X).length = n0 := by simp
    refine ⟨(List.range n0).map X, ⟨fun o ho => ?_, some a, c0, by rw [hlr], by rw [hlr]; exact hl, hm, fun hn => ?_⟩⟩
    · obtain ⟨i, hi, rfl⟩ := List.mem_map.1 ho
      exact (hX i (List.mem_range.1 hi)).1
    · rw [hlr] at hn
      obtain ⟨h1, h2⟩ := hsp hn
      refine ⟨a.block, a.off, by obtain ⟨g, o, s⟩ := a; have hs' : s = none := h1; subst hs'; rfl, h2, fun i j hi hj => ?_⟩
      have hi' : i < n0 := by rw [hlr] at hi; exact hi
      rw [(hX i hi').2 j hj]
      simp
end
/- a call as a value -/
@[irreducible] def oeA (o : OpE) : Array Value := (oeC o).toArray
def oe0 : OpE := ⟨0, 0, 0, fun _ => 0#8, none, 0, 0, nF, none, 0, 0, nF⟩
theorem oeA_list (o : OpE) : (oeA o).toList = oeC o := by unfold oeA; rfl
@[go_sem] theorem oeA_size (o : OpE) : (oeA o).size = 37 := by unfold oeA; rw [List.size_toArray, oeC_len]
@[go_sem] theorem oeA_ne (o : OpE) : (oeA o = #[]) = False := eq_false fun e => by have := congrArg Array.size e; rw [oeA_size] at this; simp at this
theorem oeA_flt (o : OpE) : oeA o = flt [#[.int .i64 o.k], #[.int .i64 o.id], #[.int .i64 o.n], ba 32 o.m, #[.slice o.A o.L o.c], #[.slice o.A2 o.L2 o.c2]] := by
  unfold oeA oeC flt
  congr 1
  all_goals simp
theorem oeA_get (o : OpE) (i : Nat) : (oeA o)[i]? = (oeC o)[i]? := by unfold oeA; rw [List.getElem?_toArray]
@[go_sem] theorem oeA_g0 (o : OpE) : (oeA o)[0]? = some (.int .i64 o.k) := by rw [oeA_get, oeC_0]
@[go_sem] theorem oeA_g1 (o : OpE) : (oeA o)[1]? = some (.int .i64 o.id) := by rw [oeA_get, oeC_1]
@[go_sem] theorem oeA_g2 (o : OpE) : (oeA o)[2]? = some (.int .i64 o.n) := by rw [oeA_get, oeC_2]
@[go_sem] theorem oeA_gb (o : OpE) : (oeA o)[35]? = some (.slice o.A o.L o.c) := by rw [oeA_get, oeC_b]
@[go_sem] theorem oeA_gs (o : OpE) : (oeA o)[36]? = some (.slice o.A2 o.L2 o.c2) := by rw [oeA_get, oeC_s]
@[go_sem] theorem oeA_e0 (o : OpE) (h : 0 < (oeA o).size) : (oeA o)[0] = .int .i64 o.k := by have := oeA_g0 o; rw [Array.getElem?_eq_getElem h] at this; exact Option.some.inj this
@[go_sem] theorem oeA_e1 (o : OpE) (h : 1 < (oeA o).size) : (oeA o)[1] = .int .i64 o.id := by have := oeA_g1 o; rw [Array.getElem?_eq_getElem h] at this; exact Option.some.inj this
@[go_sem] theorem oeA_e2 (o : OpE) (h : 2 < (oeA o).size) : (oeA o)[2] = .int .i64 o.n := by have := oeA_g2 o; rw [Array.getElem?_eq_getElem h] at this; exact Option.some.inj this
@[go_sem] theorem oeA_eb (o : OpE) (h : 35 < (oeA o).size) : (oeA o)[35] = .slice o.A o.L o.c := by have := oeA_gb o; rw [Array.getElem?_eq_getElem h] at this; exact Option.some.inj this
@[go_sem] theorem oeA_es (o : OpE) (h : 36 < (oeA o).size) : (oeA o)[36] = .slice o.A2 o.L2 o.c2 := by have := oeA_gs o; rw [Array.getElem?_eq_getElem h] at this; exact Option.some.inj this
theorem oeA_ones (o : OpE) : Ones (oeA o) := by
  show (oeA o).all _ = true
  rw [← Array.all_toList, oeA_list, List.all_eq_true]
  exact oeC_one o
@[go_sem] theorem oeA_ldm (P : Program) (T : Nat) (o : OpE) (w : World) (B : Nat) : ldR P T 32 w B 3 (some (oeA o)) = .ok (.agg (ba 32 o.m)) w := by
  rw [oeA_flt]; exact ldR_flt P T 32 w B [#[.int .i64 o.k], #[.int .i64 o.id], #[.int .i64 o.n]] _ _ (by simp [szs]) (by rw [ba_size])
theorem oe_i : (Tryz.prog.info? 35).map (·.size) = some 37 := by kernel_rfl
@[go_sem ↓] theorem oe_l (p : Value) : Instr.loadAt 35 p = ldA 35 p := rfl
@[go_sem] theorem oe_ld (w : World) (b o : Nat) : (ldA 35 (.pointer (some ⟨b, o, none⟩))).run Tryz.prog w = ldR Tryz.prog 35 37 w b o (row w b) := ld_ruleK _ _ Tryz.underlying35 rfl 37 oe_i w b o
@[go_sem ↓] theorem oe_s (p v : Value) : Instr.storeAt 35 p v = stA 35 p v := rfl
@[go_sem] theorem oe_st (w : World) (b o : Nat) (c : Array Value) : (stA 35 (.pointer (some ⟨b, o, none⟩)) (.agg c)).run Tryz.prog w = stR Tryz.prog 35 37 w b o (.agg c) (row w b) := st_rule _ 37 oe_i w b o c
theorem oe_z : (Tryz.prog.info? 35).map (·.zero) = some (some (.agg (oeA oe0))) := by unfold oeA oeC ba; kernel_rfl
@[go_sem ↓] theorem oe_zero (w : World) : (zeroValue 35).run Tryz.prog w = .ok (.agg (oeA oe0)) w := zero_rule _ _ oe_z w
@[go_sem] theorem oeA_stw (P : Program) (T : Nat) (v x : OpE) (w : World) (B : Nat) : stR P T 37 w B 0 (.agg (oeA x)) (some (oeA v)) = .ok () (w.setRow B (oeA x)) := stR_whole P T 37 w B _ _ (oeA_size v).symm (by rw [oeA_size, oeA_size]) (oeA_ones x)
/-- one out of cells -/
theorem oe_cells (w : World) (g o : Nat) (x : OpE) (hc : ∀ j, j < 37 → w.cell? ⟨g, o + j, none⟩ = (oeC x)[j]?) :
    ldR Tryz.prog 35 37 w g o (row w g) = .ok (.agg (oeA x)) w := by
  rw [← oe_ld]
  have h := run_loadAt_mid (P := Tryz.prog) w g o 35 (oeC x) _ (fun j y hy => by
    by_cases hj : j < 37
    · rw [hc j hj]; exact hy
    · rw [List.getElem?_eq_none (by rw [oeC_len]; omega)] at hy; cases hy) Tryz.underlying35 rfl (by rw [oe_i, oeC_len])
  unfold oeA
  exact h
/-- the cells of a call in a variable -/
theorem oe_at {w : World} {Z : Nat} {x : OpE} (h : row w Z = some (oeA x)) :
    w.cell? ⟨Z, 0, none⟩ = some (.int .i64 x.k) ∧ w.cell? ⟨Z, 1, none⟩ = some (.int .i64 x.id) ∧ w.cell? ⟨Z, 2, none⟩ = some (.int .i64 x.n) ∧ w.cell? ⟨Z, 35, none⟩ = some (.slice x.A x.L x.c) ∧ w.cell? ⟨Z, 36, none⟩ = some (.slice x.A2 x.L2 x.c2) := by
  refine ⟨?_, ?_, ?_, ?_, ?_⟩ <;> rw [cell_row h, oeA_get]
  · exact oeC_0 x
  · exact oeC_1 x
  · exact oeC_2 x
  · exact oeC_b x
  · exact oeC_s x
end Go.Proofs.YtamemjldafoolaaGreat.Oct
