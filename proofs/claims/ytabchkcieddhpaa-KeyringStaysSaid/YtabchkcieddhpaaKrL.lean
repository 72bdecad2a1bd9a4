/- What the statements of layer 13 share beside the program: kind; an Op (35 cells); the Ops and the rings that came in. -/
import Derived.Test.YtabchkcieddhpaaKrTy
import Derived.Test.YtabchkcieddhpaaKrU
import Derived.Test.YtabchkcieddhpaaLib
import Derived.WalkKit
import Derived.ProofKit
import Derived.OpenShut
import Derived.Outline
import Derived.Lib.Hide
namespace Go.Proofs.Ytabchkcieddhpaa.Oct
open Go.ChangeShapes Go.WideShapes Go.ChangeAt Go.RowKit
set_option linter.unusedVariables false

/-- which of n kinds -/
def kdF (c : Int) (n : Int) : Int := (if c < 0 then -(c + 1) else c) % n
theorem kdF_nn (c n : Int) (hn : 0 < n) : 0 ≤ kdF c n ∧ kdF c n < n := ⟨Int.emod_nonneg _ (by omega), Int.emod_lt_of_pos _ hn⟩
theorem kind_any (c n : Int) (hc : -9223372036854775808 ≤ c ∧ c < 9223372036854775808) (hn : 0 < n ∧ n < 1000) (w : World) :
    Calls Try.prog 10 #[.int .i64 c, .int .i64 n] w fun e w' => e = .returned (.int .i64 (kdF c n)) ∧ w = w' := by
  by_cases h : c < 0
  · have hd : decide (c < 0) = true := by simpa using h
    have e : kdF c n = (-(c + 1)).tmod n := by unfold kdF; rw [if_pos h, Int.tmod_eq_emod_of_nonneg (by omega)]
    rw [e]
    have h1 : -9223372036854775808 ≤ (-(c + 1)).tmod n ∧ (-(c + 1)).tmod n < 9223372036854775808 := by
      rw [Int.tmod_eq_emod_of_nonneg (by omega)]
      have := Int.emod_nonneg (-(c + 1)) (show n ≠ 0 by omega)
      have := Int.emod_lt_of_pos (-(c + 1)) hn.1
      omega
    go_enter Try.func10, Try.ntmps10
    go_wp2
    go_ret
    refine ⟨?_, rfl⟩
    show Ending.returned (Value.int .i64 (-((c + 1).tmod n))) = _
    rw [Int.neg_tmod]
  · have hd : decide (c < 0) = false := by simpa using h
    have e : kdF c n = c % n := by unfold kdF; rw [if_neg h]
    rw [e]
    have h1 : -9223372036854775808 ≤ c % n ∧ c % n < 9223372036854775808 := by
      have := Int.emod_nonneg c (show n ≠ 0 by omega)
      have := Int.emod_lt_of_pos c hn.1
      omega
    go_enter Try.func10, Try.ntmps10
    go_wp2
    go_ret
    exact ⟨rfl, rfl⟩
/-- a call of the plays: kind, id, number, material -/
structure OpK where
  k : Int
  id : Int
  n : Int
  m : Bf
@[irreducible] def okC (o : OpK) : List Value := [.int .i64 o.k, .int .i64 o.id, .int .i64 o.n] ++ (ba 32 o.m).toList
theorem okC_len (o : OpK) : (okC o).length = 35 := by unfold okC; simp [ba_size]
theorem okC_0 (o : OpK) : (okC o)[0]? = some (.int .i64 o.k) := by unfold okC; rfl
theorem okC_1 (o : OpK) : (okC o)[1]? = some (.int .i64 o.id) := by unfold okC; rfl
theorem okC_2 (o : OpK) : (okC o)[2]? = some (.int .i64 o.n) := by unfold okC; rfl
theorem okC_m (o : OpK) (i : Nat) (h : i < 32) : (okC o)[3 + i]? = some (.int .u8 (I (o.m i))) := by
  unfold okC
  rw [List.getElem?_append_right (by simp), show 3 + i - [Value.int .i64 o.k, .int .i64 o.id, .int .i64 o.n].length = i by simp, Array.getElem?_toList, ba_get _ _ _ h]
def i64K (x : Int) : Prop := -9223372036854775808 ≤ x ∧ x < 9223372036854775808
/-- the calls that came in -/
structure OpsK (w : World) (v : Value) (l : List OpK) : Prop where
  wf : ∀ o ∈ l, i64K o.k ∧ i64K o.id ∧ i64K o.n
  at_ : ∃ A c, v = .slice A l.length c ∧ l.length ≤ c ∧ c ≤ maxLen ∧ (0 < l.length → ∃ g o, A = some ⟨g, o, none⟩ ∧ g < w.heap.size ∧ ∀ i j (hi : i < l.length), j < 35 → w.cell? ⟨g, o + i * 35 + j, none⟩ = (okC l[i])[j]?)
theorem OpsK.below {w w' : World} {v : Value} {l : List OpK} (h : OpsK w v l) (hb : Below w.heap.size w w') : OpsK w' v l := by
  obtain ⟨A, c, e, h1, h2, h3⟩ := h.at_
  refine ⟨h.wf, A, c, e, h1, h2, fun hn => ?_⟩
  obtain ⟨g, o, e2, hg, hc⟩ := h3 hn
  refine ⟨g, o, e2, Nat.lt_of_lt_of_le hg hb.size, fun i j hi hj => ?_⟩
  rw [World.cell?_of_block (w := w) (hb.block g hg)]
  exact hc i j hi hj
section
variable {H : Type} {enc : TypeId × Value → H} {w : World} {base : Nat} {spare : Nat → Bool} {held : Bool}
theorem wfK {x : Int} (hw : (Lit.int .i64 x).wf = true) : i64K x := by
  simp only [Lit.wf, IntKind.min, IntKind.max, IntKind.signed, IntKind.bits, Bool.and_eq_true, decide_eq_true_eq, if_true] at hw
  unfold i64K
  omega
theorem fldd_structK {P : Program} {t : TypeId} {fs : Array Field} {fuel : Nat} {cs : List Value} {x : DataW H × List MemPlace} (ht : P.underlying t = some (.struct fs)) (h : DataW.trod enc P w base spare held fuel t cs = some x) :
    ∃ m, ∀ (i : Nat) (f : Field), fs[i]? = some f → ∃ y, DataW.trod enc P w base spare held m f.type (fld cs f.offset (P.cellsOf f.type)) = some y := by
  obtain ⟨xs, m, _, _, _, hx, hall⟩ := DataW.trod_struct ht h
  refine ⟨m, fun i f hi => ?_⟩
  have hlt : i < xs.length := by rw [hx]; exact (Array.getElem?_eq_some_iff.1 hi).1
  exact ⟨xs[i], by have := hall i f hi; rw [List.getElem?_eq_getElem hlt] at this; exact this⟩
/-- an element's cells -/
theorem el_opK {fuel : Nat} {cs : List Value} {x : DataW H × List MemPlace} (hl : cs.length = 35) (h : DataW.trod enc Try.prog w base spare held fuel 34 cs = some x) :
    ∃ o : OpK, cs = okC o ∧ i64K o.k ∧ i64K o.id ∧ i64K o.n := by
  obtain ⟨m, hall⟩ := fldd_structK Try.underlying34 h
  obtain ⟨y0, e0⟩ := hall 0 _ rfl
  obtain ⟨y1, e1⟩ := hall 1 _ rfl
  obtain ⟨y2, e2⟩ := hall 2 _ rfl
  obtain ⟨y3, e3⟩ := hall 3 _ rfl
  obtain ⟨a, ea, _, ha⟩ := DataW.trod_int (k := .i64) (by kernel_rfl) e0
  obtain ⟨b, eb, _, hb⟩ := DataW.trod_int (k := .i64) (by kernel_rfl) e1
  obtain ⟨c, ec, _, hc⟩ := DataW.trod_int (k := .i64) (by kernel_rfl) e2
  obtain ⟨f, ef⟩ := fld_bytes kk_u u8_u (by kernel_rfl) (by kernel_rfl) e3 (by show (fld cs 3 32).length = 32; exact fld_len (by omega))
  refine ⟨⟨a, b, c, f⟩, ?_, wfK ha, wfK hb, wfK hc⟩
  unfold okC
  have h3 : cs = fld cs 0 1 ++ (fld cs 1 1 ++ (fld cs 2 1 ++ fld cs 3 32)) := by
    have d0 : cs.take 1 ++ cs.drop 1 = cs := List.take_append_drop 1 cs
    have d1 : (cs.drop 1).take 1 ++ cs.drop 2 = cs.drop 1 := by rw [show cs.drop 2 = (cs.drop 1).drop 1 by rw [List.drop_drop], List.take_append_drop]
    have d2 : (cs.drop 2).take 1 ++ cs.drop 3 = cs.drop 2 := by rw [show cs.drop 3 = (cs.drop 2).drop 1 by rw [List.drop_drop], List.take_append_drop]
    have d3 : (cs.drop 3).take 32 = cs.drop 3 := List.take_of_length_le (by simp; omega)
    unfold fld
    rw [List.drop_zero, d3, d2, d1, d0]
  rw [h3]
  rw [show fld cs 0 1 = [.int .i64 a] from ea, show fld cs 1 1 = [.int .i64 b] from eb, show fld cs 2 1 = [.int .i64 c] from ec, show fld cs 3 32 = (ba 32 f).toList from ef]
  rfl
theorem open_opsK {r : Reach} {b : Nat} {v : Value} {d : DataW H} {p : List MemPlace} (hv : Value.okWide Try.prog w r b 22 v) (h : DataW.Trod enc Try.prog w base spare held 22 v d p) : ∃ l, OpsK w v l := by
  obtain ⟨a0, n0, c0, rfl⟩ := okWide_slice Try.underlying22 hv
  obtain ⟨fuel, hf⟩ := h
  have hc5 : Try.prog.cellsOf 34 = 35 := by kernel_rfl
  rcases Deep.open_slice Try.underlying22 hf with ⟨hcs, _⟩ | ⟨a, len, cap, m, n, D, Pl, hcs, _, hl, hm, hmm, _, hx⟩
  · have e0 : (.slice a0 n0 c0 : Value) = .slice none 0 0 := by simpa [Value.cells] using hcs
    injection e0 with e1 e2 e3
    subst e1; subst e2; subst e3
    exact ⟨[], ⟨fun o ho => (List.not_mem_nil ho).elim, none, 0, rfl, Nat.le_refl _, Nat.zero_le _, fun hn => absurd hn (Nat.lt_irrefl 0)⟩⟩
  · have e0 : (.slice a0 n0 c0 : Value) = .slice (some a) len cap := by simpa [Value.cells] using hcs
    injection e0 with e1 e2 e3
    subst e1; subst e2; subst e3
    have hlen : n0 ≤ m := by rw [hmm]; split <;> omega
    have hsp : 0 < n0 → a.spot = none ∧ a.block < w.heap.size := fun hn => by
      obtain ⟨cs0, hcl0, _⟩ := hx 0 (by omega)
      rw [hc5] at hcl0
      obtain ⟨_, hl0, hcell0⟩ := World.cells?_some hcl0
      have hc0 := hcell0 0 (by omega)
      rw [List.getElem?_eq_getElem (by omega)] at hc0
      have h1 := World.cell?_spot hc0
      obtain ⟨g, o, s⟩ := a
      have hs' : s = none := h1
      subst hs'
      simp only [add_mid] at hc0
      exact ⟨rfl, World.block_lt_of_cell? w _ hc0⟩
    have hb : ∀ i : Nat, ∃ O : OpK, i < n0 → (i64K O.k ∧ i64K O.id ∧ i64K O.n) ∧ ∀ j, j < 35 → w.cell? ⟨a.block, a.off + i * 35 + j, none⟩ = (okC O)[j]? := fun i => by
      by_cases hi : i < n0
      · obtain ⟨cs', hcl, htr⟩ := hx i (by omega)
        rw [hc5] at hcl
        obtain ⟨hb', hl5, hcell⟩ := World.cells?_some hcl
        obtain ⟨O, e, hw⟩ := el_opK hl5 htr
        refine ⟨O, fun _ => ⟨hw, fun j hj => ?_⟩⟩
        have h1 := hcell j (by omega)
        have h2 := (hsp (by omega)).1
        obtain ⟨g, o, s⟩ := a
        have hs' : s = none := h2
        subst hs'
        simp only [add_mid] at h1
        rw [← e]
        exact h1
      · exact ⟨⟨0, 0, 0, nF⟩, fun e => absurd e hi⟩
    obtain ⟨X, hX⟩ := Classical.axiomOfChoice hb
    have hlr : ((List.range n0).map X).length = n0 := by simp
    refine ⟨(List.range n0).map X, ⟨fun o ho => ?_, some a, c0, by rw [hlr], by rw [hlr]; exact hl, hm, fun hn => ?_⟩⟩
    · obtain ⟨i, hi, rfl⟩ := List.mem_map.1 ho
      exact (hX i (List.mem_range.1 hi)).1
    · rw [hlr] at hn
      obtain ⟨h1, h2⟩ := hsp hn
      refine ⟨a.block, a.off, by obtain ⟨g, o, s⟩ := a; have hs' : s = none := h1; subst hs'; rfl, h2, fun i j hi hj => ?_⟩
      have hi' : i < n0 := by rw [hlr] at hi; exact hi
      rw [(hX i hi').2 j hj]
      simp
theorem el_verK {fuel : Nat} {cs : List Value} {x : DataW H × List MemPlace} (hl : cs.length = 34) (h : DataW.trod enc Try.prog w base spare held fuel 50 cs = some x) : ∃ v : Ve, cs = veC v := by
  obtain ⟨m, hall⟩ := fldd_structK Try.underlying50 h
  obtain ⟨y0, e0⟩ := hall 0 _ rfl
  obtain ⟨y1, e1⟩ := hall 1 _ rfl
  obtain ⟨y2, e2⟩ := hall 2 _ rfl
  obtain ⟨f, ef⟩ := fld_bytes kk_u u8_u (by kernel_rfl) (by kernel_rfl) e0 (by show (fld cs 0 32).length = 32; exact fld_len (by omega))
  obtain ⟨u, eu, _, _⟩ := DataW.trod_int (k := .i64) (by kernel_rfl) e1
  obtain ⟨g, eg, _⟩ := DataW.trod_bool (by kernel_rfl) e2
  refine ⟨⟨f, u, g⟩, ?_⟩
  unfold veC
  have d0 : cs.take 32 ++ cs.drop 32 = cs := List.take_append_drop 32 cs
  have d1 : (cs.drop 32).take 1 ++ cs.drop 33 = cs.drop 32 := by rw [show cs.drop 33 = (cs.drop 32).drop 1 by rw [List.drop_drop], List.take_append_drop]
  have d2 : (cs.drop 33).take 1 = cs.drop 33 := List.take_of_length_le (by simp; omega)
  have h3 : cs = fld cs 0 32 ++ (fld cs 32 1 ++ fld cs 33 1) := by
    unfold fld
    rw [List.drop_zero, d2, d1, d0]
  rw [h3]
  rw [show fld cs 0 32 = (ba 32 f).toList from ef, show fld cs 32 1 = [.int .i64 u] from eu, show fld cs 33 1 = [.bool g] from eg]
  rfl
/-- a slice of structs of k cells that came in, whatever their cells say -/
theorem open_rowK {P : Program} {t e : TypeId} {k : Nat} {α : Type} [Inhabited α] {R : α → List Value → Prop} (ht : P.underlying t = some (.slice e)) (hk : P.cellsOf e = k) (hk0 : 0 < k)
    (hel : ∀ (fuel : Nat) (cs : List Value) (x : DataW H × List MemPlace), cs.length = k → DataW.trod enc P w base spare held fuel e cs = some x → ∃ a, R a cs) {fuel : Nat} {cs : List Value} {x : DataW H × List MemPlace}
    (h : DataW.trod enc P w base spare held fuel t cs = some x) : ∃ A c, ∃ l : List α, cs = [.slice A l.length c] ∧ l.length ≤ c ∧ c ≤ maxLen ∧ (A = none → c = 0) ∧ (0 < l.length → ∃ g o, A = some ⟨g, o, none⟩ ∧ g < w.heap.size ∧
      ∀ i (hi : i < l.length), ∃ vs, R l[i] vs ∧ vs.length = k ∧ ∀ j, j < k → w.cell? ⟨g, o + i * k + j, none⟩ = vs[j]?) := by
  rcases Deep.open_slice ht h with ⟨hcs, _⟩ | ⟨a, len, cap, m, n, D, Pl, hcs, _, hl, hm, hmm, _, hx⟩
  · exact ⟨none, 0, [], hcs, Nat.le_refl _, Nat.zero_le _, fun _ => rfl, fun hn => absurd hn (Nat.lt_irrefl 0)⟩
  · have hlen : len ≤ m := by rw [hmm]; split <;> omega
    have hsp : 0 < len → a.spot = none ∧ a.block < w.heap.size := fun hn => by
      obtain ⟨cs0, hcl0, _⟩ := hx 0 (by omega)
      rw [hk, Nat.zero_mul] at hcl0
      obtain ⟨_, hl0, hcell0⟩ := World.cells?_some hcl0
      have hc0 := hcell0 0 (by omega)
      rw [List.getElem?_eq_getElem (by omega)] at hc0
      have h1 := World.cell?_spot hc0
      obtain ⟨g, o, s⟩ := a
      have hs' : s = none := h1
      subst hs'
      simp only [add_mid] at hc0
      exact ⟨rfl, World.block_lt_of_cell? w _ hc0⟩
    have hb : ∀ i : Nat, ∃ O : α, i < len → ∃ vs, R O vs ∧ vs.length = k ∧ ∀ j, j < k → w.cell? ⟨a.block, a.off + i * k + j, none⟩ = vs[j]? := fun i => by
      by_cases hi : i < len
      · obtain ⟨cs', hcl, htr⟩ := hx i (by omega)
        rw [hk] at hcl
        obtain ⟨hb', hl5, hcell⟩ := World.cells?_some hcl
        obtain ⟨O, hO⟩ := hel _ _ _ hl5 htr
        refine ⟨O, fun _ => ⟨cs', hO, hl5, fun j hj => ?_⟩⟩
        have h1 := hcell j (by omega)
        have h2 := (hsp (by omega)).1
        obtain ⟨g, o, s⟩ := a
        have hs' : s = none := h2
        subst hs'
        simp only [add_mid] at h1
        exact h1
      · exact ⟨default, fun e => absurd e hi⟩
    obtain ⟨X, hX⟩ := Classical.axiomOfChoice hb
    have hlr : ((List.range len).map X).length = len := by simp
    refine ⟨some a, cap, (List.range len).map X, by rw [hlr]; exact hcs, by rw [hlr]; exact hl, hm, (fun e => nomatch e), fun hn => ?_⟩
    rw [hlr] at hn
    obtain ⟨h1, h2⟩ := hsp hn
    refine ⟨a.block, a.off, by obtain ⟨g, o, s⟩ := a; have hs' : s = none := h1; subst hs'; rfl, h2, fun i hi => ?_⟩
    have hi' : i < len := by rw [hlr] at hi; exact hi
    obtain ⟨vs, h3, h4, h5⟩ := hX i hi'
    exact ⟨vs, by simpa using h3, h4, h5⟩
instance : Inhabited Ve := ⟨ve0⟩
instance : Inhabited Rg := ⟨rg0⟩
theorem fld_versK {fuel : Nat} {cs : List Value} {x : DataW H × List MemPlace} (h : DataW.trod enc Try.prog w base spare held fuel 46 cs = some x) : ∃ l s, cs = [s] ∧ VRd w s l := by
  obtain ⟨A, c, l, hcs, h1, h2, h3, h4⟩ := open_rowK (R := fun (v : Ve) cs => cs = veC v) (k := 34) vers_u (by kernel_rfl) (by omega) (fun _ _ _ hl h => el_verK hl h) h
  refine ⟨l, _, hcs, A, c, rfl, h1, h2, h3, fun hn => ?_⟩
  obtain ⟨g, o, e, hg, hc⟩ := h4 hn
  refine ⟨g, o, e, hg, fun i j hi hj => ?_⟩
  obtain ⟨vs, h5, _, h6⟩ := hc i hi
  rw [h6 j hj, h5]
theorem el_rinK {fuel : Nat} {cs : List Value} {x : DataW H × List MemPlace} (hl : cs.length = 2) (h : DataW.trod enc Try.prog w base spare held fuel 48 cs = some x) : ∃ r : Rg, ∃ s, cs = [.bool r.off, s] ∧ VRd w s r.l := by
  obtain ⟨m, hall⟩ := fldd_structK Try.underlying48 h
  obtain ⟨y0, e0⟩ := hall 0 _ rfl
  obtain ⟨y1, e1⟩ := hall 1 _ rfl
  obtain ⟨b, eb, _⟩ := DataW.trod_bool (by kernel_rfl) e0
  obtain ⟨l, s, es, hs⟩ := fld_versK e1
  refine ⟨⟨b, l⟩, s, ?_, hs⟩
  rw [fld_two (a := 1) (b := 1) hl, show fld cs 0 1 = [.bool b] from eb, show fld cs 1 1 = [s] from es]
  rfl
theorem open_rinsK {r : Reach} {b : Nat} {v : Value} {d : DataW H} {p : List MemPlace} (hv : Value.okWide Try.prog w r b 27 v) (h : DataW.Trod enc Try.prog w base spare held 27 v d p) : ∃ K, RRd w v K := by
  obtain ⟨a0, n0, c0, rfl⟩ := okWide_slice Try.underlying27 hv
  obtain ⟨fuel, hf⟩ := h
  obtain ⟨A, c, l, hcs, h1, h2, h3, h4⟩ := open_rowK (R := fun (r : Rg) cs => ∃ s, cs = [.bool r.off, s] ∧ VRd w s r.l) (k := 2) rins_u (by kernel_rfl) (by omega) (fun _ _ _ hl h => el_rinK hl h) hf
  have e0 : (.slice a0 n0 c0 : Value) = .slice A l.length c := by simpa [Value.cells] using hcs
  refine ⟨l, A, c, e0, h1, h2, fun hn => ?_⟩
  obtain ⟨g, o, e, hg, hc⟩ := h4 hn
  refine ⟨g, o, e, hg, fun i hi => ?_⟩
  obtain ⟨vs, ⟨s, rfl, hs⟩, _, h6⟩ := hc i hi
  exact ⟨h6 0 (by omega), s, h6 1 (by omega), hs⟩
end
/- a call as a value -/
@[irreducible] def opA (o : OpK) : Array Value := (okC o).toArray
@[go_sem] theorem opA_size (o : OpK) : (opA o).size = 35 := by unfold opA; rw [List.size_toArray, okC_len]
@[go_sem] theorem opA_ne (o : OpK) : (opA o = #[]) = False := eq_false fun e => by have := congrArg Array.size e; rw [opA_size] at this; simp at this
theorem opA_flt (o : OpK) : opA o = flt [#[.int .i64 o.k], #[.int .i64 o.id], #[.int .i64 o.n], ba 32 o.m] := by
  unfold opA okC flt
  congr 1
  simp
theorem opA_get (o : OpK) (i : Nat) : (opA o)[i]? = (okC o)[i]? := by unfold opA; rw [List.getElem?_toArray]
@[go_sem] theorem opA_g0 (o : OpK) : (opA o)[0]? = some (.int .i64 o.k) := by rw [opA_get, okC_0]
@[go_sem] theorem opA_g1 (o : OpK) : (opA o)[1]? = some (.int .i64 o.id) := by rw [opA_get, okC_1]
@[go_sem] theorem opA_g2 (o : OpK) : (opA o)[2]? = some (.int .i64 o.n) := by rw [opA_get, okC_2]
@[go_sem] theorem opA_e0 (o : OpK) (h : 0 < (opA o).size) : (opA o)[0] = .int .i64 o.k := by have := opA_g0 o; rw [Array.getElem?_eq_getElem h] at this; exact Option.some.inj this
@[go_sem] theorem opA_e1 (o : OpK) (h : 1 < (opA o).size) : (opA o)[1] = .int .i64 o.id := by have := opA_g1 o; rw [Array.getElem?_eq_getElem h] at this; exact Option.some.inj this
@[go_sem] theorem opA_e2 (o : OpK) (h : 2 < (opA o).size) : (opA o)[2] = .int .i64 o.n := by have := opA_g2 o; rw [Array.getElem?_eq_getElem h] at this; exact Option.some.inj this
@[go_sem] theorem opA_ldm (P : Program) (T : Nat) (o : OpK) (w : World) (B : Nat) : ldR P T 32 w B 3 (some (opA o)) = .ok (.agg (ba 32 o.m)) w := by
  rw [opA_flt]; exact ldR_flt P T 32 w B [#[.int .i64 o.k], #[.int .i64 o.id], #[.int .i64 o.n]] _ _ (by simp [szs]) (by rw [ba_size])
theorem op_i : (Try.prog.info? 34).map (·.size) = some 35 := by kernel_rfl
@[go_sem ↓] theorem op_l (p : Value) : Instr.loadAt 34 p = ldA 34 p := rfl
@[go_sem] theorem op_ld (w : World) (b o : Nat) : (ldA 34 (.pointer (some ⟨b, o, none⟩))).run Try.prog w = ldR Try.prog 34 35 w b o (row w b) := ld_ruleK _ _ Try.underlying34 rfl 35 op_i w b o
/-- one out of cells -/
theorem op_cells (w : World) (g o : Nat) (x : OpK) (hc : ∀ j, j < 35 → w.cell? ⟨g, o + j, none⟩ = (okC x)[j]?) :
    ldR Try.prog 34 35 w g o (row w g) = .ok (.agg (opA x)) w := by
  rw [← op_ld]
  have h := run_loadAt_mid (P := Try.prog) w g o 34 (okC x) _ (fun j y hy => by
    by_cases hj : j < 35
    · rw [hc j hj]; exact hy
    · rw [List.getElem?_eq_none (by rw [okC_len]; omega)] at hy; cases hy) Try.underlying34 rfl (by rw [op_i, okC_len])
  unfold opA
  exact h
end Go.Proofs.Ytabchkcieddhpaa.Oct
