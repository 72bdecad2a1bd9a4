/- What came in: records: their cells, and how many bytes they have at most. -/
import Derived.Test.YtdfcldomjjcidaaGreatDoorJrO
namespace Go.Proofs.YtdfcldomjjcidaaGreatDoor.Oct
open Go.ChangeShapes Go.WideShapes Go.ChangeAt Go.RowKit
set_option linter.unusedVariables false

theorem weights_all {H : Type} {P : Program} {e : TypeId} : ∀ {ds : List (DataW H)} {d : DataW H}, d ∈ ds → ∀ n ∈ d.weights P e, n ∈ DataW.weightsAll P e ds
  | [], _, h, _, _ => by cases h
  | d0 :: ds, d, h, n, hn => by
    rw [DataW.weightsAll, List.mem_append]
    rcases List.mem_cons.1 h with rfl | h
    · exact .inl hn
    · exact .inr (weights_all h n hn)
section
variable {H : Type} {enc : TypeId × Value → H} {P : Program} {w : World} {base : Nat} {spare : Nat → Bool} {held : Bool}
/-- a struct's fields, with what they weigh -/
theorem fldw_struct {t : TypeId} {fs : Array Field} {fuel : Nat} {cs : List Value} {x : DataW H × List MemPlace} {B : Nat} (ht : P.underlying t = some (.struct fs)) (h : DataW.trod enc P w base spare held fuel t cs = some x) (hz : ∀ n ∈ x.1.weights P t, n ≤ B) :
    ∃ m, ∀ (i : Nat) (f : Field), fs[i]? = some f → ∃ y, DataW.trod enc P w base spare held m f.type (fld cs f.offset (P.cellsOf f.type)) = some y ∧ ∀ n ∈ y.1.weights P f.type, n ≤ B := by
  obtain ⟨xs, m, _, hxe, _, hx, hall⟩ := DataW.trod_struct ht h
  refine ⟨m, fun i f hi => ?_⟩
  have hlt : i < xs.length := by rw [hx]; exact (Array.getElem?_eq_some_iff.1 hi).1
  refine ⟨xs[i], by have := hall i f hi; rw [List.getElem?_eq_getElem hlt] at this; exact this, fun n hn => hz n ?_⟩
  subst hxe
  simp only [DataW.weights, ht]
  exact DataW.weights_mem_each (j := i) (t := f.type) (d := xs[i].1) (by rw [List.getElem?_map, Array.getElem?_toList, hi]; rfl) (by rw [List.getElem?_map, List.getElem?_eq_getElem hlt]; rfl) n hn
/-- how long a slice is at most -/
theorem fldw_reach {t e : TypeId} (ht : P.underlying t = some (.slice e)) {A : Option Addr} {n c fuel B : Nat} {x : DataW H × List MemPlace} (h : DataW.trod enc P w base spare held fuel t [.slice A n c] = some x) (hz : ∀ k ∈ x.1.weights P t, k ≤ B) : n * P.bytesOf e ≤ B := by
  rcases Deep.open_slice ht h with ⟨hcs, _⟩ | ⟨a, len, cap, m, n', D, Pl, hcs, _, hl, hm, hmm, hx, _⟩
  · injection hcs with e0 _
    injection e0 with e1 e2 e3
    subst e2
    omega
  · injection hcs with e0 _
    injection e0 with e1 e2 e3
    subst e2
    subst hx
    have := hz ((n + (m - n)) * P.bytesOf e) (by simp [DataW.weights, ht])
    rw [Nat.add_mul] at this
    omega
end
/-- a record's numbers are ints, its text and members not too many -/
structure RcIn (r : Rc) : Prop where
  k : i64B r.k
  i : i64B r.i
  t : i64B r.t
  n : i64B r.n
  a : i64B r.a
  b : i64B r.b
  et : i64B r.e.t
  ek : i64B r.e.k
  x : ∀ j, j < r.e.n → -9223372036854775808 ≤ r.e.x j ∧ r.e.x j < 9223372036854775808
  T : r.e.T ≤ 140737488351232
  m : r.e.n * 8 ≤ 140737488351232
theorem RcIn.bd {r : Rc} (h : RcIn r) : EnB r.e := ⟨h.et, h.ek, h.x, by have := h.m; omega⟩
section
variable {H : Type} {enc : TypeId × Value → H} {w : World} {base : Nat} {spare : Nat → Bool} {held : Bool}
theorem size10 {cs : List Value} (h : cs.length = 10) : ∃ a b c d e f g i j k, cs = [a, b, c, d, e, f, g, i, j, k] := by
  rcases cs with _ | ⟨a, _ | ⟨b, _ | ⟨c, _ | ⟨d, _ | ⟨e, _ | ⟨f, _ | ⟨g, _ | ⟨i, _ | ⟨j, _ | ⟨k, _ | ⟨x, r⟩⟩⟩⟩⟩⟩⟩⟩⟩⟩⟩
  all_goals first | (simp at h; done) | skip
  exact ⟨a, b, c, d, e, f, g, i, j, k, rfl⟩
set_option maxRecDepth 20000 in
theorem el_rec {fuel : Nat} {cs : List Value} {x : DataW H × List MemPlace} (hl : cs.length = 10) (htr : DataW.trod enc Tryz.prog w base spare held fuel 29 cs = some x) (hz : ∀ n ∈ x.1.weights Tryz.prog 29, n ≤ 140737488351232) :
    ∃ (R : Rc) (D : Option Addr) (k : Nat) (D' : Option Addr) (k' : Nat), cs.toArray = rcC R (.slice D R.e.T k) (.slice D' R.e.n k') ∧ EnR w R.e D k D' k' ∧ RcIn R := by
  have h0 : Tryz.prog.cellsOf 5 = 1 := by kernel_rfl
  have h1 : Tryz.prog.cellsOf 3 = 1 := by kernel_rfl
  have b0 : Tryz.prog.bytesOf 5 = 1 := by kernel_rfl
  have b1 : Tryz.prog.bytesOf 3 = 8 := by kernel_rfl
  obtain ⟨m', hall⟩ := fldw_struct Tryz.underlying29 htr hz
  obtain ⟨a0, a1, a2, a3, a4, a5, a6, a7, a8, a9, rfl⟩ := size10 hl
  obtain ⟨y0, e0, -⟩ := hall 0 _ rfl
  obtain ⟨y1, e1, -⟩ := hall 1 _ rfl
  obtain ⟨y2, e2, -⟩ := hall 2 _ rfl
  obtain ⟨y3, e3, -⟩ := hall 3 _ rfl
  obtain ⟨y4, e4, z4⟩ := hall 4 _ rfl
  obtain ⟨y5, e5, z5⟩ := hall 5 _ rfl
  obtain ⟨mh, hh⟩ := fldw_struct Tryz.underlying24 e4 z4
  obtain ⟨me, he⟩ := fldw_struct Tryz.underlying27 e5 z5
  obtain ⟨u0, g0, -⟩ := hh 0 _ rfl
  obtain ⟨u1, g1, -⟩ := hh 1 _ rfl
  obtain ⟨v0, f0, -⟩ := he 0 _ rfl
  obtain ⟨v1, f1, -⟩ := he 1 _ rfl
  obtain ⟨v2, f2, w2⟩ := he 2 _ rfl
  obtain ⟨v3, f3, w3⟩ := he 3 _ rfl
  obtain ⟨k, ek, _, hk⟩ := DataW.trod_int (k := .i64) (by kernel_rfl) e0
  obtain ⟨i, ei, _, hi⟩ := DataW.trod_int (k := .i64) (by kernel_rfl) e1
  obtain ⟨t, et, _, ht⟩ := DataW.trod_int (k := .i64) (by kernel_rfl) e2
  obtain ⟨n, en, _, hn⟩ := DataW.trod_int (k := .i64) (by kernel_rfl) e3
  obtain ⟨a, ea, _, ha⟩ := DataW.trod_int (k := .i64) (by kernel_rfl) g0
  obtain ⟨b, eb, _, hb⟩ := DataW.trod_int (k := .i64) (by kernel_rfl) g1
  obtain ⟨p, ep, _, hp⟩ := DataW.trod_int (k := .i64) (by kernel_rfl) f0
  obtain ⟨q, eq, _, hq⟩ := DataW.trod_int (k := .i64) (by kernel_rfl) f1
  obtain ⟨A, T, c, f, ef, hf, hmm⟩ := fld_sl sli_u u8_u h0 f2
  obtain ⟨A', m, c', x, el, hsl, hml, hx⟩ := fld_ints ints_u i64_u h1 f3
  rw [ef] at f2
  rw [el] at f3
  have hT := fldw_reach sli_u f2 w2
  have hM := fldw_reach ints_u f3 w3
  rw [b0] at hT
  rw [b1] at hM
  have ek' : a0 = .int .i64 k := List.head_eq_of_cons_eq (show [a0] = [.int .i64 k] from ek)
  have ei' : a1 = .int .i64 i := List.head_eq_of_cons_eq (show [a1] = [.int .i64 i] from ei)
  have et' : a2 = .int .i64 t := List.head_eq_of_cons_eq (show [a2] = [.int .i64 t] from et)
  have en' : a3 = .int .i64 n := List.head_eq_of_cons_eq (show [a3] = [.int .i64 n] from en)
  have ea' : a4 = .int .i64 a := List.head_eq_of_cons_eq (show [a4] = [.int .i64 a] from ea)
  have eb' : a5 = .int .i64 b := List.head_eq_of_cons_eq (show [a5] = [.int .i64 b] from eb)
  have ep' : a6 = .int .i64 p := List.head_eq_of_cons_eq (show [a6] = [.int .i64 p] from ep)
  have eq' : a7 = .int .i64 q := List.head_eq_of_cons_eq (show [a7] = [.int .i64 q] from eq)
  have ef' : a8 = .slice A T c := List.head_eq_of_cons_eq (show [a8] = [.slice A T c] from ef)
  have el' : a9 = .slice A' m c' := List.head_eq_of_cons_eq (show [a9] = [.slice A' m c'] from el)
  subst ek' ei' et' en' ea' eb' ep' eq' ef' el'
  exact ⟨⟨k, i, t, n, a, b, p, q, T, f, m, x⟩, A, c, A', c', by unfold rcC; rfl, ⟨hf, hsl⟩, wf_bd hk, wf_bd hi, wf_bd ht, wf_bd hn, wf_bd ha, wf_bd hb, wf_bd hp, wf_bd hq, hx, by show T ≤ _; omega, hM⟩
set_option maxRecDepth 20000 in
/-- a slice of records -/
theorem open_recs {r : Reach} {b : Nat} {v : Value} {d : DataW H} {p : List MemPlace} (hv : Value.okWide Tryz.prog w r b 43 v) (h : DataW.Trod enc Tryz.prog w base spare held 43 v d p)
    {ts : List TypeId} {ds : List (DataW H)} (hz : (DataW.weightsEach Tryz.prog ts ds).all (· ≤ reachBytes) = true) {j : Nat} (htj : ts[j]? = some 43) (hdj : ds[j]? = some d) :
    ∃ A n c R, v = .slice A n c ∧ RcS w A n c R ∧ c ≤ maxLen ∧ ∀ i, i < n → RcIn (R i) := by
  obtain ⟨a0, n0, c0, rfl⟩ := okWide_slice Tryz.underlying43 hv
  obtain ⟨fuel, hf⟩ := h
  have hc10 : Tryz.prog.cellsOf 29 = 10 := by kernel_rfl
  rcases Deep.open_slice Tryz.underlying43 hf with ⟨hcs, _⟩ | ⟨a, len, cap, m, n, D, Pl, hcs, _, hl, hm, hmm, hxe, hx⟩
  · have e0 : (.slice a0 n0 c0 : Value) = .slice none 0 0 := by simpa [Value.cells] using hcs
    injection e0 with e1 e2 e3
    subst e1; subst e2; subst e3
    exact ⟨none, 0, 0, fun _ => Rc.zero, rfl, ⟨Nat.le_refl _, fun i hi => absurd hi (by omega)⟩, Nat.zero_le _, fun i hi => absurd hi (by omega)⟩
  · have e0 : (.slice a0 n0 c0 : Value) = .slice (some a) len cap := by simpa [Value.cells] using hcs
    injection e0 with e1 e2 e3
    subst e1; subst e2; subst e3
    have hlen : n0 ≤ m := by rw [hmm]; split <;> omega
    have hd : d = .slice ((List.range n0).map D) ((List.range (m - n0)).map fun j => D (n0 + j)) := congrArg Prod.fst hxe
    have e : reachBytes = 140737488351232 := by decide
    have hw : ∀ k ∈ d.weights Tryz.prog 43, k ≤ 140737488351232 := fun k hk => by
      have := List.all_eq_true.1 hz k (DataW.weights_mem_each htj hdj k hk)
      rw [← e]
      simpa using this
    have hwi : ∀ i, i < n0 → ∀ k ∈ (D i).weights Tryz.prog 29, k ≤ 140737488351232 := fun i hi k hk => by
      refine hw k ?_
      rw [hd]
      simp only [DataW.weights, Tryz.underlying43, List.mem_cons, List.mem_append]
      exact .inr (.inl (weights_all (List.mem_map.2 ⟨i, List.mem_range.2 hi, rfl⟩) k hk))
    have hb : ∀ i : Nat, ∃ R : Rc, i < n0 → RcIn R ∧
        ∃ g o D k D' k', some a = some ⟨g, o, none⟩ ∧ g < w.heap.size ∧ (∀ j, j < 10 → w.cell? ⟨g, o + i * 10 + j, none⟩ = (rcC R (.slice D R.e.T k) (.slice D' R.e.n k'))[j]?) ∧ EnR w R.e D k D' k' := fun i => by
      by_cases hi : i < n0
      · obtain ⟨cs', hcl, htr⟩ := hx i (by omega)
        rw [hc10] at hcl
        obtain ⟨hb', hl10, hcell⟩ := World.cells?_some hcl
        obtain ⟨R, A1, c1, A2, c2, e, hen, hri⟩ := el_rec hl10 htr (hwi i hi)
        refine ⟨R, fun _ => ⟨hri, ?_⟩⟩
        obtain ⟨cs0, hcl0, _⟩ := hx 0 (by omega)
        rw [hc10] at hcl0
        obtain ⟨_, hl0, hcell0⟩ := World.cells?_some hcl0
        have hc0 := hcell0 0 (by omega)
        rw [List.getElem?_eq_getElem (by omega)] at hc0
        have hsp := World.cell?_spot hc0
        have hc1 := hcell 0 (by omega)
        rw [List.getElem?_eq_getElem (by omega)] at hc1
        obtain ⟨g, o, s⟩ := a
        have hs' : s = none := hsp
        subst hs'
        simp only [add_mid] at hcell
        simp only [add_mid] at hc1
        refine ⟨g, o, A1, c1, A2, c2, rfl, World.block_lt_of_cell? w _ hc1, fun j hj => ?_, hen⟩
        rw [← e, List.getElem?_toArray]
        exact hcell j (by omega)
      · exact ⟨Rc.zero, fun e => absurd e hi⟩
    obtain ⟨X, hX⟩ := Classical.axiomOfChoice hb
    exact ⟨some a, n0, c0, X, rfl, ⟨hl, fun i hi => (hX i hi).2⟩, hm, fun i hi => (hX i hi).1⟩
set_option maxRecDepth 20000 in
/-- a record by value -/
theorem open_rec {r : Reach} {b : Nat} {v : Value} {d : DataW H} {p : List MemPlace} (hv : Value.okWide Tryz.prog w r b 29 v) (h : DataW.Trod enc Tryz.prog w base spare held 29 v d p)
    {ts : List TypeId} {ds : List (DataW H)} (hz : (DataW.weightsEach Tryz.prog ts ds).all (· ≤ reachBytes) = true) {j : Nat} (htj : ts[j]? = some 29) (hdj : ds[j]? = some d) :
    ∃ R A c A' c', v = .agg (rcC R (.slice A R.e.T c) (.slice A' R.e.n c')) ∧ EnR w R.e A c A' c' ∧ RcIn R := by
  obtain ⟨cs, rfl, hs⟩ := okWide_struct Tryz.underlying29 hv
  obtain ⟨fuel, hf⟩ := h
  have hc10 : Tryz.prog.cellsOf 29 = 10 := by kernel_rfl
  have e : reachBytes = 140737488351232 := by decide
  obtain ⟨R, D, k, D', k', e1, e2, e3⟩ := el_rec (cs := cs.toList) (by rw [Array.length_toList, hs, hc10]) hf (fun k hk => by
    have := List.all_eq_true.1 hz k (DataW.weights_mem_each htj hdj k hk)
    rw [← e]
    simpa using this)
  exact ⟨R, D, k, D', k', by rw [← e1], e2, e3⟩
/-- two ints by value -/
theorem open_two {P : Program} {t e : TypeId} {r : Reach} {b : Nat} {v : Value} {d : DataW H} {p : List MemPlace} (ht : P.underlying t = some (.array 2 e)) (he : P.underlying e = some (.int .i64)) (hc : P.cellsOf t = 2) (h1 : P.cellsOf e = 1)
    (hv : Value.okWide P w r b t v) (h : DataW.Trod enc P w base spare held t v d p) : ∃ x y, v = .agg #[.int .i64 x, .int .i64 y] ∧ i64B x ∧ i64B y := by
  obtain ⟨cs, rfl, hs⟩ := okWide_agg ht hv
  obtain ⟨fuel, hf⟩ := h
  obtain ⟨xs, m1, rfl, hx1, hlen, hn, hel⟩ := DataW.trod_array ht hf
  rw [h1] at hel
  have each : ∀ i : Nat, i < 2 → ∃ x : Int, cs[i]? = some (.int .i64 x) ∧ i64B x := fun i hi => by
    have h2 := hel i hi
    rw [List.getElem?_eq_getElem (by omega)] at h2
    obtain ⟨k, e1, _, hw⟩ := DataW.trod_int he h2
    refine ⟨k, ?_, wf_bd hw⟩
    have e2 := congrArg (fun l => l[0]?) e1
    simpa [Value.cells, List.getElem?_take, List.getElem?_drop] using e2
  obtain ⟨x, hx, bx⟩ := each 0 (by omega)
  obtain ⟨y, hy, by_⟩ := each 1 (by omega)
  refine ⟨x, y, ?_, bx, by_⟩
  congr 1
  apply Array.ext_getElem?
  intro i
  match i with
  | 0 => rw [hx]; rfl
  | 1 => rw [hy]; rfl
  | i + 2 => rw [Array.getElem?_eq_none (by omega), Array.getElem?_eq_none (by show 2 ≤ i + 2; omega)]
end
end Go.Proofs.YtdfcldomjjcidaaGreatDoor.Oct
