/- What came in: slices of the laws' Ops. -/
import Derived.Test.YthdhbjfenanbnaaDkS
namespace Go.Proofs.Ythdhbjfenanbnaa.Oct
open Go.ChangeShapes Go.WideShapes Go.ChangeAt Go.RowKit
set_option linter.unusedVariables false

/-- what an Op is -/
structure OpM where
  k : Int
  f : Int
  z : Int
  b : By
  m : Nat
  p : Nat → Int
@[irreducible] def opC (x : OpM) (u v : Value) : Array Value := #[.int .i64 x.k, .int .i64 x.f, .int .i64 x.z, u, v]
structure OpsSl (w : World) (B : Nat) (A : Option Addr) (n c : Nat) (X : Nat → OpM) : Prop where
  le : n ≤ c
  big : c ≤ maxLen
  wf : ∀ i, i < n → (Lit.int .i64 (X i).k).wf = true ∧ (Lit.int .i64 (X i).f).wf = true ∧ (Lit.int .i64 (X i).z).wf = true ∧ ∀ j, j < (X i).m → -9223372036854775808 ≤ (X i).p j ∧ (X i).p j < 9223372036854775808
  at_ : ∀ i, i < n → ∃ g o A1 c1 A2 c2, A = some ⟨g, o, none⟩ ∧ g < B ∧ (∀ j, j < 5 → w.cell? ⟨g, o + i * 5 + j, none⟩ = (opC (X i) (.slice A1 (X i).b.length c1) (.slice A2 (X i).m c2))[j]?) ∧
    Sl w B A1 (X i).b.length c1 (lf (X i).b) ∧ c1 ≤ maxLen ∧ SlG w B A2 (X i).m c2 (iV (X i).p)
theorem OpsSl.below {w w' : World} {B n c : Nat} {A : Option Addr} {X : Nat → OpM} (h : OpsSl w B A n c X) (hb : Below B w w') : OpsSl w' B A n c X :=
  ⟨h.le, h.big, h.wf, fun i hi => by
    obtain ⟨g, o, A1, c1, A2, c2, e, hg, h0, hs, hm, hl⟩ := h.at_ i hi
    refine ⟨g, o, A1, c1, A2, c2, e, hg, fun j hj => by rw [hb.cell (p := ⟨g, o + i * 5 + j, none⟩) hg]; exact h0 j hj, hs.below hb, hm, hl.le, fun hn => ?_⟩
    obtain ⟨g', o', e', hg', hc⟩ := hl.at_ hn
    exact ⟨g', o', e', hg', fun k hk => by rw [hb.cell (p := ⟨g', o' + k, none⟩) hg']; exact hc k hk⟩⟩
section
variable {H : Type} {enc : TypeId × Value → H} {P : Program} {w : World} {base : Nat} {spare : Nat → Bool} {held : Bool}
/-- a field that is a slice of ints -/
theorem fldd_ints {t e : TypeId} (ht : P.underlying t = some (.slice e)) (he : P.underlying e = some (.int .i64)) (h1 : P.cellsOf e = 1) {fuel : Nat} {cs : List Value} {x : DataW H × List MemPlace}
    (h : DataW.trod enc P w base spare held fuel t cs = some x) : ∃ A n c x, cs = [.slice A n c] ∧ SlG w w.heap.size A n c (iV x) ∧ c ≤ maxLen ∧ ∀ i, i < n → -9223372036854775808 ≤ x i ∧ x i < 9223372036854775808 := by
  rcases Deep.open_slice1 ht h1 h with ⟨hcs, _⟩ | ⟨a, len, cap, m, n, V, D, Pl, hcs, _, hl, hm, hmm, _, hx⟩
  · exact ⟨none, 0, 0, fun _ => 0, hcs, ⟨Nat.le_refl _, fun e => by omega⟩, Nat.zero_le _, fun i hi => by omega⟩
  · have hlen : len ≤ m := by rw [hmm]; split <;> omega
    have hb : ∀ i : Nat, ∃ x : Int, i < len → V i = .int .i64 x ∧ -9223372036854775808 ≤ x ∧ x < 9223372036854775808 := fun i => by
      by_cases hi : i < len
      · obtain ⟨x, ex, _, hw⟩ := DataW.trod_int (k := .i64) he (hx i (by omega)).2
        simp only [Lit.wf, IntKind.min, IntKind.max, IntKind.signed, IntKind.bits, Bool.and_eq_true, decide_eq_true_eq, if_true] at hw
        exact ⟨x, fun _ => ⟨by simpa using ex, by omega, by omega⟩⟩
      · exact ⟨0, fun e => absurd e hi⟩
    obtain ⟨x, hX⟩ := Classical.axiomOfChoice hb
    refine ⟨some a, len, cap, x, hcs, ⟨hl, fun hn => ?_⟩, hm, fun i hi => (hX i hi).2⟩
    have hc0 := (hx 0 (by omega)).1
    rw [show a.add 0 = a from rfl] at hc0
    have hs := World.cell?_spot hc0
    obtain ⟨g, o, s⟩ := a
    simp only at hs
    subst hs
    refine ⟨g, o, rfl, World.block_lt_of_cell? w _ hc0, fun i hi => ?_⟩
    have hci := (hx i (by omega)).1
    rw [add_mid, (hX i hi).1] at hci
    exact hci
theorem fldd_struct {t : TypeId} {fs : Array Field} {fuel : Nat} {cs : List Value} {x : DataW H × List MemPlace} (ht : P.underlying t = some (.struct fs)) (h : DataW.trod enc P w base spare held fuel t cs = some x) :
    ∃ m, ∀ (i : Nat) (f : Field), fs[i]? = some f → ∃ y, DataW.trod enc P w base spare held m f.type (fld cs f.offset (P.cellsOf f.type)) = some y := by
  obtain ⟨xs, m, _, _, _, hx, hall⟩ := DataW.trod_struct ht h
  refine ⟨m, fun i f hi => ?_⟩
  have hlt : i < xs.length := by rw [hx]; exact (Array.getElem?_eq_some_iff.1 hi).1
  exact ⟨xs[i], by have := hall i f hi; rw [List.getElem?_eq_getElem hlt] at this; exact this⟩
end
theorem size5 {cs : List Value} (h : cs.length = 5) : ∃ a b c d e, cs = [a, b, c, d, e] := by
  rcases cs with _ | ⟨a, _ | ⟨b, _ | ⟨c, _ | ⟨d, _ | ⟨e, _ | ⟨x, r⟩⟩⟩⟩⟩⟩
  all_goals first | (simp at h; done) | skip
  exact ⟨a, b, c, d, e, rfl⟩
section
variable {H : Type} {enc : TypeId × Value → H} {w : World} {base : Nat} {spare : Nat → Bool} {held : Bool}
set_option maxRecDepth 20000 in
theorem el_op {fuel : Nat} {cs : List Value} {x : DataW H × List MemPlace} (hl : cs.length = 5) (htr : DataW.trod enc Try.prog w base spare held fuel 32 cs = some x) :
    ∃ (O : OpM) (A1 : Option Addr) (c1 : Nat) (A2 : Option Addr) (c2 : Nat), cs.toArray = opC O (.slice A1 O.b.length c1) (.slice A2 O.m c2) ∧ Sl w w.heap.size A1 O.b.length c1 (lf O.b) ∧ c1 ≤ maxLen ∧ SlG w w.heap.size A2 O.m c2 (iV O.p) ∧
      (Lit.int .i64 O.k).wf = true ∧ (Lit.int .i64 O.f).wf = true ∧ (Lit.int .i64 O.z).wf = true ∧ ∀ j, j < O.m → -9223372036854775808 ≤ O.p j ∧ O.p j < 9223372036854775808 := by
  have h0 : Try.prog.cellsOf 5 = 1 := by kernel_rfl
  have h1 : Try.prog.cellsOf 3 = 1 := by kernel_rfl
  obtain ⟨m', hall⟩ := fldd_struct Try.underlying32 htr
  obtain ⟨a0, a1, a2, a3, a4, rfl⟩ := size5 hl
  obtain ⟨y0, e0⟩ := hall 0 _ rfl
  obtain ⟨y1, e1⟩ := hall 1 _ rfl
  obtain ⟨y2, e2⟩ := hall 2 _ rfl
  obtain ⟨y3, e3⟩ := hall 3 _ rfl
  obtain ⟨y4, e4⟩ := hall 4 _ rfl
  obtain ⟨k, ek, _, hk⟩ := DataW.trod_int (k := .i64) (by kernel_rfl) e0
  obtain ⟨f, ef, _, hf⟩ := DataW.trod_int (k := .i64) (by kernel_rfl) e1
  obtain ⟨z, ez, _, hz⟩ := DataW.trod_int (k := .i64) (by kernel_rfl) e2
  obtain ⟨A1, n1, c1, f1, es, hs, hm⟩ := fld_sl sli_u u8_u h0 e3
  obtain ⟨A2, n2, c2, p, el, hsl, hml, hp⟩ := fldd_ints Try.underlying30 (by kernel_rfl) h1 e4
  have ek' : a0 = .int .i64 k := List.head_eq_of_cons_eq (show [a0] = [.int .i64 k] from ek)
  have ef' : a1 = .int .i64 f := List.head_eq_of_cons_eq (show [a1] = [.int .i64 f] from ef)
  have ez' : a2 = .int .i64 z := List.head_eq_of_cons_eq (show [a2] = [.int .i64 z] from ez)
  have es' : a3 = .slice A1 n1 c1 := List.head_eq_of_cons_eq (show [a3] = [.slice A1 n1 c1] from es)
  have el' : a4 = .slice A2 n2 c2 := List.head_eq_of_cons_eq (show [a4] = [.slice A2 n2 c2] from el)
  subst ek' ef' ez' es' el'
  refine ⟨⟨k, f, z, bl n1 f1, n2, p⟩, A1, c1, A2, c2, ?_, ?_, hm, hsl, hk, hf, hz, hp⟩
  · unfold opC; rw [bl_len]
  · show Sl w w.heap.size A1 (bl n1 f1).length c1 (lf (bl n1 f1))
    rw [bl_len]; exact sl_bl hs
theorem open_ops {r : Reach} {b : Nat} {v : Value} {d : DataW H} {p : List MemPlace} (hv : Value.okWide Try.prog w r b 22 v) (h : DataW.Trod enc Try.prog w base spare held 22 v d p) :
    ∃ A n c X, v = .slice A n c ∧ OpsSl w w.heap.size A n c X := by
  obtain ⟨a0, n0, c0, rfl⟩ := okWide_slice Try.underlying22 hv
  obtain ⟨fuel, hf⟩ := h
  have hc5 : Try.prog.cellsOf 32 = 5 := by kernel_rfl
  rcases Deep.open_slice Try.underlying22 hf with ⟨hcs, _⟩ | ⟨a, len, cap, m, n, D, Pl, hcs, _, hl, hm, hmm, _, hx⟩
  · have e0 : (.slice a0 n0 c0 : Value) = .slice none 0 0 := by simpa [Value.cells] using hcs
    injection e0 with e1 e2 e3
    subst e1; subst e2; subst e3
    exact ⟨none, 0, 0, fun _ => ⟨0, 0, 0, [], 0, fun _ => 0⟩, rfl, Nat.le_refl _, Nat.zero_le _, fun i hi => absurd hi (by omega), fun i hi => absurd hi (by omega)⟩
  · have e0 : (.slice a0 n0 c0 : Value) = .slice (some a) len cap := by simpa [Value.cells] using hcs
    injection e0 with e1 e2 e3
    subst e1; subst e2; subst e3
    have hlen : n0 ≤ m := by rw [hmm]; split <;> omega
    have hb : ∀ i : Nat, ∃ O : OpM, i < n0 → ((Lit.int .i64 O.k).wf = true ∧ (Lit.int .i64 O.f).wf = true ∧ (Lit.int .i64 O.z).wf = true ∧ ∀ j, j < O.m → -9223372036854775808 ≤ O.p j ∧ O.p j < 9223372036854775808) ∧
        ∃ g o A1 c1 A2 c2, some a = some ⟨g, o, none⟩ ∧ g < w.heap.size ∧ (∀ j, j < 5 → w.cell? ⟨g, o + i * 5 + j, none⟩ = (opC O (.slice A1 O.b.length c1) (.slice A2 O.m c2))[j]?) ∧ Sl w w.heap.size A1 O.b.length c1 (lf O.b) ∧ c1 ≤ maxLen ∧ SlG w w.heap.size A2 O.m c2 (iV O.p) := fun i => by
      by_cases hi : i < n0
      · obtain ⟨cs', hcl, htr⟩ := hx i (by omega)
        rw [hc5] at hcl
        obtain ⟨hb', hl5, hcell⟩ := World.cells?_some hcl
        obtain ⟨O, A1, c1, A2, c2, e, hs, hm1, hsl, hk, hf', hz, hp⟩ := el_op hl5 htr
        refine ⟨O, fun _ => ⟨⟨hk, hf', hz, hp⟩, ?_⟩⟩
        obtain ⟨cs0, hcl0, _⟩ := hx 0 (by omega)
        rw [hc5] at hcl0
        obtain ⟨_, hl0, hcell0⟩ := World.cells?_some hcl0
        have hc0 := hcell0 0 (by omega)
        rw [List.getElem?_eq_getElem (by omega)] at hc0
        have hsp := World.cell?_spot hc0
        have hc1 := hcell 0 (by omega)
        rw [List.getElem?_eq_getElem (by omega)] at hc1
        obtain ⟨g, o, s⟩ := a
        have hs' : s = none := hsp
        subst hs'
        simp only [add_mid] at hcell
        simp only [add_mid] at hc1
        refine ⟨g, o, A1, c1, A2, c2, rfl, World.block_lt_of_cell? w _ hc1, fun j hj => ?_, hs, hm1, hsl⟩
        rw [← e, List.getElem?_toArray]
        exact hcell j (by omega)
      · exact ⟨⟨0, 0, 0, [], 0, fun _ => 0⟩, fun e => absurd e hi⟩
    obtain ⟨X, hX⟩ := Classical.axiomOfChoice hb
    exact ⟨some a, n0, c0, X, rfl, hl, hm, fun i hi => (hX i hi).1, fun i hi => (hX i hi).2⟩
end
end Go.Proofs.Ythdhbjfenanbnaa.Oct
