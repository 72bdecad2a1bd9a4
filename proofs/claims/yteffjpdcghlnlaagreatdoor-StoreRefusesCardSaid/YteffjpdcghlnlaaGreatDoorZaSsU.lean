import Derived.Test.YteffjpdcghlnlaaGreatDoorZaSsT
import Derived.Test.YteffjpdcghlnlaaGreatDoorZaMat
import Derived.Test.YteffjpdcghlnlaaGreatDoorZaLib
import Derived.Test.YteffjpdcghlnlaaGreatDoorZaWiAll
set_option linter.unusedSimpArgs false
namespace Go.Proofs.YteffjpdcghlnlaaGreatDoor.Oct
open Go.ChangeShapes Go.WideShapes Go.ChangeAt Go.RowKit Go.Maps
set_option linter.unusedVariables false

section
variable {α : Type} {k : Nat} {E : Mk → World → α → List Value → Prop} (hE : ElOk k E) {T T' T2 : Mk} {H : Nat → Prop} {w w' : World} {t : Nat} {A : Option Addr} {c : Nat} {l : List α}
include hE
end
/-- one seat's cells within a row -/
theorem ElAt.seat {T : Mk} {w : World} {t : Nat} {A : Option Addr} {c : Nat} {l : List Se} (h : ElAt 6 seEl T w t A c l) {i : Nat} (hi : i < l.length) :
    ∃ g o cur A' c', A = some ⟨g, o, none⟩ ∧ Oct.row w g = some cur ∧ T g = t ∧ o + c * 6 ≤ cur.size ∧ RdS T w 0 A' (l[i]).T c' (l[i]).f ∧ w.cell? ⟨g, o + i * 6, none⟩ = some (.int .i64 (l[i]).id) ∧ w.cell? ⟨g, o + i * 6 + 1, none⟩ = some (.int .i64 (l[i]).q) ∧
      (∀ P t, ldR P t 4 w g (o + i * 6 + 2) (some cur) = .ok (repV (l[i]).c (l[i]).n (l[i]).m (.slice A' (l[i]).T c')) w) ∧ (∀ P t, ldR P t 6 w g (o + i * 6) (some cur) = .ok (seV l[i] (.slice A' (l[i]).T c')) w) := by
  have hle := h.le
  obtain ⟨g, o, cur, e, hr, hs, hT, hel⟩ := h.at_ (by omega)
  obtain ⟨vs, ⟨A', c', rfl, hrd⟩, hc⟩ := hel i hi
  have hm : (i + 1) * 6 ≤ c * 6 := Nat.mul_le_mul_right 6 (by omega)
  have g0 := hc 0 (by omega)
  have g1 := hc 1 (by omega)
  have g2 := hc 2 (by omega)
  have g3 := hc 3 (by omega)
  have g4 := hc 4 (by omega)
  have g5 := hc 5 (by omega)
  rw [Nat.add_zero] at g0
  refine ⟨g, o, cur, A', c', e, hr, hT, hs, hrd, by rw [cell_row hr]; exact g0, by rw [cell_row hr]; exact g1, fun P t => ?_, fun P t => ?_⟩
  · unfold ldR
    simp only [if_pos (show o + i * 6 + 2 + 4 ≤ cur.size by omega)]
    congr 2
    apply Array.ext_getElem?
    intro j
    rw [Array.getElem?_extract]
    match j with
    | 0 => rw [if_pos (by omega)]; exact g2
    | 1 => rw [if_pos (by omega)]; exact g3
    | 2 => rw [if_pos (by omega)]; exact g4
    | 3 => rw [if_pos (by omega)]; exact g5
    | j + 4 => rw [if_neg (by omega)]; rfl
  · unfold ldR
    simp only [if_pos (show o + i * 6 + 6 ≤ cur.size by omega)]
    congr 2
    apply Array.ext_getElem?
    intro j
    rw [Array.getElem?_extract]
    match j with
    | 0 => rw [if_pos (by omega)]; exact g0
    | 1 => rw [if_pos (by omega)]; exact g1
    | 2 => rw [if_pos (by omega)]; exact g2
    | 3 => rw [if_pos (by omega)]; exact g3
    | 4 => rw [if_pos (by omega)]; exact g4
    | 5 => rw [if_pos (by omega)]; exact g5
    | j + 6 => rw [if_neg (by omega)]; rfl
end Go.Proofs.YteffjpdcghlnlaaGreatDoor.Oct

namespace Go.Proofs.YteffjpdcghlnlaaGreatDoor.Oct
open Go.ChangeShapes Go.WideShapes Go.ChangeAt Go.RowKit Go.Maps
set_option linter.unusedVariables false

end Go.Proofs.YteffjpdcghlnlaaGreatDoor.Oct

namespace Go.Proofs.YteffjpdcghlnlaaGreatDoor.Oct
open Go.ChangeShapes Go.WideShapes Go.ChangeAt Go.RowKit Go.Maps
set_option linter.unusedVariables false

end Go.Proofs.YteffjpdcghlnlaaGreatDoor.Oct

namespace Go.Proofs.YteffjpdcghlnlaaGreatDoor.Oct
open Go.ChangeShapes Go.WideShapes Go.ChangeAt Go.RowKit
set_option linter.unusedVariables false

theorem weights_all {H : Type} {P : Program} {e : TypeId} : ∀ {ds : List (DataW H)} {d : DataW H}, d ∈ ds → ∀ n ∈ d.weights P e, n ∈ DataW.weightsAll P e ds
  | [], _, h, _, _ => by cases h
  | d0 :: ds, d, h, n, hn => by
    rw [DataW.weightsAll, List.mem_append]
    rcases List.mem_cons.1 h with rfl | h
    · exact .inl hn
    · exact .inr (weights_all h n hn)
section
variable {H : Type} {enc : TypeId × Value → H} {P : Program} {w : World} {base : Nat} {spare : Nat → Bool} {held : Bool}
/-- a struct's fields, with what they weigh -/
theorem fldw_struct {t : TypeId} {fs : Array Field} {fuel : Nat} {cs : List Value} {x : DataW H × List MemPlace} {B : Nat} (ht : P.underlying t = some (.struct fs)) (h : DataW.trod enc P w base spare held fuel t cs = some x) (hz : ∀ n ∈ x.1.weights P t, n ≤ B) :
    ∃ m, ∀ (i : Nat) (f : Field), fs[i]? = some f → ∃ y, DataW.trod enc P w base spare held m f.type (fld cs f.offset (P.cellsOf f.type)) = some y ∧ ∀ n ∈ y.1.weights P f.type, n ≤ B := by
  obtain ⟨xs, m, _, hxe, _, hx, hall⟩ := DataW.trod_struct ht h
  refine ⟨m, fun i f hi => ?_⟩
  have hlt : i < xs.length := by rw [hx]; exact (Array.getElem?_eq_some_iff.1 hi).1
  refine ⟨xs[i], by have := hall i f hi; rw [List.getElem?_eq_getElem hlt] at this; exact this, fun n hn => hz n ?_⟩
  subst hxe
  simp only [DataW.weights, ht]
  exact DataW.weights_mem_each (j := i) (t := f.type) (d := xs[i].1) (by rw [List.getElem?_map, Array.getElem?_toList, hi]; rfl) (by rw [List.getElem?_map, List.getElem?_eq_getElem hlt]; rfl) n hn
end
end Go.Proofs.YteffjpdcghlnlaaGreatDoor.Oct

/- What came in: replies within structs, calls, seats. -/
namespace Go.Proofs.YteffjpdcghlnlaaGreatDoor.Oct
open Go.ChangeShapes Go.WideShapes Go.ChangeAt Go.RowKit Go.Maps
set_option linter.unusedVariables false

section
variable {H : Type} {enc : TypeId × Value → H} {w : World} {base : Nat} {spare : Nat → Bool} {held : Bool}
theorem size7S {cs : List Value} (h : cs.length = 7) : ∃ a b c d e f g, cs = [a, b, c, d, e, f, g] := by
  rcases cs with _ | ⟨a, _ | ⟨b, _ | ⟨c, _ | ⟨d, _ | ⟨e, _ | ⟨f, _ | ⟨g, _ | ⟨x, r⟩⟩⟩⟩⟩⟩⟩⟩
  all_goals first | (simp at h; done) | skip
  exact ⟨a, b, c, d, e, f, g, rfl⟩
/-- a call of the plays: kind, session, number, reply -/
structure OpS where
  k : Int
  id : Int
  q : Int
  c : Int
  n : Int
  m : Int
  A : Option Addr
  T : Nat
  e : Nat
  f : Bf
theorem add_0S (a : Addr) : a.add 0 = a := by unfold Addr.add; simp
/-- elements that came in, by what one is -/
structure InS {α : Type} (k : Nat) (E : World → α → List Value → Prop) (w : World) (v : Value) (l : List α) : Prop where
  at_ : ∃ A c, v = .slice A l.length c ∧ l.length ≤ c ∧ c ≤ maxLen ∧ (0 < l.length → ∃ g o, A = some ⟨g, o, none⟩ ∧ g < w.heap.size ∧ ∀ i (hi : i < l.length), ∃ vs, E w l[i] vs ∧ ∀ j, j < k → w.cell? ⟨g, o + i * k + j, none⟩ = vs[j]?)
set_option maxRecDepth 20000 in
theorem open_ins {α : Type} [Inhabited α] {k : Nat} {E : World → α → List Value → Prop} {P : Program} {tt e : TypeId} (hu : P.underlying tt = some (.slice e)) (hk : P.cellsOf e = k) (hk0 : 0 < k)
    (hel : ∀ {fuel : Nat} {cs : List Value} {x : DataW H × List MemPlace}, cs.length = k → DataW.trod enc P w base spare held fuel e cs = some x → (∀ n ∈ x.1.weights P e, n ≤ 140737488351232) → ∃ o : α, E w o cs)
    {r : Reach} {b : Nat} {v : Value} {d : DataW H} {p : List MemPlace} (hv : Value.okWide P w r b tt v) (h : DataW.Trod enc P w base spare held tt v d p)
    {ts : List TypeId} {ds : List (DataW H)} (hz : (DataW.weightsEach P ts ds).all (· ≤ reachBytes) = true) {j : Nat} (htj : ts[j]? = some tt) (hdj : ds[j]? = some d) : ∃ l, InS k E w v l := by
  obtain ⟨a0, n0, c0, rfl⟩ := okWide_slice hu hv
  obtain ⟨fuel, hf⟩ := h
  rcases Deep.open_slice hu hf with ⟨hcs, _⟩ | ⟨a, len, cap, m, n, D, Pl, hcs, _, hl, hm, hmm, hxe, hx⟩
  · have e0 : (.slice a0 n0 c0 : Value) = .slice none 0 0 := by simpa [Value.cells] using hcs
    injection e0 with e1 e2 e3
    subst e1; subst e2; subst e3
    exact ⟨[], none, 0, rfl, Nat.le_refl _, Nat.zero_le _, fun hn => absurd hn (Nat.lt_irrefl 0)⟩
  · have e0 : (.slice a0 n0 c0 : Value) = .slice (some a) len cap := by simpa [Value.cells] using hcs
    injection e0 with e1 e2 e3
    subst e1; subst e2; subst e3
    have hlen : n0 ≤ m := by rw [hmm]; split <;> omega
    have hd : d = .slice ((List.range n0).map D) ((List.range (m - n0)).map fun j => D (n0 + j)) := congrArg Prod.fst hxe
    have er : reachBytes = 140737488351232 := by decide
    have hw : ∀ k ∈ d.weights P tt, k ≤ 140737488351232 := fun k hk => by
      have := List.all_eq_true.1 hz k (DataW.weights_mem_each htj hdj k hk)
      rw [← er]
      simpa using this
    have hwi : ∀ i, i < n0 → ∀ k ∈ (D i).weights P e, k ≤ 140737488351232 := fun i hi k hk => by
      refine hw k ?_
      rw [hd]
      simp only [DataW.weights, hu, List.mem_cons, List.mem_append]
      exact .inr (.inl (weights_all (List.mem_map.2 ⟨i, List.mem_range.2 hi, rfl⟩) k hk))
    have hsp : 0 < n0 → a.spot = none ∧ a.block < w.heap.size := fun hn => by
      obtain ⟨cs0, hcl0, _⟩ := hx 0 (by omega)
      rw [hk] at hcl0
      obtain ⟨_, hl0, hcell0⟩ := World.cells?_some hcl0
      have hc0 := hcell0 0 (by omega)
      rw [List.getElem?_eq_getElem (by omega)] at hc0
      rw [Nat.zero_mul, add_0S, add_0S] at hc0
      have h1 := World.cell?_spot hc0
      obtain ⟨g, o, s⟩ := a
      have hs' : s = none := h1
      subst hs'
      have h2 := World.block_lt_of_cell? w _ hc0
      exact ⟨rfl, h2⟩
    have hb : ∀ i : Nat, ∃ O : α, i < n0 → ∃ vs, E w O vs ∧ ∀ j, j < k → w.cell? ⟨a.block, a.off + i * k + j, none⟩ = vs[j]? := fun i => by
      by_cases hi : i < n0
      · obtain ⟨cs', hcl, htr⟩ := hx i (by omega)
        rw [hk] at hcl
        obtain ⟨hb', hl5, hcell⟩ := World.cells?_some hcl
        obtain ⟨O, e⟩ := hel hl5 htr (hwi i hi)
        refine ⟨O, fun _ => ⟨cs', e, fun j hj => ?_⟩⟩
        have h1 := hcell j (by omega)
        have h2 := (hsp (by omega)).1
        obtain ⟨g, o, s⟩ := a
        have hs' : s = none := h2
        subst hs'
        simp only [add_mid] at h1
        exact h1
      · exact ⟨default, fun e => absurd e hi⟩
    obtain ⟨X, hX⟩ := Classical.axiomOfChoice hb
    have hlr : ((List.range n0).map X).length = n0 := by simp
    refine ⟨(List.range n0).map X, some a, c0, by rw [hlr], by rw [hlr]; exact hl, hm, fun hn => ?_⟩
    rw [hlr] at hn
    obtain ⟨h1, h2⟩ := hsp hn
    refine ⟨a.block, a.off, by obtain ⟨g, o, s⟩ := a; have hs' : s = none := h1; subst hs'; rfl, h2, fun i hi => ?_⟩
    have hi' : i < n0 := by rw [hlr] at hi; exact hi
    obtain ⟨vs, e, hc⟩ := hX i hi'
    exact ⟨vs, by rw [List.getElem_map, List.getElem_range]; exact e, hc⟩
end
instance : Inhabited Se := ⟨.new 0⟩
instance : Inhabited OpS := ⟨⟨0, 0, 0, 0, 0, 0, none, 0, 0, nF⟩⟩
end Go.Proofs.YteffjpdcghlnlaaGreatDoor.Oct

namespace Go.Proofs.YteffjpdcghlnlaaGreatDoor.Oct
open Go.ChangeShapes Go.WideShapes Go.ChangeAt Go.RowKit
set_option linter.unusedVariables false
theorem teq_refl (T : Nat) (d : Bf) : teqB T T d d = true := teq_iff.2 ⟨rfl, fun _ _ => rfl⟩
theorem repS_refl (x n m : Int) (T : Nat) (d : Bf) : repS x n m x n m T T d d = true := by unfold repS; simp [teq_refl]
end Go.Proofs.YteffjpdcghlnlaaGreatDoor.Oct

namespace Go.Proofs.YteffjpdcghlnlaaGreatDoor.Oct
open Go.ChangeShapes Go.WideShapes Go.ChangeAt Go.RowKit Go.Maps
set_option linter.unusedVariables false

theorem rp_cells (w : World) (g o : Nat) (c n m : Int) (V : Value) (h0 : w.cell? ⟨g, o, none⟩ = some (.int .i64 c)) (h1 : w.cell? ⟨g, o + 1, none⟩ = some (.int .i64 n)) (h2 : w.cell? ⟨g, o + 2, none⟩ = some (.int .i64 m)) (h3 : w.cell? ⟨g, o + 3, none⟩ = some V) :
    ldR Tryz.prog 33 4 w g o (row w g) = .ok (repV c n m V) w := by
  rw [← rp_ld]
  exact run_loadAt_mid (P := Tryz.prog) w g o 33 [.int .i64 c, .int .i64 n, .int .i64 m, V] _ (fun j y hy => by
    match j with
    | 0 => cases hy; exact h0
    | 1 => cases hy; exact h1
    | 2 => cases hy; exact h2
    | 3 => cases hy; exact h3
    | j + 4 => cases hy) Tryz.underlying33 rfl (by rw [rp_i]; rfl)
end Go.Proofs.YteffjpdcghlnlaaGreatDoor.Oct
