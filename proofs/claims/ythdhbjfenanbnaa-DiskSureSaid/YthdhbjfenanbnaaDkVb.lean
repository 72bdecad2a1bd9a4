/- What came in: slices of slices of bytes. -/
import Derived.Test.YthdhbjfenanbnaaDkS
namespace Go.Proofs.Ythdhbjfenanbnaa.Oct
open Go.ChangeShapes Go.WideShapes Go.ChangeAt Go.RowKit
set_option linter.unusedVariables false

/-- a slice of slices of bytes -/
structure BsSl (w : World) (B : Nat) (A : Option Addr) (n c : Nat) (L : Nat → By) : Prop where
  le : n ≤ c
  big : c ≤ maxLen
  at_ : ∀ i, i < n → ∃ g o A' c', A = some ⟨g, o, none⟩ ∧ g < B ∧ w.cell? ⟨g, o + i, none⟩ = some (.slice A' (L i).length c') ∧ Sl w B A' (L i).length c' (lf (L i)) ∧ c' ≤ maxLen
theorem BsSl.below {w w' : World} {B n c : Nat} {A : Option Addr} {L : Nat → By} (h : BsSl w B A n c L) (hb : Below B w w') : BsSl w' B A n c L :=
  ⟨h.le, h.big, fun i hi => by
    obtain ⟨g, o, A', c', e, hg, h0, hs, hm⟩ := h.at_ i hi
    exact ⟨g, o, A', c', e, hg, by rw [hb.cell (p := ⟨g, o + i, none⟩) hg]; exact h0, hs.below hb, hm⟩⟩
section
variable {H : Type} {enc : TypeId × Value → H} {w : World} {base : Nat} {spare : Nat → Bool} {held : Bool}
theorem open_bss {r : Reach} {b : Nat} {v : Value} {d : DataW H} {p : List MemPlace} (hv : Value.okWide Try.prog w r b 47 v) (h : DataW.Trod enc Try.prog w base spare held 47 v d p) :
    ∃ A n c L, v = .slice A n c ∧ BsSl w w.heap.size A n c L := by
  obtain ⟨a0, n0, c0, rfl⟩ := okWide_slice Try.underlying47 hv
  obtain ⟨fuel, hf⟩ := h
  have h1 : Try.prog.cellsOf 29 = 1 := by kernel_rfl
  have h0 : Try.prog.cellsOf 5 = 1 := by kernel_rfl
  rcases Deep.open_slice1 Try.underlying47 h1 hf with ⟨hcs, _⟩ | ⟨a, len, cap, m, n, V, D, Pl, hcs, _, hl, hm, hmm, _, hx⟩
  · have e0 : (.slice a0 n0 c0 : Value) = .slice none 0 0 := by simpa [Value.cells] using hcs
    injection e0 with e1 e2 e3
    subst e1; subst e2; subst e3
    exact ⟨none, 0, 0, fun _ => [], rfl, Nat.le_refl _, Nat.zero_le _, fun i hi => absurd hi (by omega)⟩
  · have e0 : (.slice a0 n0 c0 : Value) = .slice (some a) len cap := by simpa [Value.cells] using hcs
    injection e0 with e1 e2 e3
    subst e1; subst e2; subst e3
    have hlen : n0 ≤ m := by rw [hmm]; split <;> omega
    have hb : ∀ i : Nat, ∃ l : By, i < n0 → ∃ A' c', V i = .slice A' l.length c' ∧ Sl w w.heap.size A' l.length c' (lf l) ∧ c' ≤ maxLen := fun i => by
      by_cases hi : i < n0
      · obtain ⟨A', n', c', f, e, hs, hm⟩ := fld_sl sli_u u8_u h0 (hx i (by omega)).2
        refine ⟨bl n' f, fun _ => ⟨A', c', ?_, ?_, hm⟩⟩
        · rw [bl_len]; simpa using e
        · rw [bl_len]; exact sl_bl hs
      · exact ⟨[], fun e => absurd e hi⟩
    obtain ⟨L, hL⟩ := Classical.axiomOfChoice hb
    refine ⟨some a, n0, c0, L, rfl, hl, hm, fun i hi => ?_⟩
    obtain ⟨A', c', e, hs, hm'⟩ := hL i hi
    have hc0 := (hx 0 (by omega)).1
    rw [show a.add 0 = a from rfl] at hc0
    have hsp := World.cell?_spot hc0
    have hci := (hx i (by omega)).1
    obtain ⟨g, o, s⟩ := a
    have hs' : s = none := hsp
    subst hs'
    rw [add_mid, e] at hci
    exact ⟨g, o, A', c', rfl, World.block_lt_of_cell? w _ hci, hci, hs, hm'⟩
end
end Go.Proofs.Ythdhbjfenanbnaa.Oct
