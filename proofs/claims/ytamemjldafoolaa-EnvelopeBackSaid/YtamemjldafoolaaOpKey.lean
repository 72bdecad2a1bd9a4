/- What came in: a slice of arrays of bytes. Of whatever program. -/
import Derived.Test.YtamemjldafoolaaLib
namespace Go.Proofs.Ytamemjldafoolaa.Oct
open Go.ChangeShapes Go.WideShapes Go.ChangeAt Go.RowKit
set_option linter.unusedVariables false

/-- a slice of arrays of m bytes -/
structure ArSl (w : World) (B m : Nat) (A : Option Addr) (n c : Nat) (f : Nat → Bf) : Prop where
  le : n ≤ c
  big : c ≤ maxLen
  at_ : 0 < n → ∃ g o, A = some ⟨g, o, none⟩ ∧ g < B ∧ ∀ i j, i < n → j < m → w.cell? ⟨g, o + i * m + j, none⟩ = some (.int .u8 (I (f i j)))
theorem ArSl.below {w w' : World} {B m n c : Nat} {A : Option Addr} {f : Nat → Bf} (h : ArSl w B m A n c f) (hb : Below B w w') : ArSl w' B m A n c f :=
  ⟨h.le, h.big, fun hn => by
    obtain ⟨g, o, e, hg, hc⟩ := h.at_ hn
    exact ⟨g, o, e, hg, fun i j hi hj => (hb.cell (p := ⟨g, o + i * m + j, none⟩) hg).trans (hc i j hi hj)⟩⟩
section
variable {H : Type} {enc : TypeId × Value → H} {P : Program} {w : World} {base : Nat} {spare : Nat → Bool} {held : Bool}
theorem open_arrs {t e e' : TypeId} {m : Nat} {r : Reach} {b : Nat} {v : Value} {d : DataW H} {p : List MemPlace} (ht : P.underlying t = some (.slice e)) (he : P.underlying e = some (.array m e')) (hu : P.underlying e' = some (.int .u8)) (hc : P.cellsOf e = m) (h1 : P.cellsOf e' = 1) (hm0 : 0 < m)
    (hv : Value.okWide P w r b t v) (h : DataW.Trod enc P w base spare held t v d p) : ∃ A n c f, v = .slice A n c ∧ ArSl w w.heap.size m A n c f := by
  obtain ⟨a0, n0, c0, rfl⟩ := okWide_slice ht hv
  obtain ⟨fuel, hf⟩ := h
  rcases Deep.open_slice ht hf with ⟨hcs, _⟩ | ⟨a, len, cap, mm, n, D, Pl, hcs, _, hl, hm, hmm, _, hx⟩
  · have e0 : (.slice a0 n0 c0 : Value) = .slice none 0 0 := by simpa [Value.cells] using hcs
    injection e0 with e1 e2 e3
    subst e1; subst e2; subst e3
    exact ⟨none, 0, 0, fun _ => nF, rfl, Nat.le_refl _, Nat.zero_le _, fun hn => absurd hn (Nat.lt_irrefl 0)⟩
  · have e0 : (.slice a0 n0 c0 : Value) = .slice (some a) len cap := by simpa [Value.cells] using hcs
    injection e0 with e1 e2 e3
    subst e1; subst e2; subst e3
    have hlen : n0 ≤ mm := by rw [hmm]; split <;> omega
    have hsp : 0 < n0 → a.spot = none ∧ a.block < w.heap.size := fun hn => by
      obtain ⟨cs0, hcl0, _⟩ := hx 0 (by omega)
      rw [hc, Nat.zero_mul] at hcl0
      obtain ⟨_, hl0, hcell0⟩ := World.cells?_some hcl0
      have hc0 := hcell0 0 (by omega)
      rw [List.getElem?_eq_getElem (by omega)] at hc0
      have h1 := World.cell?_spot hc0
      obtain ⟨g, o, s⟩ := a
      have hs' : s = none := h1
      subst hs'
      simp only [add_mid] at hc0
      exact ⟨rfl, World.block_lt_of_cell? w _ hc0⟩
    have hb : ∀ i : Nat, ∃ f : Bf, i < n0 → ∀ j, j < m → w.cell? ⟨a.block, a.off + i * m + j, none⟩ = some (.int .u8 (I (f j))) := fun i => by
      by_cases hi : i < n0
      · obtain ⟨cs', hcl, htr⟩ := hx i (by omega)
        rw [hc] at hcl
        obtain ⟨hb', hl5, hcell⟩ := World.cells?_some hcl
        obtain ⟨f, e⟩ := AllBytes.ba (cs := cs'.toArray) (by simpa using trod_array (m := 1) he (by rw [hc, Nat.mul_one]) h1 (fun _ _ _ h => trod_byte hu h) htr) (n := m) (by simpa using hl5)
        refine ⟨f, fun _ j hj => ?_⟩
        have h1 := hcell j (by omega)
        have h2 := (hsp (by omega)).1
        obtain ⟨g, o, s⟩ := a
        have hs' : s = none := h2
        subst hs'
        simp only [add_mid] at h1
        have h3 : cs'[j]? = some (.int .u8 (I (f j))) := by
          have : cs'.toArray[j]? = some (.int .u8 (I (f j))) := by rw [e, ba_get m f j hj]
          simpa using this
        rw [← h3]
        exact h1
      · exact ⟨nF, fun e => absurd e hi⟩
    obtain ⟨f, hF⟩ := Classical.axiomOfChoice hb
    refine ⟨some a, n0, c0, f, rfl, hl, hm, fun hn => ?_⟩
    obtain ⟨h2, h3⟩ := hsp hn
    obtain ⟨g, o, s⟩ := a
    have hs' : s = none := h2
    subst hs'
    exact ⟨g, o, rfl, h3, fun i j hi hj => hF i hi j hj⟩
end
end Go.Proofs.Ytamemjldafoolaa.Oct
