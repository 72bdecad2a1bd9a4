/- What came in: a slice of bytes reads as 'Sl'; and 'string(b)'. Of whatever program. -/
import Derived.Test.YtokhldihfbaeoaaSl
import Derived.Test.YtokhldihfbaeoaaOpen
import Derived.Test.YtokhldihfbaeoaaSeen
import Derived.Deep.Slices
import Derived.Laws.IdiomStrings
namespace Go.Proofs.Ytokhldihfbaeoaa.Oct
open Go.ChangeShapes Go.WideShapes Go.ChangeAt Go.RowKit

section
variable {H : Type} {enc : TypeId × Value → H} {P : Program} {w : World} {base : Nat} {spare : Nat → Bool} {held : Bool}
theorem open_sl {t e : TypeId} {r : Reach} {b : Nat} {v : Value} {d : DataW H} {p : List MemPlace} (ht : P.underlying t = some (.slice e)) (he : P.underlying e = some (.int .u8)) (h1 : P.cellsOf e = 1)
    (hv : Value.okWide P w r b t v) (h : DataW.Trod enc P w base spare held t v d p) : ∃ A n c f, v = .slice A n c ∧ Sl w w.heap.size A n c f ∧ c ≤ maxLen := by
  obtain ⟨a0, n0, c0, rfl⟩ := okWide_slice ht hv
  obtain ⟨fuel, hf⟩ := h
  rcases Deep.open_slice1 ht h1 hf with ⟨hcs, _⟩ | ⟨a, len, cap, m, n, V, D, Pl, hcs, _, hl, hm, hmm, _, hx⟩
  · have e0 : (.slice a0 n0 c0 : Value) = .slice none 0 0 := by simpa [Value.cells] using hcs
    injection e0 with e1 e2 e3
    subst e1; subst e2; subst e3
    exact ⟨none, 0, 0, nF, rfl, Sl.nothing _ _ _ _ _, Nat.zero_le _⟩
  · have e0 : (.slice a0 n0 c0 : Value) = .slice (some a) len cap := by simpa [Value.cells] using hcs
    injection e0 with e1 e2 e3
    subst e1; subst e2; subst e3
    have hlen : n0 ≤ m := by rw [hmm]; split <;> omega
    have hb : ∀ i : Nat, ∃ v : BitVec 8, i < n0 → V i = .int .u8 (I v) := fun i => by
      by_cases hi : i < n0
      · obtain ⟨v, hv⟩ := trod_byte he (hx i (by omega)).2 (V i) (by simp)
        exact ⟨v, fun _ => hv⟩
      · exact ⟨0#8, fun e => absurd e hi⟩
    obtain ⟨f, hF⟩ := Classical.axiomOfChoice hb
    refine ⟨some a, n0, c0, f, rfl, ⟨hl, fun hn => ?_⟩, hm⟩
    have hc0 := (hx 0 (by omega)).1
    rw [show a.add 0 = a from rfl] at hc0
    have hs := World.cell?_spot hc0
    obtain ⟨g, o, s⟩ := a
    simp only at hs
    subst hs
    refine ⟨g, o, rfl, World.block_lt_of_cell? w _ hc0, fun i hi => ?_⟩
    have hci := (hx i (by omega)).1
    rw [add_mid, hF i hi] at hci
    exact hci
end

/- as a string -/
@[irreducible] def strOf (n : Nat) (b : Bf) : ByteArray := ⟨((List.range n).map fun i => UInt8.ofNat (b i).toNat).toArray⟩
theorem run_str {P : Program} {w : World} {src dst e : TypeId} (hs : P.underlying src = some (.slice e)) (he : P.underlying e = some (.int .u8)) (hd : P.underlying dst = some .string)
    {B n c : Nat} {A : Option Addr} {b : Bf} (h : Sl w B A n c b) : (convert src dst (.slice A n c)).run P w = .ok (.string (strOf n b)) w := by
  rcases Nat.eq_zero_or_pos n with rfl | hn
  · rw [run_convert_bytes_string w src dst e A 0 c hs he hd]
    unfold strOf
    cases A with
    | none => simp [Conv.bytesToString]; rfl
    | some a => rw [run_bytesToString w a 0 c [] (by simpa using run_loadCells_list (P := P) w a [] (by simp))]; rfl
  · obtain ⟨g, o, rfl, _, hc⟩ := h.at_ hn
    have hl : ((List.range n).map fun i => UInt8.ofNat (b i).toNat).length = n := by simp
    have e1 := run_convert_bytes_back (P := P) w src dst e ⟨g, o, none⟩ c ((List.range n).map fun i => UInt8.ofNat (b i).toNat) hs he hd (fun j hj => by
      rw [hl] at hj
      rw [add_mid, hc j hj]
      simp only [List.getElem_map, List.getElem_range]
      unfold I
      rw [UInt8.toNat_ofNat', Nat.mod_eq_of_lt (b j).isLt])
    rw [hl] at e1
    rw [e1]
    unfold strOf
    rfl
theorem After.sl {W : World} {n c : Nat} {A : Option Addr} {b : Bf} (h : Sl W W.heap.size A n c b) (x : After W) : Sl x.val x.val.heap.size A n c b := (h.below x.below).more x.below.size
end Go.Proofs.Ytokhldihfbaeoaa.Oct
