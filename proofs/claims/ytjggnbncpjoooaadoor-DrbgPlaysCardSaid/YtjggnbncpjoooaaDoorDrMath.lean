/- HMAC_DRBG over functions: the plain mathematics; a block that is changed and nothing else of what there was. -/
import Derived.Test.YtjggnbncpjoooaaDoorMacMath
namespace Go.Proofs.YtjggnbncpjoooaaDoor.Oct
open Go.RowKit

/-- key and V -/
abbrev St := Bf × Bf
def mixT (s : St) (r : BitVec 8) (b : Bf) : Bf := catF (32 + 1) (catF 32 s.2 fun _ => r) b
def mixS (s : St) (r : BitVec 8) (b : Bf) (n : Nat) : St := (macF s.1 32 (mixT s r b) (32 + 1 + n), macF (macF s.1 32 (mixT s r b) (32 + 1 + n)) 32 s.2 32)
def updS (s : St) (b : Bf) (n : Nat) : St := if n = 0 then mixS s 0#8 b n else mixS (mixS s 0#8 b n) 1#8 b n
def vsF (s : St) : Nat → Bf
  | 0 => s.2
  | i + 1 => macF s.1 32 (vsF s i) 32
/-- the bytes that are drawn -/
def drF (s : St) : Bf := fun j => vsF s (j / 32 + 1) (j % 32)
/-- how many V's n bytes take -/
def nV (n : Nat) : Nat := (n + 31) / 32
def drwS (s : St) (n : Nat) (b : Bf) (m : Nat) : St :=
  updS ((if m = 0 then s else updS s b m).1, vsF (if m = 0 then s else updS s b m) (nV n)) b m
def drwF (s : St) (b : Bf) (m : Nat) : Bf := drF (if m = 0 then s else updS s b m)
/-- all zero, and all one: a new source ahead of its seed -/
def newS : St := (fun _ => 0#8, fun _ => 1#8)

/-- block B holds c, and all else that was there is as it was -/
def Put (B : Nat) (c : Array Value) (w w' : World) : Prop := Below w.heap.size (w.setRow B c) w'
/-- what reads as bytes is not in block B -/
def Off (B n : Nat) (A : Option Addr) : Prop := 0 < n → ∀ a, A = some a → a.block ≠ B
theorem Sl.off {w : World} {D n c B : Nat} {A : Option Addr} {b : Bf} (h : Sl w D A n c b) (hB : D ≤ B) : Off B n A := fun hn a ha e => by
  obtain ⟨g, o, e2, hg, _⟩ := h.at_ hn
  rw [ha] at e2
  obtain rfl := Option.some.inj e2
  simp only at e
  omega
section
variable {B : Nat} {c c' c0 : Array Value} {w w' w2 : World}
theorem Put.row (h : Put B c w w') (hr : row w B = some c0) : row w' B = some c := by
  have e : (w.setRow B c).heap.size = w.heap.size := by simp
  unfold Put at h
  rw [← e] at h
  exact carry h (row_setRow hr c)
theorem Put.size (h : Put B c w w') : w.heap.size ≤ w'.heap.size := by have := Below.size h; simpa using this
theorem Put.block (h : Put B c w w') (k : Nat) (hk : k < w.heap.size) (hB : k ≠ B) : w'.heap[k]? = w.heap[k]? := by
  rw [Below.block h k hk, setRow_other w B k c hB]
theorem Put.other (h : Put B c w w') {k : Nat} (hB : k ≠ B) {c1 : Array Value} (hr : Oct.row w k = some c1) : Oct.row w' k = some c1 := by
  rw [row_heap (h.block k (row_lt hr) hB)]; exact hr
theorem Put.low (h : Put B c w w') {D : Nat} (hD : D ≤ B) (hB : D ≤ w.heap.size) : Below D w w' := (below_setRow (Below.refl D w) hD c).trans (Below.mono h hB)
theorem Put.sl (h : Put B c w w') {A : Option Addr} {n m D : Nat} {b : Bf} (hs : Sl w D A n m b) (hD : D ≤ w.heap.size) (ho : Off B n A) : Sl w' D A n m b :=
  ⟨hs.le, fun hn => by
    obtain ⟨g, o, e, hg, hc⟩ := hs.at_ hn
    refine ⟨g, o, e, hg, fun i hi => ?_⟩
    have hb := h.block g (by omega) (ho hn _ e)
    rw [show w'.cell? ⟨g, o + i, none⟩ = w.cell? ⟨g, o + i, none⟩ by unfold World.cell?; rw [hb]]
    exact hc i hi⟩
theorem Put.then (h : Put B c w w') (hr : Oct.row w B = some c0) (h2 : Put B c' w' w2) : Put B c' w w2 := by
  unfold Put at h h2 ⊢
  have hs : w.heap.size ≤ w'.heap.size := by have := Below.size h; simpa using this
  obtain ⟨t, ht⟩ := row_is hr
  have hlt := row_lt hr
  have e0 : (w.setRow B c).heap[B]? = some (.cells c t (0, 0)) := setRow_heap w B c0 c t _ ht
  have e1 : w'.heap[B]? = some (.cells c t (0, 0)) := by rw [Below.block h B hlt, e0]
  refine ⟨?_, ?_, ?_, ?_, fun k hk => ?_⟩
  · exact (h2.1).trans (h.1)
  · exact (h2.2).trans (h.2)
  · exact (h2.3).trans (h.3)
  · have := Below.size h2; simp at this ⊢; omega
  · rw [Below.block h2 k (by omega)]
    by_cases hkB : k = B
    · subst hkB
      rw [setRow_heap w' k c c' t _ e1, setRow_heap w k c0 c' t _ ht]
    · rw [setRow_other _ _ _ _ hkB, setRow_other _ _ _ _ hkB, Below.block h k hk, setRow_other _ _ _ _ hkB]
/-- a call that leaves what there was, then a store into the block -/
theorem Put.of (h : Below w.heap.size w w') (hB : B < w.heap.size) (c : Array Value) : Put B c w (w'.setRow B c) := by
  unfold Put
  refine ⟨h.1, h.2, h.3, ?_, fun k hk => ?_⟩
  · have := h.size; simp; omega
  · by_cases hkB : k = B
    · subst hkB
      simp only [World.setRow, Array.getElem?_modify, if_pos, h.block k hk]
    · rw [setRow_other _ _ _ _ hkB, setRow_other _ _ _ _ hkB, h.block k hk]
/-- and one behind that leaves what there was -/
theorem Put.calm (h : Put B c w w') (h2 : Below w'.heap.size w' w2) : Put B c w w2 := Below.trans h (h2.mono h.size)
/-- and one ahead -/
theorem Put.behind (h : Below w.heap.size w w') (hB : B < w.heap.size) (h2 : Put B c w' w2) : Put B c w w2 := by
  have h1 := Put.of h hB c
  unfold Put at h1 h2 ⊢
  exact h1.trans (h2.mono h.size)
theorem Put.nil (hr : Oct.row w B = some c) : Put B c w w := by unfold Put; rw [setRow_self hr]; exact Below.refl _ _
end
theorem hot_cons {hot : List Nat} {x w'' : World} {q : Nat} {l : List Nat} (hq : q ∈ hot) (hqz : q < w''.heap.size) (h : ∀ k ∈ l, (k ∈ hot ∨ x.heap.size ≤ k) ∧ k < w''.heap.size) : ∀ k ∈ q :: l, (k ∈ hot ∨ x.heap.size ≤ k) ∧ k < w''.heap.size := fun k hk => by
  rcases List.mem_cons.1 hk with rfl | hk
  · exact ⟨.inl hq, hqz⟩
  · exact h k hk
end Go.Proofs.YtjggnbncpjoooaaDoor.Oct
