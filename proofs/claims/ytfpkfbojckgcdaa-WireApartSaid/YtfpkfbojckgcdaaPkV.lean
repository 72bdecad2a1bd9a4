/- What pack's contracts end in, taken apart; put behind nothing; strings. -/
import Derived.Test.YtfpkfbojckgcdaaPkH
import Derived.Test.YtfpkfbojckgcdaaPkD
namespace Go.Proofs.Ytfpkfbojckgcdaa.Oct
open Go.ChangeShapes Go.WideShapes Go.ChangeAt Go.RowKit
set_option linter.unusedVariables false

def litF (l : List (BitVec 8)) : Bf := fun i => l.getD i 0#8
theorem str_lit {n : Nat} {f : Bf} {l : List UInt8} (h : ((List.range n).map fun i => UInt8.ofNat (f i).toNat) = l) : strOf n f = ⟨l.toArray⟩ := by unfold strOf; rw [h]
theorem taP.bad {n : Nat} {f : Bf} {w : World} {e : Ending} {w' : World} (h : taP n f w e w') {E : Nat} (hE : tkE n f = E) (h0 : E ≠ 0) : e = .returned (.tuple #[.int .i64 0, .slice none 0 0, .int .i64 E]) ∧ Below w.heap.size w w' := by
  rcases h with ⟨_, h2, h3⟩ | ⟨h1, _⟩
  · rw [hE] at h2; exact ⟨h2, h3⟩
  · rw [hE] at h1; exact absurd h1 h0
theorem taP.ok {n : Nat} {f : Bf} {w : World} {e : Ending} {w' : World} (h : taP n f w e w') (hE : tkE n f = 0) : ∃ v, e = .returned (.tuple #[.int .i64 (tkV f : Nat), v, .int .i64 0]) ∧ Own w' w.heap.size 5 v (n - tkL f) (offF f (tkL f)) ∧ Below w.heap.size w w' := by
  rcases h with ⟨h1, _⟩ | ⟨_, h⟩
  · exact absurd hE h1
  · exact h
theorem ttP.bad {n : Nat} {m : Int} {f : Bf} {w : World} {e : Ending} {w' : World} (h : ttP n m f w e w') {E : Nat} (hE : ttE n m f = E) (h0 : E ≠ 0) : e = .returned (.tuple #[.slice none 0 0, .slice none 0 0, .int .i64 E]) ∧ Below w.heap.size w w' := by
  rcases h with ⟨_, h2, h3⟩ | ⟨h1, _⟩
  · rw [hE] at h2; exact ⟨h2, h3⟩
  · rw [hE] at h1; exact absurd h1 h0
theorem ttP.ok {n : Nat} {m : Int} {f : Bf} {w : World} {e : Ending} {w' : World} (h : ttP n m f w e w') (hE : ttE n m f = 0) : ∃ u v, e = .returned (.tuple #[u, v, .int .i64 0]) ∧ Own w' w.heap.size 5 u (tkV f) (offF f (tkL f)) ∧ Own w' w.heap.size 5 v (n - tkL f - tkV f) (offF f (tkL f + tkV f)) ∧ Below w.heap.size w w' := by
  rcases h with ⟨h1, _⟩ | ⟨_, h⟩
  · exact absurd hE h1
  · exact h
theorem tllP.bad {n : Nat} {m : Int} {f : Bf} {w : World} {e : Ending} {w' : World} (h : tllP n m f w e w') {E : Nat} (hE : tllE n m f = E) (h0 : E ≠ 0) : e = .returned (.tuple #[.slice none 0 0, .slice none 0 0, .int .i64 E]) ∧ Below w.heap.size w w' := by
  rcases h with ⟨_, h2, h3⟩ | ⟨h1, _⟩
  · rw [hE] at h2; exact ⟨h2, h3⟩
  · rw [hE] at h1; exact absurd h1 h0
theorem tllP.ok {n : Nat} {m : Int} {f : Bf} {w : World} {e : Ending} {w' : World} (h : tllP n m f w e w') (hE : tllE n m f = 0) : ∃ A c v, e = .returned (.tuple #[.slice A (tkV f) c, v, .int .i64 0]) ∧ SlG w' w'.heap.size A (tkV f) c (iV fun i => tlX f i) ∧ c ≤ maxLen ∧ Own w' w.heap.size 5 v (n - tlO f (tkV f)) (offF f (tlO f (tkV f))) ∧ Below w.heap.size w w' := by
  rcases h with ⟨h1, _⟩ | ⟨_, h⟩
  · exact absurd hE h1
  · exact h
theorem conv_own {w : World} {b n : Nat} {v : Value} {f : Bf} (h : Own w b 5 v n f) : (convert 22 9 v).run Try.prog w = .ok (.string (strOf n f)) w := by
  obtain ⟨A, c, rfl, hs, _, _⟩ := h.sl
  exact run_str sli_u u8_u str_u hs
theorem wf_bd {x : Int} (h : (Lit.int .i64 x).wf = true) : -9223372036854775808 ≤ x ∧ x < 9223372036854775808 := by
  simp only [Lit.wf, IntKind.min, IntKind.max, IntKind.signed, IntKind.bits, Bool.and_eq_true, decide_eq_true_eq, if_true] at h
  omega
/-- put behind nothing -/
theorem put_nil (n : Nat) (w : World) (hn : n < 9223372036854775808) :
    Calls Try.prog 50 #[.slice none 0 0, .int .i64 n] w fun e w' => ∃ v, e = .returned (.tuple #[v, .int .i64 0]) ∧ Own w' w.heap.size 5 v (encL n) (encF n) ∧ Below w.heap.size w w' := by
  refine (put_any n 0 0 none nF w (Sl.nothing _ _ _ _ _) (by omega) hn).mono ?_
  rintro e w' ⟨v, rfl, ho, hb⟩
  rw [Nat.zero_add, catF_zero] at ho
  exact ⟨v, rfl, ho, hb⟩
theorem putt_nil (T c1 : Nat) (A1 : Option Addr) (t : Bf) (w : World) (ht : Sl w w.heap.size A1 T c1 t) (hT : T ≤ 4096) :
    Calls Try.prog 52 #[.slice none 0 0, .slice A1 T c1] w fun e w' => ∃ v, e = .returned (.tuple #[v, .int .i64 0]) ∧ Own w' w.heap.size 5 v (txL T) (txF T t) ∧ Below w.heap.size w w' := by
  refine (putt_any 0 0 T c1 none A1 nF t w (Sl.nothing _ _ _ _ _) ht (by omega) hT).mono ?_
  rintro e w' ⟨v, rfl, ho, hb⟩
  rw [Nat.zero_add, catF_zero] at ho
  exact ⟨v, rfl, ho, hb⟩
theorem putl_nil (n c1 : Nat) (A1 : Option Addr) (x : Nat → Int) (w : World) (hl : SlG w w.heap.size A1 n c1 (iV x)) (hx : ∀ i, i < n → -9223372036854775808 ≤ x i ∧ x i < 9223372036854775808) (hn : n ≤ 4096) :
    Calls Try.prog 62 #[.slice none 0 0, .slice A1 n c1] w fun e w' =>
      (negs x n ∧ e = .returned (.tuple #[.slice none 0 0, .int .i64 1]) ∧ Below w.heap.size w w') ∨
      ((∀ i, i < n → 0 ≤ x i) ∧ ∃ v, e = .returned (.tuple #[v, .int .i64 0]) ∧ Own w' w.heap.size 5 v (lsL (natS x) n n) (lsF (natS x) n n) ∧ Below w.heap.size w w') := by
  refine (putl_any 0 0 n c1 none A1 nF x w (Sl.nothing _ _ _ _ _) hl hx (by omega) hn).mono ?_
  rintro e w' (h | ⟨h1, v, rfl, ho, hb⟩)
  · exact .inl h
  · rw [Nat.zero_add, catF_zero] at ho
    exact .inr ⟨h1, v, rfl, ho, hb⟩
end Go.Proofs.Ytfpkfbojckgcdaa.Oct
