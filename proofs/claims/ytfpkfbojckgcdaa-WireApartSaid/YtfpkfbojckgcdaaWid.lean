/- The struct types Command, Reply, Entry: what came in is of their form. -/
import Derived.Test.YtfpkfbojckgcdaaWic
namespace Go.Proofs.Ytfpkfbojckgcdaa.Oct
open Go.ChangeShapes Go.WideShapes Go.ChangeAt Go.RowKit
set_option linter.unusedVariables false

section
variable {H : Type} {enc : TypeId × Value → H} {P : Program} {w : World} {base : Nat} {spare : Nat → Bool} {held : Bool}
/-- a field that is a slice of ints -/
theorem fld_ints {t e : TypeId} (ht : P.underlying t = some (.slice e)) (he : P.underlying e = some (.int .i64)) (h1 : P.cellsOf e = 1) {fuel : Nat} {cs : List Value} {x : DataW H × List MemPlace}
    (h : DataW.trod enc P w base spare held fuel t cs = some x) : ∃ A n c x, cs = [.slice A n c] ∧ SlG w w.heap.size A n c (iV x) ∧ c ≤ maxLen ∧ ∀ i, i < n → -9223372036854775808 ≤ x i ∧ x i < 9223372036854775808 := by
  rcases Deep.open_slice1 ht h1 h with ⟨hcs, _⟩ | ⟨a, len, cap, m, n, V, D, Pl, hcs, _, hl, hm, hmm, _, hx⟩
  · exact ⟨none, 0, 0, fun _ => 0, hcs, ⟨Nat.le_refl _, fun e => by omega⟩, Nat.zero_le _, fun i hi => by omega⟩
  · have hlen : len ≤ m := by rw [hmm]; split <;> omega
    have hb : ∀ i : Nat, ∃ x : Int, i < len → V i = .int .i64 x ∧ -9223372036854775808 ≤ x ∧ x < 9223372036854775808 := fun i => by
      by_cases hi : i < len
      · obtain ⟨x, ex, _, hw⟩ := DataW.trod_int (k := .i64) he (hx i (by omega)).2
        simp only [Lit.wf, IntKind.min, IntKind.max, IntKind.signed, IntKind.bits, Bool.and_eq_true, decide_eq_true_eq, if_true] at hw
        exact ⟨x, fun _ => ⟨by simpa using ex, by omega, by omega⟩⟩
      · exact ⟨0, fun e => absurd e hi⟩
    obtain ⟨x, hX⟩ := Classical.axiomOfChoice hb
    refine ⟨some a, len, cap, x, hcs, ⟨hl, fun hn => ?_⟩, hm, fun i hi => (hX i hi).2⟩
    have hc0 := (hx 0 (by omega)).1
    rw [show a.add 0 = a from rfl] at hc0
    have hs := World.cell?_spot hc0
    obtain ⟨g, o, s⟩ := a
    simp only at hs
    subst hs
    refine ⟨g, o, rfl, World.block_lt_of_cell? w _ hc0, fun i hi => ?_⟩
    have hci := (hx i (by omega)).1
    rw [add_mid, (hX i hi).1] at hci
    exact hci
end
theorem size7 {cs : Array Value} (h : cs.size = 7) : ∃ a b c d e f g, cs = #[a, b, c, d, e, f, g] := by
  obtain ⟨l⟩ := cs
  rcases l with _ | ⟨a, _ | ⟨b, _ | ⟨c, _ | ⟨d, _ | ⟨e, _ | ⟨f, _ | ⟨g, _ | ⟨x, r⟩⟩⟩⟩⟩⟩⟩⟩
  all_goals first | (simp at h; done) | skip
  exact ⟨a, b, c, d, e, f, g, rfl⟩
section
variable {H : Type} {enc : TypeId × Value → H} {w : World} {base : Nat} {spare : Nat → Bool} {held : Bool}
set_option maxRecDepth 20000 in
theorem open_com {r : Reach} {b : Nat} {v : Value} {d : DataW H} {p : List MemPlace} (hv : Value.okWide Try.prog w r b 24 v) (h : DataW.Trod enc Try.prog w base spare held 24 v d p) :
    ∃ k s q i n A T c f A' U c' g, v = comV k s q i n (.slice A T c) (.slice A' U c') ∧ Sl w w.heap.size A T c f ∧ c ≤ maxLen ∧ Sl w w.heap.size A' U c' g ∧ c' ≤ maxLen ∧ i64B k ∧ i64B s ∧ i64B q ∧ i64B i ∧ i64B n := by
  obtain ⟨cs, rfl, hs, m, hall⟩ := open_struct Try.underlying24 hv h
  have hc : Try.prog.cellsOf 24 = 7 := by kernel_rfl
  have h1 : Try.prog.cellsOf 5 = 1 := by kernel_rfl
  have h7 : cs.size = 7 := by rw [hs, hc]
  clear hs hc
  obtain ⟨a0, a1, a2, a3, a4, a5, a6, rfl⟩ := size7 h7
  obtain ⟨y0, e0⟩ := hall 0 _ rfl
  obtain ⟨y1, e1⟩ := hall 1 _ rfl
  obtain ⟨y2, e2⟩ := hall 2 _ rfl
  obtain ⟨y3, e3⟩ := hall 3 _ rfl
  obtain ⟨y4, e4⟩ := hall 4 _ rfl
  obtain ⟨y5, e5⟩ := hall 5 _ rfl
  obtain ⟨y6, e6⟩ := hall 6 _ rfl
  obtain ⟨k, ek, _, hk⟩ := DataW.trod_int (k := .i64) (by kernel_rfl) e0
  obtain ⟨s, es, _, hs⟩ := DataW.trod_int (k := .i64) (by kernel_rfl) e1
  obtain ⟨q, eq, _, hq⟩ := DataW.trod_int (k := .i64) (by kernel_rfl) e2
  obtain ⟨i, ei, _, hi⟩ := DataW.trod_int (k := .i64) (by kernel_rfl) e3
  obtain ⟨n, en, _, hn⟩ := DataW.trod_int (k := .i64) (by kernel_rfl) e4
  obtain ⟨A, T, c, f, ef, hf, hm⟩ := fld_sl sli_u u8_u h1 e5
  obtain ⟨A', U, c', g, eg, hg, hm'⟩ := fld_sl sli_u u8_u h1 e6
  have ek' : a0 = .int .i64 k := List.head_eq_of_cons_eq (show [a0] = [.int .i64 k] from ek)
  have es' : a1 = .int .i64 s := List.head_eq_of_cons_eq (show [a1] = [.int .i64 s] from es)
  have eq' : a2 = .int .i64 q := List.head_eq_of_cons_eq (show [a2] = [.int .i64 q] from eq)
  have ei' : a3 = .int .i64 i := List.head_eq_of_cons_eq (show [a3] = [.int .i64 i] from ei)
  have en' : a4 = .int .i64 n := List.head_eq_of_cons_eq (show [a4] = [.int .i64 n] from en)
  have ef' : a5 = .slice A T c := List.head_eq_of_cons_eq (show [a5] = [.slice A T c] from ef)
  have eg' : a6 = .slice A' U c' := List.head_eq_of_cons_eq (show [a6] = [.slice A' U c'] from eg)
  subst ek' es' eq' ei' en' ef' eg'
  exact ⟨k, s, q, i, n, A, T, c, f, A', U, c', g, rfl, hf, hm, hg, hm', wf_bd hk, wf_bd hs, wf_bd hq, wf_bd hi, wf_bd hn⟩
set_option maxRecDepth 20000 in
theorem open_rep {r : Reach} {b : Nat} {v : Value} {d : DataW H} {p : List MemPlace} (hv : Value.okWide Try.prog w r b 35 v) (h : DataW.Trod enc Try.prog w base spare held 35 v d p) :
    ∃ x n m A T c f, v = repV x n m (.slice A T c) ∧ Sl w w.heap.size A T c f ∧ c ≤ maxLen ∧ i64B x ∧ i64B n ∧ i64B m := by
  obtain ⟨cs, rfl, hs, fu, hall⟩ := open_struct Try.underlying35 hv h
  have hc : Try.prog.cellsOf 35 = 4 := by kernel_rfl
  have h1 : Try.prog.cellsOf 5 = 1 := by kernel_rfl
  have h4 : cs.size = 4 := by rw [hs, hc]
  clear hs hc
  obtain ⟨a0, a1, a2, a3, rfl⟩ := size4 h4
  obtain ⟨y0, e0⟩ := hall 0 _ rfl
  obtain ⟨y1, e1⟩ := hall 1 _ rfl
  obtain ⟨y2, e2⟩ := hall 2 _ rfl
  obtain ⟨y3, e3⟩ := hall 3 _ rfl
  obtain ⟨x, ex, _, hx⟩ := DataW.trod_int (k := .i64) (by kernel_rfl) e0
  obtain ⟨n, en, _, hn⟩ := DataW.trod_int (k := .i64) (by kernel_rfl) e1
  obtain ⟨m, em, _, hm⟩ := DataW.trod_int (k := .i64) (by kernel_rfl) e2
  obtain ⟨A, T, c, f, ef, hf, hmm⟩ := fld_sl sli_u u8_u h1 e3
  have ex' : a0 = .int .i64 x := List.head_eq_of_cons_eq (show [a0] = [.int .i64 x] from ex)
  have en' : a1 = .int .i64 n := List.head_eq_of_cons_eq (show [a1] = [.int .i64 n] from en)
  have em' : a2 = .int .i64 m := List.head_eq_of_cons_eq (show [a2] = [.int .i64 m] from em)
  have ef' : a3 = .slice A T c := List.head_eq_of_cons_eq (show [a3] = [.slice A T c] from ef)
  subst ex' en' em' ef'
  exact ⟨x, n, m, A, T, c, f, rfl, hf, hmm, wf_bd hx, wf_bd hn, wf_bd hm⟩
set_option maxRecDepth 20000 in
theorem open_ent {r : Reach} {b : Nat} {v : Value} {d : DataW H} {p : List MemPlace} (hv : Value.okWide Try.prog w r b 43 v) (h : DataW.Trod enc Try.prog w base spare held 43 v d p) :
    ∃ t k A T c f A' n c' x, v = entV t k (.slice A T c) (.slice A' n c') ∧ Sl w w.heap.size A T c f ∧ c ≤ maxLen ∧ SlG w w.heap.size A' n c' (iV x) ∧ c' ≤ maxLen ∧ i64B t ∧ i64B k ∧ ∀ i, i < n → -9223372036854775808 ≤ x i ∧ x i < 9223372036854775808 := by
  obtain ⟨cs, rfl, hs, fu, hall⟩ := open_struct Try.underlying43 hv h
  have hc : Try.prog.cellsOf 43 = 4 := by kernel_rfl
  have h1 : Try.prog.cellsOf 5 = 1 := by kernel_rfl
  have h2 : Try.prog.cellsOf 3 = 1 := by kernel_rfl
  have h4 : cs.size = 4 := by rw [hs, hc]
  clear hs hc
  obtain ⟨a0, a1, a2, a3, rfl⟩ := size4 h4
  obtain ⟨y0, e0⟩ := hall 0 _ rfl
  obtain ⟨y1, e1⟩ := hall 1 _ rfl
  obtain ⟨y2, e2⟩ := hall 2 _ rfl
  obtain ⟨y3, e3⟩ := hall 3 _ rfl
  obtain ⟨t, et, _, ht⟩ := DataW.trod_int (k := .i64) (by kernel_rfl) e0
  obtain ⟨k, ek, _, hk⟩ := DataW.trod_int (k := .i64) (by kernel_rfl) e1
  obtain ⟨A, T, c, f, ef, hf, hmm⟩ := fld_sl sli_u u8_u h1 e2
  obtain ⟨A', n, c', x, el, hl, hml, hx⟩ := fld_ints ints_u i64_u h2 e3
  have et' : a0 = .int .i64 t := List.head_eq_of_cons_eq (show [a0] = [.int .i64 t] from et)
  have ek' : a1 = .int .i64 k := List.head_eq_of_cons_eq (show [a1] = [.int .i64 k] from ek)
  have ef' : a2 = .slice A T c := List.head_eq_of_cons_eq (show [a2] = [.slice A T c] from ef)
  have el' : a3 = .slice A' n c' := List.head_eq_of_cons_eq (show [a3] = [.slice A' n c'] from el)
  subst et' ek' ef' el'
  exact ⟨t, k, A, T, c, f, A', n, c', x, rfl, hf, hmm, hl, hml, wf_bd ht, wf_bd hk, hx⟩
end
end Go.Proofs.Ytfpkfbojckgcdaa.Oct
