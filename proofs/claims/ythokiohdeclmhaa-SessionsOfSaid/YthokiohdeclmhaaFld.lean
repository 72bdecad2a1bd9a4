/- The cells of a struct, field by field: a list of the fields' cells, laid one behind the other. Loads, stores, literals by it. Of whatever program. -/
import Derived.Test.YthokiohdeclmhaaLib
import Derived.Laws.Tables
namespace Go.Proofs.Ythokiohdeclmhaa.Oct
open Go.RowKit

@[irreducible] def flt (fs : List (Array Value)) : Array Value := (fs.flatMap Array.toList).toArray
def szs : List (Array Value) → Nat
  | [] => 0
  | c :: r => c.size + szs r
theorem szs_cons (c : Array Value) (r : List (Array Value)) : szs (c :: r) = c.size + szs r := rfl
theorem szs_app (a b : List (Array Value)) : szs (a ++ b) = szs a + szs b := by
  induction a with
  | nil => simp [szs]
  | cons c r ih => simp only [List.cons_append, szs, ih]; omega
theorem flat_len (fs : List (Array Value)) : (fs.flatMap Array.toList).length = szs fs := by
  induction fs with
  | nil => rfl
  | cons c r ih => simp only [List.flatMap_cons, List.length_append, szs, ih, Array.length_toList]
theorem flt_size (fs : List (Array Value)) : (flt fs).size = szs fs := by unfold flt; rw [List.size_toArray, flat_len]
theorem flt_at (pre post : List (Array Value)) (c : Array Value) (k : Nat) : (flt (pre ++ c :: post))[k]? = if k < szs pre then (flt pre)[k]? else if k < szs pre + c.size then c[k - szs pre]? else (flt post)[k - szs pre - c.size]? := by
  unfold flt
  simp only [List.getElem?_toArray, List.flatMap_append, List.flatMap_cons]
  by_cases h : k < szs pre
  · rw [if_pos h, List.getElem?_append_left (by rw [flat_len]; exact h)]
  · rw [if_neg h, List.getElem?_append_right (by rw [flat_len]; omega), flat_len]
    by_cases h2 : k < szs pre + c.size
    · rw [if_pos h2, List.getElem?_append_left (by rw [Array.length_toList]; omega), Array.getElem?_toList]
    · rw [if_neg h2, List.getElem?_append_right (by rw [Array.length_toList]; omega), Array.length_toList]
theorem flt_get (pre post : List (Array Value)) (c : Array Value) {o j : Nat} (ho : o = szs pre) (h : j < c.size) : (flt (pre ++ c :: post))[o + j]? = c[j]? := by
  subst ho
  rw [flt_at, if_neg (by omega), if_pos (by omega), Nat.add_sub_cancel_left]
theorem flt_ext (pre post : List (Array Value)) (c : Array Value) : (flt (pre ++ c :: post)).extract (szs pre) (szs pre + c.size) = c := by
  apply Array.ext_getElem?
  intro j
  rw [Array.getElem?_extract, flt_size, szs_app, szs_cons]
  by_cases h : j < c.size
  · rw [if_pos (by omega), flt_get pre post c rfl h]
  · rw [if_neg (by omega), Array.getElem?_eq_none (by omega)]
theorem flt_set (pre post : List (Array Value)) (c : Array Value) {o j : Nat} (v : Value) (ho : o = szs pre) (h : j < c.size) : (flt (pre ++ c :: post)).setIfInBounds (o + j) v = flt (pre ++ c.setIfInBounds j v :: post) := by
  subst ho
  apply Array.ext_getElem?
  intro k
  rw [Array.getElem?_setIfInBounds, flt_at, flt_at, flt_size, szs_app, szs_cons, Array.size_setIfInBounds]
  by_cases hk : szs pre + j = k
  · subst hk
    rw [if_pos rfl, if_pos (by omega), if_neg (by omega), if_pos (by omega), Nat.add_sub_cancel_left, Array.getElem?_setIfInBounds, if_pos rfl, if_pos h]
  · rw [if_neg hk]
    split
    · rfl
    · split
      · rw [Array.getElem?_setIfInBounds, if_neg (by omega)]
      · rfl
theorem flt_spl (pre post : List (Array Value)) (c c' : Array Value) {o : Nat} (ho : o = szs pre) (h : c'.size = c.size) : spl (flt (pre ++ c :: post)) o c'.toList = flt (pre ++ c' :: post) := by
  subst ho
  apply Array.ext_getElem?
  intro k
  rw [spl_get _ _ _ _ (by rw [flt_size, szs_app, szs_cons, Array.length_toList]; omega), flt_at, flt_at, Array.length_toList, h]
  by_cases h1 : k < szs pre
  · rw [if_neg (by omega), if_pos h1, if_pos h1]
  · rw [if_neg h1, if_neg h1]
    by_cases h2 : k < szs pre + c.size
    · rw [if_pos ⟨by omega, h2⟩, if_pos h2, Array.getElem?_toList]
    · rw [if_neg (by omega), if_neg h2, if_neg h2]
theorem flt_ones (fs : List (Array Value)) (h : ∀ c ∈ fs, Ones c) : Ones (flt fs) := by
  unfold Ones flt
  rw [Array.all_eq_true_iff_forall_mem]
  intro v hv
  obtain ⟨c, hc, hm⟩ := List.mem_flatMap.1 (by simpa using hv : v ∈ fs.flatMap Array.toList)
  exact (Array.all_eq_true_iff_forall_mem.1 (h c hc)) v (by simpa using hm)
/- loads and stores -/
theorem ldR_flt (P : Program) (t m : Nat) (w : World) (b : Nat) {o : Nat} (pre post : List (Array Value)) (c : Array Value) (ho : o = szs pre) (hm : m = c.size) : ldR P t m w b o (some (flt (pre ++ c :: post))) = .ok (.agg c) w := by
  subst ho hm
  unfold ldR
  have e : szs pre + c.size ≤ (flt (pre ++ c :: post)).size := by rw [flt_size, szs_app, szs_cons]; omega
  simp only [if_pos e]
  rw [flt_ext]
theorem ldR_whole (P : Program) (t m : Nat) (w : World) (b : Nat) (c : Array Value) (hm : m = c.size) : ldR P t m w b 0 (some c) = .ok (.agg c) w := by
  subst hm
  unfold ldR
  simp only [Nat.zero_add]
  rw [if_pos (Nat.le_refl _), Array.extract_size]
theorem stR_flt (P : Program) (t m : Nat) (w : World) (b : Nat) {o : Nat} (pre post : List (Array Value)) (c c' : Array Value) (ho : o = szs pre) (hm : m = c.size) (hc : c'.size = c.size) (h1 : Ones c') :
    stR P t m w b o (.agg c') (some (flt (pre ++ c :: post))) = .ok () (w.setRow b (flt (pre ++ c' :: post))) := by
  have e : o + m ≤ (flt (pre ++ c :: post)).size ∧ (Value.agg c').cells.size = m ∧ Ones (Value.agg c').cells := ⟨by rw [flt_size, szs_app, szs_cons]; omega, by rw [hm, ← hc]; rfl, h1⟩
  unfold stR
  simp only [if_pos e]
  exact congrArg (fun c => Result.ok () (w.setRow b c)) (flt_spl pre post c c' ho hc)
theorem stR_whole (P : Program) (t m : Nat) (w : World) (b : Nat) (c c' : Array Value) (hm : m = c.size) (hc : c'.size = c.size) (h1 : Ones c') : stR P t m w b 0 (.agg c') (some c) = .ok () (w.setRow b c') := by
  have e : 0 + m ≤ c.size ∧ (Value.agg c').cells.size = m ∧ Ones (Value.agg c').cells := ⟨by omega, by rw [hm, ← hc]; rfl, h1⟩
  unfold stR
  simp only [if_pos e]
  refine congrArg (fun c => Result.ok () (w.setRow b c)) ?_
  apply Array.ext_getElem?
  intro k
  show (spl c 0 c'.toList)[k]? = _
  rw [spl_get _ _ _ _ (by rw [Array.length_toList]; omega), Array.length_toList, Nat.zero_add]
  by_cases hk : k < c'.size
  · rw [if_pos ⟨Nat.zero_le _, hk⟩, Array.getElem?_toList, Nat.sub_zero]
  · rw [if_neg (by omega), Array.getElem?_eq_none (by omega), Array.getElem?_eq_none (by omega)]
/- literals -/
theorem fold_spl (v : Array Value) (o : Nat) (cells : Array Value) : v.zipIdx.foldl (fun cs (c, j) => cs.setIfInBounds (o + j) c) cells = spl cells o v.toList := by
  have key : ∀ (vs : List Value) (i : Nat) (cs : Array Value), (vs.zipIdx i).foldl (fun cs (c, j) => cs.setIfInBounds (o + j) c) cs = spl cs (o + i) vs := by
    intro vs
    induction vs with
    | nil => intro i cs; rfl
    | cons x r ih => intro i cs; simp only [List.zipIdx_cons, List.foldl_cons, ih (i + 1), spl]; rfl
  have h := key v.toList 0 cells
  rw [Nat.add_zero] at h
  rw [← h, ← Array.foldl_toList, Array.toList_zipIdx]
theorem fill_flt {place : Nat → Option (Nat × Nat)} {pre post : List (Array Value)} {c : Array Value} {i o m : Nat} {v : Value} {rest : List (Nat × Value)} (hp : place i = some (o, m)) (ho : o = szs pre) (hm : m = c.size) (hv : v.cells.size = c.size) :
    Instr.fill place (flt (pre ++ c :: post)) ((i, v) :: rest) = Instr.fill place (flt (pre ++ v.cells :: post)) rest := by
  have hs : (flt (pre ++ c :: post)).size = szs pre + (c.size + szs post) := by rw [flt_size, szs_app]; rfl
  rw [Instr.fill]
  simp only [hp]
  rw [if_neg (by simp only [ne_eq, Bool.or_eq_true, decide_eq_true_eq]; omega), fold_spl, flt_spl pre post c v.cells ho hv]
theorem run_lit {P : Program} (t : TypeId) (parts : Array (Nat × Value)) (z cells : Array Value) (places : List (Nat × Nat))
    (hz : (P.info? t).map (·.zero) = some (some (.agg z))) (hp : (P.underlying t).bind (fun d => match d with | .struct fs => fs.toList.mapM (fun f => (P.info? f.type).map fun i => (f.offset, i.size)) | _ => none) = some places)
    (hf : Instr.fill (places.toArray[·]?) z parts.toList = some cells) (w : World) : (Instr.build t parts).run P w = .ok (.agg cells) w := by
  refine run_build w t parts cells ?_
  unfold Program.built
  cases hq : P.info? t with
  | none => rw [hq] at hz; cases hz
  | some it =>
    cases hu : P.underlying t with
    | none => rw [hu] at hp; cases hp
    | some d =>
      rw [hu] at hp
      rw [hq] at hz
      have hz' : it.zero = some (.agg z) := Option.some.inj hz
      cases d <;> first | (simp at hp; done) | skip
      rename_i fs
      have hp' : fs.toList.mapM (fun f => (P.info? f.type).map fun i => (f.offset, i.size)) = some places := hp
      simp only [hz', hp']
      exact hf
/-- a struct's literal keeps its name till its parts are known -/
def bdA (t : TypeId) (parts : Array (Nat × Value)) : Sem Value := Instr.build t parts
end Go.Proofs.Ythokiohdeclmhaa.Oct
