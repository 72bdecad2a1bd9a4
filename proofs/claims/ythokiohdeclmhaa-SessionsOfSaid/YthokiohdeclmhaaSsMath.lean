/- sessions: what the document says, over lists of sessions in the order of their numbers. Of whatever program. -/
import Derived.Test.YthokiohdeclmhaaLib
namespace Go.Proofs.Ythokiohdeclmhaa.Oct
set_option linter.unusedVariables false

/-- a session: its number, its last request, and the reply to it (code, n, m, bytes) -/
structure Se where
  id : Int
  q : Int
  c : Int
  n : Int
  m : Int
  T : Nat
  f : Bf
def Se.new (id : Int) : Se := ⟨id, 0, 0, 0, 0, 0, fun _ => 0#8⟩
/-- whether there is such a session; it -/
def ssH (l : List Se) (id : Int) : Bool := l.any fun s => s.id == id
def ssG (l : List Se) (id : Int) : Option Se := l.find? fun s => s.id == id
/-- without it; with it in another's place -/
def ssX (l : List Se) (id : Int) : List Se := l.filter fun s => !(s.id == id)
def ssD (l : List Se) (x : Se) : List Se := l.map fun s => if s.id == x.id then x else s
/-- in the order of the numbers, which were given, and at most eight -/
structure SsOk (l : List Se) (g : Int) : Prop where
  up : l.Pairwise fun a b => a.id < b.id
  bd : ∀ s ∈ l, 1 ≤ s.id ∧ s.id ≤ g
  n : l.length ≤ 8
  g0 : 0 ≤ g
  g1 : g < 1099511627776
  t : ∀ s ∈ l, s.T ≤ 140737488355328
theorem ssH_G (l : List Se) (id : Int) : ssH l id = (ssG l id).isSome := by
  unfold ssH ssG
  rw [Bool.eq_iff_iff, List.any_eq_true, Option.isSome_iff_exists]
  constructor
  · rintro ⟨s, hs, hi⟩
    cases e : l.find? fun s => s.id == id with
    | some y => exact ⟨y, rfl⟩
    | none => exact absurd hi (List.find?_eq_none.1 e s hs)
  · rintro ⟨s, hs⟩
    exact ⟨s, List.mem_of_find?_eq_some hs, List.find?_some (p := fun s : Se => s.id == id) hs⟩
theorem ssG_some {l : List Se} {id : Int} {s : Se} (h : ssG l id = some s) : s ∈ l ∧ s.id = id :=
  ⟨List.mem_of_find?_eq_some h, by have := List.find?_some (p := fun s : Se => s.id == id) h; simpa using this⟩
theorem ssG_none {l : List Se} {id : Int} (h : ssG l id = none) : ∀ s ∈ l, s.id ≠ id := fun s hs e => by
  have := List.find?_eq_none.1 h s hs
  simp at this
  exact this e
theorem ssG_mem {l : List Se} (h : l.Pairwise fun a b => a.id < b.id) {s : Se} (hs : s ∈ l) : ssG l s.id = some s := by
  induction l with
  | nil => cases hs
  | cons a r ih =>
    obtain ⟨h1, h2⟩ := List.pairwise_cons.1 h
    unfold ssG
    rw [List.find?_cons]
    rcases List.mem_cons.1 hs with rfl | hr
    · simp
    · have := h1 s hr
      rw [show (a.id == s.id) = false by simp; omega]
      exact ih h2 hr
theorem SsOk.nil : SsOk [] 0 := ⟨List.Pairwise.nil, fun s hs => absurd hs List.not_mem_nil, Nat.zero_le _, by omega, by omega, fun s hs => absurd hs List.not_mem_nil⟩
theorem SsOk.open_ {l : List Se} {g : Int} (h : SsOk l g) (hn : l.length ≠ 8) (hg : g + 1 ≠ 1099511627776) : SsOk (l ++ [Se.new (g + 1)]) (g + 1) := by
  have := h.n; have := h.g0; have := h.g1
  refine ⟨List.pairwise_append.2 ⟨h.up, List.pairwise_singleton _ _, fun a ha b hb => ?_⟩, fun s hs => ?_, ?_, by omega, by omega, fun s hs => ?_⟩
  · rw [List.mem_singleton] at hb
    subst hb
    have := (h.bd a ha).2
    show a.id < g + 1
    omega
  · rcases List.mem_append.1 hs with h1 | h1
    · have := h.bd s h1; omega
    · rw [List.mem_singleton] at h1
      subst h1
      show 1 ≤ g + 1 ∧ g + 1 ≤ g + 1
      omega
  · rw [List.length_append, List.length_singleton]; omega
  · rcases List.mem_append.1 hs with h1 | h1
    · exact h.t s h1
    · rw [List.mem_singleton] at h1
      subst h1
      exact Nat.zero_le _
theorem SsOk.drop {l : List Se} {g : Int} (h : SsOk l g) (id : Int) : SsOk (ssX l id) g :=
  ⟨h.up.filter _, fun s hs => h.bd s (List.mem_filter.1 hs).1, Nat.le_trans (List.length_filter_le _ _) h.n, h.g0, h.g1, fun s hs => h.t s (List.mem_filter.1 hs).1⟩
theorem ssD_len (l : List Se) (x : Se) : (ssD l x).length = l.length := List.length_map ..
theorem ssD_ids (l : List Se) (x : Se) : (ssD l x).map Se.id = l.map Se.id := by
  unfold ssD
  rw [List.map_map]
  refine List.map_congr_left fun s _ => ?_
  show (if s.id == x.id then x else s).id = s.id
  by_cases h : s.id = x.id
  · rw [if_pos (by simpa using h)]; exact h.symm
  · rw [if_neg (by simpa using h)]
theorem ssD_mem {l : List Se} {x s : Se} (h : s ∈ ssD l x) : s = x ∨ (s ∈ l ∧ s.id ≠ x.id) := by
  obtain ⟨a, ha, rfl⟩ := List.mem_map.1 h
  show (if a.id == x.id then x else a) = x ∨ _
  by_cases h : a.id = x.id
  · rw [if_pos (by simpa using h)]; exact .inl rfl
  · rw [if_neg (by simpa using h)]; exact .inr ⟨ha, h⟩
theorem SsOk.done {l : List Se} {g : Int} (h : SsOk l g) (x : Se) (hx : ssH l x.id = true) (hT : x.T ≤ 140737488355328) : SsOk (ssD l x) g := by
  refine ⟨?_, fun s hs => ?_, by rw [ssD_len]; exact h.n, h.g0, h.g1, fun s hs => by
    rcases ssD_mem hs with rfl | ⟨h1, _⟩
    · exact hT
    · exact h.t s h1⟩
  · have h1 : (l.map Se.id).Pairwise (· < ·) := List.pairwise_map.2 h.up
    rw [← ssD_ids l x] at h1
    exact List.pairwise_map.1 h1
  · rcases ssD_mem hs with rfl | ⟨h1, _⟩
    · unfold ssH at hx
      obtain ⟨a, ha, hi⟩ := List.any_eq_true.1 hx
      have e : a.id = s.id := by simpa using hi
      have := h.bd a ha
      omega
    · exact h.bd s h1
theorem ssH_app (l : List Se) (x : Se) (id : Int) : ssH (l ++ [x]) id = (ssH l id || x.id == id) := by unfold ssH; simp
theorem ssH_X (l : List Se) (i id : Int) : ssH (ssX l i) id = (ssH l id && !(id == i)) := by
  unfold ssH ssX
  rw [Bool.eq_iff_iff, List.any_eq_true, Bool.and_eq_true, List.any_eq_true]
  constructor
  · rintro ⟨s, hs, hi⟩
    obtain ⟨h1, h2⟩ := List.mem_filter.1 hs
    have e : s.id = id := by simpa using hi
    exact ⟨⟨s, h1, hi⟩, by rw [← e]; exact h2⟩
  · rintro ⟨⟨s, hs, hi⟩, h2⟩
    have e : s.id = id := by simpa using hi
    exact ⟨s, List.mem_filter.2 ⟨hs, by rw [e]; exact h2⟩, hi⟩
theorem ssH_D (l : List Se) (x : Se) (hx : ssH l x.id = true) (id : Int) : ssH (ssD l x) id = ssH l id := by
  have e (l : List Se) : ssH l id = (l.map Se.id).any (· == id) := by unfold ssH; rw [List.any_map]; rfl
  rw [e, e, ssD_ids]
/-- no session has a number that was not given -/
theorem SsOk.not {l : List Se} {g id : Int} (h : SsOk l g) (hi : id < 1 ∨ g < id) : ssH l id = false := by
  rw [← Bool.not_eq_true]
  intro e
  unfold ssH at e
  obtain ⟨a, ha, h1⟩ := List.any_eq_true.1 e
  have e : a.id = id := by simpa using h1
  have := h.bd a ha
  omega
/-! what each call answers, and leaves -/
def opF (l : List Se) (g : Int) : Bool := decide (l.length = 8) || decide (g + 1 = 1099511627776)
def opN (l : List Se) (g : Int) : Int := if opF l g then 0 else g + 1
def opE (l : List Se) (g : Int) : Int := if opF l g then 134 else 0
def opL (l : List Se) (g : Int) : List Se := if opF l g then l else l ++ [Se.new (g + 1)]
def opG (l : List Se) (g : Int) : Int := if opF l g then g else g + 1
def exE (l : List Se) (id : Int) : Int := if ssH l id then 0 else 150
def akE (l : List Se) (id q : Int) : Int := match ssG l id with
  | none => 150
  | some s => if q < s.q ∨ q < 1 then 151 else 0
def akB (l : List Se) (id q : Int) : Bool := match ssG l id with
  | none => false
  | some s => decide (¬ (q < s.q ∨ q < 1) ∧ q = s.q)
def akS (l : List Se) (id q : Int) : Se := match ssG l id with
  | none => .new 0
  | some s => if ¬ (q < s.q ∨ q < 1) ∧ q = s.q then s else .new 0
def dnE (l : List Se) (id q : Int) : Int := match ssG l id with
  | none => 150
  | some s => if q ≤ s.q then 151 else 0
def dnL (l : List Se) (x : Se) : List Se := if dnE l x.id x.q = 0 then ssD l x else l
theorem SsOk.opn {l : List Se} {g : Int} (h : SsOk l g) : SsOk (opL l g) (opG l g) := by
  unfold opL opG
  cases e : opF l g with
  | true => exact h
  | false =>
    unfold opF at e
    rw [Bool.or_eq_false_iff] at e
    exact h.open_ (of_decide_eq_false e.1) (of_decide_eq_false e.2)
theorem ssX_none {l : List Se} {id : Int} (h : ssH l id = false) : ssX l id = l := by
  unfold ssX
  rw [List.filter_eq_self]
  intro s hs
  rw [← Bool.not_eq_true] at h
  unfold ssH at h
  rw [List.any_eq_true] at h
  cases e : s.id == id with
  | true => exact absurd ⟨s, hs, e⟩ h
  | false => rfl
theorem dn_there {l : List Se} {id q : Int} (h : dnE l id q = 0) : ∃ s, ssG l id = some s ∧ s.q < q ∧ ssH l id = true := by
  unfold dnE at h
  cases e : ssG l id with
  | none => rw [e] at h; simp at h
  | some s =>
    rw [e] at h
    by_cases hq : q ≤ s.q
    · simp [hq] at h
    · exact ⟨s, rfl, by omega, by rw [ssH_G, e]; rfl⟩
theorem SsOk.dn {l : List Se} {g : Int} (h : SsOk l g) (x : Se) (hT : x.T ≤ 140737488355328) : SsOk (dnL l x) g := by
  unfold dnL
  by_cases e : dnE l x.id x.q = 0
  · rw [if_pos e]
    obtain ⟨s, -, -, hh⟩ := dn_there e
    exact h.done x hh hT
  · rw [if_neg e]; exact h
theorem ssG_app {l : List Se} {x s : Se} {j : Int} (hx : ssH l x.id = false) (h : ssG (l ++ [x]) j = some s) : (j = x.id ∧ s = x) ∨ (j ≠ x.id ∧ ssG l j = some s) := by
  unfold ssG at h ⊢
  rw [List.find?_append] at h
  cases e : l.find? fun s => s.id == j with
  | some y =>
    rw [e] at h
    have hy : ssH l j = true := by rw [ssH_G]; unfold ssG; rw [e]; rfl
    exact .inr ⟨fun e' => (by rw [e', hx] at hy; cases hy), h⟩
  | none =>
    rw [e] at h
    have h : List.find? (fun s : Se => s.id == j) [x] = some s := h
    rw [List.find?_cons] at h
    cases e2 : x.id == j with
    | true =>
      rw [e2] at h
      have e3 : x.id = j := by simpa using e2
      exact .inl ⟨e3.symm, (Option.some.inj h).symm⟩
    | false => rw [e2] at h; simp at h
theorem ssG_D {l : List Se} {x s : Se} {j : Int} (h : ssG (ssD l x) j = some s) : (j = x.id ∧ s = x) ∨ (j ≠ x.id ∧ ssG l j = some s) := by
  unfold ssD ssG at h
  unfold ssG
  rw [List.find?_map] at h
  obtain ⟨a, ha, rfl⟩ := Option.map_eq_some_iff.1 h
  have hp : (fun s : Se => s.id == j) ∘ (fun s : Se => if s.id == x.id then x else s) = fun s => s.id == j := by
    funext b
    show ((if b.id == x.id then x else b).id == j) = (b.id == j)
    by_cases hb : b.id = x.id
    · rw [if_pos (by simpa using hb), hb]
    · rw [if_neg (by simpa using hb)]
  rw [hp] at ha
  have hj : a.id = j := by have := List.find?_some ha; simpa using this
  by_cases ha2 : a.id = x.id
  · exact .inl ⟨by rw [← hj]; exact ha2, by rw [if_pos (by simpa using ha2)]⟩
  · exact .inr ⟨by rw [← hj]; exact ha2, by rw [if_neg (by simpa using ha2)]; exact ha⟩
end Go.Proofs.Ythokiohdeclmhaa.Oct
