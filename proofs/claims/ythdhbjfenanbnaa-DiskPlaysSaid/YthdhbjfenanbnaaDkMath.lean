/- disk: files, what was done to them since they were made sure, the power. Of whatever program. -/
import Derived.Test.YthdhbjfenanbnaaLib
namespace Go.Proofs.Ythdhbjfenanbnaa.Oct
set_option linter.unusedVariables false

/-- bytes -/
abbrev By := List (BitVec 8)
/-- the bytes of a list by their places -/
def lf (l : By) : Bf := fun i => l.getD i 0#8
theorem lf_app (a b : By) (i : Nat) : lf (a ++ b) i = catF a.length (lf a) (lf b) i := by
  unfold lf catF
  by_cases h : i < a.length
  · rw [if_pos h]; simp only [List.getD_eq_getElem?_getD, List.getElem?_append_left h]
  · rw [if_neg h]; simp only [List.getD_eq_getElem?_getD, List.getElem?_append_right (Nat.le_of_not_lt h)]
theorem lf_take (a : By) (k i : Nat) (h : i < k) : lf (a.take k) i = lf a i := by
  unfold lf
  simp only [List.getD_eq_getElem?_getD, List.getElem?_take, if_pos h]
theorem lf_inj {a b : By} (h : a.length = b.length) (e : ∀ i, i < a.length → lf a i = lf b i) : a = b := by
  apply List.ext_getElem h
  intro i h1 h2
  have := e i h1
  unfold lf at this
  simpa [List.getD_eq_getElem?_getD, h1, h2] using this
/-- bytes as a list -/
def bl (n : Nat) (f : Bf) : By := (List.range n).map f
@[simp] theorem bl_len (n : Nat) (f : Bf) : (bl n f).length = n := by simp [bl]
theorem lf_bl (n : Nat) (f : Bf) (i : Nat) (h : i < n) : lf (bl n f) i = f i := by
  unfold lf bl
  simp [List.getD_eq_getElem?_getD, h]
/-- what is done: the first k bytes are kept, and b laid behind -/
structure Ch where
  cut : Bool
  k : Nat
  b : By
def Ch.on (s : By) (x : Ch) : By := s.take x.k ++ x.b
def has (s : By) (l : List Ch) : By := l.foldl Ch.on s
@[irreducible] def maxF : Nat := 1048576
theorem maxF_eq : maxF = 1048576 := by unfold maxF; rfl
/-- what may be done to s: an Append keeps all, a Cut lays none -/
def Ch.fit (s : By) (x : Ch) : Prop := (x.cut = true → x.k ≤ s.length ∧ x.b = []) ∧ (x.cut = false → x.k = s.length)
theorem Ch.fit.le {s : By} {x : Ch} (h : x.fit s) : x.k ≤ s.length := by
  rcases hc : x.cut with _ | _
  · exact Nat.le_of_eq (h.2 hc)
  · exact (h.1 hc).1
theorem Ch.on_len {s : By} {x : Ch} (h : x.fit s) : (x.on s).length = x.k + x.b.length := by
  unfold Ch.on
  rw [List.length_append, List.length_take, Nat.min_eq_left h.le]
/-- a row of such, each of which may be done to what there is -/
def Okc : By → List Ch → Prop
  | s, [] => s.length ≤ maxF
  | s, x :: l => s.length ≤ maxF ∧ x.fit s ∧ Okc (x.on s) l
theorem has_app (s : By) (l m : List Ch) : has s (l ++ m) = has (has s l) m := by unfold has; rw [List.foldl_append]
theorem has_snoc (s : By) (l : List Ch) (x : Ch) : has s (l ++ [x]) = x.on (has s l) := by rw [has_app]; rfl
theorem Okc.first {s : By} {l : List Ch} (h : Okc s l) : s.length ≤ maxF := by cases l with | nil => exact h | cons x r => exact h.1
theorem Okc.app {s : By} {l m : List Ch} : Okc s (l ++ m) ↔ Okc s l ∧ Okc (has s l) m := by
  induction l generalizing s with
  | nil => exact ⟨fun h => ⟨Okc.first h, h⟩, fun h => h.2⟩
  | cons x r ih =>
    show (s.length ≤ maxF ∧ x.fit s ∧ Okc (x.on s) (r ++ m)) ↔ (s.length ≤ maxF ∧ x.fit s ∧ Okc (x.on s) r) ∧ Okc (has (x.on s) r) m
    rw [ih]
    constructor
    · rintro ⟨a, b, c, d⟩; exact ⟨⟨a, b, c⟩, d⟩
    · rintro ⟨⟨a, b, c⟩, d⟩; exact ⟨a, b, c, d⟩
theorem Okc.take {s : By} {l : List Ch} (h : Okc s l) (k : Nat) : Okc s (l.take k) := by
  rw [← List.take_append_drop k l] at h
  exact (Okc.app.1 h).1
theorem Okc.len {s : By} {l : List Ch} (h : Okc s l) : (has s l).length ≤ maxF := by
  have : Okc s (l ++ []) := by rw [List.append_nil]; exact h
  exact (Okc.app.1 this).2
theorem Okc.snoc {s : By} {l : List Ch} {x : Ch} (h : Okc s l) (hf : x.fit (has s l)) (hl : x.k + x.b.length ≤ maxF) : Okc s (l ++ [x]) :=
  Okc.app.2 ⟨h, h.len, hf, by show (x.on (has s l)).length ≤ maxF; rw [Ch.on_len hf]; exact hl⟩
theorem take_step (l : List Ch) (i : Nat) (h : i < l.length) : l.take (i + 1) = l.take i ++ [l[i]] := by rw [List.take_succ_eq_append_getElem h]
theorem has_step (s : By) (l : List Ch) (i : Nat) (h : i < l.length) : has s (l.take (i + 1)) = (l[i]).on (has s (l.take i)) := by rw [take_step l i h, has_snoc]
theorem Okc.at_ {s : By} {l : List Ch} (h : Okc s l) (i : Nat) (hi : i < l.length) : (l[i]).fit (has s (l.take i)) ∧ (l[i]).k + (l[i]).b.length ≤ maxF := by
  have h1 := h.take (i + 1)
  rw [take_step l i hi] at h1
  have h2 := (Okc.app.1 h1).2
  refine ⟨h2.2.1, ?_⟩
  rw [← Ch.on_len h2.2.1]
  exact h2.2.2
/-- how long it is: as the last one says -/
theorem has_len {s : By} {l : List Ch} (h : Okc s l) (i : Nat) (hi : i + 1 = l.length) : (has s l).length = (l[i]'(by omega)).k + (l[i]'(by omega)).b.length := by
  have h1 := h.at_ i (by omega)
  rw [← Ch.on_len h1.1, ← has_step s l i (by omega), hi, List.take_length]

/-- its last byte is damaged -/
def flp (b : By) (v : Nat) : By := b.set (b.length - 1) (lf b (b.length - 1) ^^^ BitVec.ofNat 8 v)
theorem flp_nil (v : Nat) : flp [] v = [] := rfl
theorem flp_len (b : By) (v : Nat) : (flp b v).length = b.length := by simp [flp]
/-- what is left of the first that is lost -/
def torn (l : List Ch) (k p v : Nat) : By := match l[k]? with | none => [] | some x => flp (x.b.take (p % (x.b.length + 1))) v
structure Fl where
  s : By
  l : List Ch
def Fl.all (x : Fl) : By := has x.s x.l
def Fl.boot (x : Fl) (a p v : Nat) : Fl := ⟨has x.s (x.l.take (a % (x.l.length + 1))) ++ torn x.l (a % (x.l.length + 1)) p v, []⟩
def Fl.ok (x : Fl) : Prop := Okc x.s x.l
theorem torn_len (l : List Ch) (k p v : Nat) : (torn l k p v).length ≤ match l[k]? with | none => 0 | some x => x.b.length := by
  unfold torn
  split
  · simp
  · rw [flp_len, List.length_take]; omega
theorem Fl.ok.boot_len {x : Fl} (h : x.ok) (a p v : Nat) : (x.boot a p v).s.length ≤ maxF := by
  show (has x.s (x.l.take (a % (x.l.length + 1))) ++ torn x.l (a % (x.l.length + 1)) p v).length ≤ maxF
  obtain ⟨k, hk⟩ : ∃ k, k = a % (x.l.length + 1) := ⟨_, rfl⟩
  rw [← hk, List.length_append]
  have h1 := torn_len x.l k p v
  have h3 := (Okc.take h k).len
  by_cases hlt : k < x.l.length
  · rw [List.getElem?_eq_getElem hlt] at h1
    obtain ⟨h4, h5⟩ := Okc.at_ h k hlt
    have h6 : (torn x.l k p v).length ≤ (x.l[k]).b.length := h1
    rcases hc : (x.l[k]).cut with _ | _
    · have := h4.2 hc
      omega
    · have := (h4.1 hc).2
      rw [this] at h6
      simp at h6
      rw [h6]
      simpa using h3
  · rw [List.getElem?_eq_none (by omega)] at h1
    have h6 : (torn x.l k p v).length ≤ 0 := h1
    omega
theorem Fl.ok.boot {x : Fl} (h : x.ok) (a p v : Nat) : (x.boot a p v).ok := h.boot_len a p v
theorem Fl.all_boot (x : Fl) (a p v : Nat) : (x.boot a p v).all = (x.boot a p v).s := rfl

/-- four files, how many steps, whether the power is off, how many steps are left -/
structure Dk where
  f : Nat → Fl
  n : Nat
  off : Bool
  u : Option Nat
def newD : Dk := ⟨fun _ => ⟨[], []⟩, 0, false, none⟩
/-- no power -/
def Dk.dead (d : Dk) : Prop := d.off = true ∨ d.u = some 0
instance (d : Dk) : Decidable d.dead := inferInstanceAs (Decidable (_ ∨ _))
def updD (g : Nat → Fl) (i : Nat) (x : Fl) : Nat → Fl := fun j => if j = i then x else g j
theorem updD_same (g : Nat → Fl) (i : Nat) (x : Fl) : updD g i x i = x := by simp [updD]
theorem updD_other (g : Nat → Fl) {i j : Nat} (x : Fl) (h : j ≠ i) : updD g i x j = g j := by simp [updD, h]
/-- the power goes off -/
def Dk.dark (d : Dk) : Dk := { d with off := true }
/-- a step that was done: file i is now x -/
def Dk.done (d : Dk) (i : Nat) (x : Fl) : Dk := { d with f := updD d.f i x, n := d.n + 1, u := d.u.map (· - 1) }
def Fl.app (x : Fl) (b : By) : Fl := ⟨x.s, x.l ++ [⟨false, x.all.length, b⟩]⟩
def Fl.cut (x : Fl) (k : Nat) : Fl := ⟨x.s, x.l ++ [⟨true, k, []⟩]⟩
def Fl.sync (x : Fl) : Fl := ⟨x.all, []⟩
theorem Fl.ok.app {x : Fl} (h : x.ok) (b : By) (hl : x.all.length + b.length ≤ maxF) : (x.app b).ok := Okc.snoc h ⟨fun e => (by cases e), fun _ => rfl⟩ hl
theorem Fl.ok.cut {x : Fl} (h : x.ok) (k : Nat) (hk : k ≤ x.all.length) : (x.cut k).ok := Okc.snoc h ⟨fun _ => ⟨hk, rfl⟩, fun e => (by cases e)⟩ (by
  have : x.all.length ≤ maxF := Okc.len h
  simp
  omega)
theorem Fl.ok.sync {x : Fl} (h : x.ok) : (x.sync).ok := Okc.len h
theorem Fl.all_app (x : Fl) (b : By) : (x.app b).all = x.all ++ b := by
  show has x.s (x.l ++ [_]) = _
  rw [has_snoc]
  show x.all.take x.all.length ++ b = _
  rw [List.take_length]
theorem Fl.all_cut (x : Fl) (k : Nat) : (x.cut k).all = x.all.take k := by
  show has x.s (x.l ++ [_]) = _
  rw [has_snoc]
  show x.all.take k ++ [] = _
  rw [List.append_nil]
theorem Fl.all_sync (x : Fl) : (x.sync).all = x.all := rfl
/-- the number of keep at a place -/
def pck (kp : Nat → Int) (n i : Nat) : Nat := if n ≤ i then 0 else if kp i < 0 then (-(kp i + 1)).toNat else (kp i).toNat
def Dk.boot (d : Dk) (g : Nat → Nat) : Dk := { d with f := fun i => (d.f i).boot (g i) (g (4 + i)) (g (8 + i)), off := false, u := none }
def Dk.fuse (d : Dk) (n : Int) : Dk := { d with u := if n < 0 then none else some n.toNat }
/-- Append to a file that there is: what it answers, and what is then -/
def Dk.app (d : Dk) (i : Nat) (b : By) : Nat × Dk := if d.dead then (5, d.dark) else if maxF < (d.f i).all.length + b.length then (2, d) else (0, d.done i ((d.f i).app b))
def Dk.cut (d : Dk) (i : Nat) (k : Int) : Nat × Dk := if k < 0 ∨ ((d.f i).all.length : Int) < k then (1, d) else if d.dead then (5, d.dark) else (0, d.done i ((d.f i).cut k.toNat))
def Dk.sync (d : Dk) (i : Nat) : Nat × Dk := if d.dead then (5, d.dark) else (0, d.done i (d.f i).sync)
/-- of whatever number of a file -/
def onF (f : Int) (d : Dk) (g : Nat → Nat × Dk) : Nat × Dk := if 0 ≤ f ∧ f < 4 then g f.toNat else (1, d)
/-- each is in order, and not more is pending than was done -/
structure Dk.ok (d : Dk) : Prop where
  ok : ∀ i, i < 4 → (d.f i).ok
  few : ∀ i, i < 4 → (d.f i).l.length ≤ d.n
theorem Dk.ok.dark {d : Dk} (h : d.ok) : d.dark.ok := ⟨h.1, h.2⟩
theorem Dk.ok.fuse {d : Dk} (h : d.ok) (n : Int) : (d.fuse n).ok := ⟨h.1, h.2⟩
theorem Dk.ok.boot {d : Dk} (h : d.ok) (g : Nat → Nat) : (d.boot g).ok := ⟨fun i hi => (h.1 i hi).boot _ _ _, fun i hi => Nat.zero_le _⟩
theorem Dk.ok.done {d : Dk} (h : d.ok) {i : Nat} {x : Fl} (hx : x.ok) (hl : x.l.length ≤ (d.f i).l.length + 1) (hi : i < 4) : (d.done i x).ok :=
  ⟨fun j hj => by
    show (updD d.f i x j).ok
    by_cases e : j = i
    · subst e; rw [updD_same]; exact hx
    · rw [updD_other _ _ e]; exact h.1 j hj, fun j hj => by
    show (updD d.f i x j).l.length ≤ d.n + 1
    by_cases e : j = i
    · subst e; rw [updD_same]; have := h.2 j hj; omega
    · rw [updD_other _ _ e]; have := h.2 j hj; omega⟩
theorem Dk.ok.new : newD.ok := ⟨fun i hi => by show Okc [] []; show ([] : By).length ≤ maxF; simp, fun i hi => by simp [newD]⟩
theorem Dk.ok.app {d : Dk} (h : d.ok) {i : Nat} (hi : i < 4) (b : By) : (d.app i b).2.ok := by
  unfold Dk.app
  split
  · exact h.dark
  · split
    · exact h
    · rename_i hl
      exact h.done ((h.1 i hi).app b (by omega)) (by simp [Fl.app]) hi
theorem Dk.ok.cut {d : Dk} (h : d.ok) {i : Nat} (hi : i < 4) (k : Int) : (d.cut i k).2.ok := by
  unfold Dk.cut
  split
  · exact h
  · split
    · exact h.dark
    · rename_i hl _
      exact h.done ((h.1 i hi).cut k.toNat (by omega)) (by simp [Fl.cut]) hi
theorem Dk.ok.sync {d : Dk} (h : d.ok) {i : Nat} (hi : i < 4) : (d.sync i).2.ok := by
  unfold Dk.sync
  split
  · exact h.dark
  · exact h.done (h.1 i hi).sync (by simp [Fl.sync]) hi
theorem onF_ok {f : Int} {d : Dk} {g : Nat → Nat × Dk} (h : d.ok) (hg : ∀ i, i < 4 → (g i).2.ok) : (onF f d g).2.ok := by
  unfold onF
  split
  · rename_i hf; exact hg _ (by omega)
  · exact h
theorem app_steps (d : Dk) (i : Nat) (b : By) : (d.app i b).2.n ≤ d.n + 1 := by
  unfold Dk.app
  split
  · exact Nat.le_succ _
  · split
    · exact Nat.le_succ _
    · exact Nat.le_refl _
theorem cut_steps (d : Dk) (i : Nat) (k : Int) : (d.cut i k).2.n ≤ d.n + 1 := by
  unfold Dk.cut
  split
  · exact Nat.le_succ _
  · split
    · exact Nat.le_succ _
    · exact Nat.le_refl _
theorem sync_steps (d : Dk) (i : Nat) : (d.sync i).2.n ≤ d.n + 1 := by
  unfold Dk.sync
  split
  · exact Nat.le_succ _
  · exact Nat.le_refl _
theorem onF_steps {f : Int} {d : Dk} {g : Nat → Nat × Dk} (hg : ∀ i, (g i).2.n ≤ d.n + 1) : (onF f d g).2.n ≤ d.n + 1 := by
  unfold onF
  split
  · exact hg _
  · exact Nat.le_succ _
end Go.Proofs.Ythdhbjfenanbnaa.Oct
