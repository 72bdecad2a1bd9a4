import Derived.Test.YthokiohdeclmhaaLib

/-! ## DkMath -/
/- disk: files, what was done to them since they were made sure, the power. Of whatever program. -/
namespace Go.Proofs.Ythokiohdeclmhaa.Oct
set_option linter.unusedVariables false

/-- bytes -/
abbrev By := List (BitVec 8)
/-- the bytes of a list by their places -/
def lf (l : By) : Bf := fun i => l.getD i 0#8
theorem lf_app (a b : By) (i : Nat) : lf (a ++ b) i = catF a.length (lf a) (lf b) i := by
  unfold lf catF
  by_cases h : i < a.length
  · rw [if_pos h]; simp only [List.getD_eq_getElem?_getD, List.getElem?_append_left h]
  · rw [if_neg h]; simp only [List.getD_eq_getElem?_getD, List.getElem?_append_right (Nat.le_of_not_lt h)]
theorem lf_take (a : By) (k i : Nat) (h : i < k) : lf (a.take k) i = lf a i := by
  unfold lf
  simp only [List.getD_eq_getElem?_getD, List.getElem?_take, if_pos h]
theorem lf_inj {a b : By} (h : a.length = b.length) (e : ∀ i, i < a.length → lf a i = lf b i) : a = b := by
  apply List.ext_getElem h
  intro i h1 h2
  have := e i h1
  unfold lf at this
  simpa [List.getD_eq_getElem?_getD, h1, h2] using this
/-- bytes as a list -/
def bl (n : Nat) (f : Bf) : By := (List.range n).map f
@[simp] theorem bl_len (n : Nat) (f : Bf) : (bl n f).length = n := by simp [bl]
theorem lf_bl (n : Nat) (f : Bf) (i : Nat) (h : i < n) : lf (bl n f) i = f i := by
  unfold lf bl
  simp [List.getD_eq_getElem?_getD, h]
/-- what is done: the first k bytes are kept, and b laid behind -/
structure Ch where
  cut : Bool
  k : Nat
  b : By
def Ch.on (s : By) (x : Ch) : By := s.take x.k ++ x.b
def has (s : By) (l : List Ch) : By := l.foldl Ch.on s
@[irreducible] def maxF : Nat := 1048576
theorem maxF_eq : maxF = 1048576 := by unfold maxF; rfl
/-- what may be done to s: an Append keeps all, a Cut lays none -/
def Ch.fit (s : By) (x : Ch) : Prop := (x.cut = true → x.k ≤ s.length ∧ x.b = []) ∧ (x.cut = false → x.k = s.length)
theorem Ch.fit.le {s : By} {x : Ch} (h : x.fit s) : x.k ≤ s.length := by
  rcases hc : x.cut with _ | _
  · exact Nat.le_of_eq (h.2 hc)
  · exact (h.1 hc).1
theorem Ch.on_len {s : By} {x : Ch} (h : x.fit s) : (x.on s).length = x.k + x.b.length := by
  unfold Ch.on
  rw [List.length_append, List.length_take, Nat.min_eq_left h.le]
/-- a row of such, each of which may be done to what there is -/
def Okc : By → List Ch → Prop
  | s, [] => s.length ≤ maxF
  | s, x :: l => s.length ≤ maxF ∧ x.fit s ∧ Okc (x.on s) l
theorem has_app (s : By) (l m : List Ch) : has s (l ++ m) = has (has s l) m := by unfold has; rw [List.foldl_append]
theorem has_snoc (s : By) (l : List Ch) (x : Ch) : has s (l ++ [x]) = x.on (has s l) := by rw [has_app]; rfl
theorem Okc.first {s : By} {l : List Ch} (h : Okc s l) : s.length ≤ maxF := by cases l with | nil => exact h | cons x r => exact h.1
theorem Okc.app {s : By} {l m : List Ch} : Okc s (l ++ m) ↔ Okc s l ∧ Okc (has s l) m := by
  induction l generalizing s with
  | nil => exact ⟨fun h => ⟨Okc.first h, h⟩, fun h => h.2⟩
  | cons x r ih =>
    show (s.length ≤ maxF ∧ x.fit s ∧ Okc (x.on s) (r ++ m)) ↔ (s.length ≤ maxF ∧ x.fit s ∧ Okc (x.on s) r) ∧ Okc (has (x.on s) r) m
    rw [ih]
    constructor
    · rintro ⟨a, b, c, d⟩; exact ⟨⟨a, b, c⟩, d⟩
    · rintro ⟨⟨a, b, c⟩, d⟩; exact ⟨a, b, c, d⟩
theorem Okc.take {s : By} {l : List Ch} (h : Okc s l) (k : Nat) : Okc s (l.take k) := by
  rw [← List.take_append_drop k l] at h
  exact (Okc.app.1 h).1
theorem Okc.len {s : By} {l : List Ch} (h : Okc s l) : (has s l).length ≤ maxF := by
  have : Okc s (l ++ []) := by rw [List.append_nil]; exact h
  exact (Okc.app.1 this).2
theorem Okc.snoc {s : By} {l : List Ch} {x : Ch} (h : Okc s l) (hf : x.fit (has s l)) (hl : x.k + x.b.length ≤ maxF) : Okc s (l ++ [x]) :=
  Okc.app.2 ⟨h, h.len, hf, by show (x.on (has s l)).length ≤ maxF; rw [Ch.on_len hf]; exact hl⟩
theorem take_step (l : List Ch) (i : Nat) (h : i < l.length) : l.take (i + 1) = l.take i ++ [l[i]] := by rw [List.take_succ_eq_append_getElem h]
theorem has_step (s : By) (l : List Ch) (i : Nat) (h : i < l.length) : has s (l.take (i + 1)) = (l[i]).on (has s (l.take i)) := by rw [take_step l i h, has_snoc]
theorem Okc.at_ {s : By} {l : List Ch} (h : Okc s l) (i : Nat) (hi : i < l.length) : (l[i]).fit (has s (l.take i)) ∧ (l[i]).k + (l[i]).b.length ≤ maxF := by
  have h1 := h.take (i + 1)
  rw [take_step l i hi] at h1
  have h2 := (Okc.app.1 h1).2
  refine ⟨h2.2.1, ?_⟩
  rw [← Ch.on_len h2.2.1]
  exact h2.2.2
/-- how long it is: as the last one says -/
theorem has_len {s : By} {l : List Ch} (h : Okc s l) (i : Nat) (hi : i + 1 = l.length) : (has s l).length = (l[i]'(by omega)).k + (l[i]'(by omega)).b.length := by
  have h1 := h.at_ i (by omega)
  rw [← Ch.on_len h1.1, ← has_step s l i (by omega), hi, List.take_length]

/-- its last byte is damaged -/
def flp (b : By) (v : Nat) : By := b.set (b.length - 1) (lf b (b.length - 1) ^^^ BitVec.ofNat 8 v)
theorem flp_nil (v : Nat) : flp [] v = [] := rfl
theorem flp_len (b : By) (v : Nat) : (flp b v).length = b.length := by simp [flp]
/-- what is left of the first that is lost -/
def torn (l : List Ch) (k p v : Nat) : By := match l[k]? with | none => [] | some x => flp (x.b.take (p % (x.b.length + 1))) v
structure Fl where
  s : By
  l : List Ch
def Fl.all (x : Fl) : By := has x.s x.l
def Fl.boot (x : Fl) (a p v : Nat) : Fl := ⟨has x.s (x.l.take (a % (x.l.length + 1))) ++ torn x.l (a % (x.l.length + 1)) p v, []⟩
def Fl.ok (x : Fl) : Prop := Okc x.s x.l
theorem torn_len (l : List Ch) (k p v : Nat) : (torn l k p v).length ≤ match l[k]? with | none => 0 | some x => x.b.length := by
  unfold torn
  split
  · simp
  · rw [flp_len, List.length_take]; omega
theorem Fl.ok.boot_len {x : Fl} (h : x.ok) (a p v : Nat) : (x.boot a p v).s.length ≤ maxF := by
  show (has x.s (x.l.take (a % (x.l.length + 1))) ++ torn x.l (a % (x.l.length + 1)) p v).length ≤ maxF
  obtain ⟨k, hk⟩ : ∃ k, k = a % (x.l.length + 1) := ⟨_, rfl⟩
  rw [← hk, List.length_append]
  have h1 := torn_len x.l k p v
  have h3 := (Okc.take h k).len
  by_cases hlt : k < x.l.length
  · rw [List.getElem?_eq_getElem hlt] at h1
    obtain ⟨h4, h5⟩ := Okc.at_ h k hlt
    have h6 : (torn x.l k p v).length ≤ (x.l[k]).b.length := h1
    rcases hc : (x.l[k]).cut with _ | _
    · have := h4.2 hc
      omega
    · have := (h4.1 hc).2
      rw [this] at h6
      simp at h6
      rw [h6]
      simpa using h3
  · rw [List.getElem?_eq_none (by omega)] at h1
    have h6 : (torn x.l k p v).length ≤ 0 := h1
    omega
theorem Fl.ok.boot {x : Fl} (h : x.ok) (a p v : Nat) : (x.boot a p v).ok := h.boot_len a p v
theorem Fl.all_boot (x : Fl) (a p v : Nat) : (x.boot a p v).all = (x.boot a p v).s := rfl

/-- four files, how many steps, whether the power is off, how many steps are left -/
structure Dk where
  f : Nat → Fl
  n : Nat
  off : Bool
  u : Option Nat
def newD : Dk := ⟨fun _ => ⟨[], []⟩, 0, false, none⟩
/-- no power -/
def Dk.dead (d : Dk) : Prop := d.off = true ∨ d.u = some 0
instance (d : Dk) : Decidable d.dead := inferInstanceAs (Decidable (_ ∨ _))
def updD (g : Nat → Fl) (i : Nat) (x : Fl) : Nat → Fl := fun j => if j = i then x else g j
theorem updD_same (g : Nat → Fl) (i : Nat) (x : Fl) : updD g i x i = x := by simp [updD]
theorem updD_other (g : Nat → Fl) {i j : Nat} (x : Fl) (h : j ≠ i) : updD g i x j = g j := by simp [updD, h]
/-- the power goes off -/
def Dk.dark (d : Dk) : Dk := { d with off := true }
/-- a step that was done: file i is now x -/
def Dk.done (d : Dk) (i : Nat) (x : Fl) : Dk := { d with f := updD d.f i x, n := d.n + 1, u := d.u.map (· - 1) }
def Fl.app (x : Fl) (b : By) : Fl := ⟨x.s, x.l ++ [⟨false, x.all.length, b⟩]⟩
def Fl.cut (x : Fl) (k : Nat) : Fl := ⟨x.s, x.l ++ [⟨true, k, []⟩]⟩
def Fl.sync (x : Fl) : Fl := ⟨x.all, []⟩
theorem Fl.ok.app {x : Fl} (h : x.ok) (b : By) (hl : x.all.length + b.length ≤ maxF) : (x.app b).ok := Okc.snoc h ⟨fun e => (by cases e), fun _ => rfl⟩ hl
theorem Fl.ok.cut {x : Fl} (h : x.ok) (k : Nat) (hk : k ≤ x.all.length) : (x.cut k).ok := Okc.snoc h ⟨fun _ => ⟨hk, rfl⟩, fun e => (by cases e)⟩ (by
  have : x.all.length ≤ maxF := Okc.len h
  simp
  omega)
theorem Fl.ok.sync {x : Fl} (h : x.ok) : (x.sync).ok := Okc.len h
theorem Fl.all_app (x : Fl) (b : By) : (x.app b).all = x.all ++ b := by
  show has x.s (x.l ++ [_]) = _
  rw [has_snoc]
  show x.all.take x.all.length ++ b = _
  rw [List.take_length]
theorem Fl.all_cut (x : Fl) (k : Nat) : (x.cut k).all = x.all.take k := by
  show has x.s (x.l ++ [_]) = _
  rw [has_snoc]
  show x.all.take k ++ [] = _
  rw [List.append_nil]
theorem Fl.all_sync (x : Fl) : (x.sync).all = x.all := rfl
/-- the number of keep at a place -/
def pck (kp : Nat → Int) (n i : Nat) : Nat := if n ≤ i then 0 else if kp i < 0 then (-(kp i + 1)).toNat else (kp i).toNat
def Dk.boot (d : Dk) (g : Nat → Nat) : Dk := { d with f := fun i => (d.f i).boot (g i) (g (4 + i)) (g (8 + i)), off := false, u := none }
def Dk.fuse (d : Dk) (n : Int) : Dk := { d with u := if n < 0 then none else some n.toNat }
/-- Append to a file that there is: what it answers, and what is then -/
def Dk.app (d : Dk) (i : Nat) (b : By) : Nat × Dk := if d.dead then (5, d.dark) else if maxF < (d.f i).all.length + b.length then (2, d) else (0, d.done i ((d.f i).app b))
def Dk.cut (d : Dk) (i : Nat) (k : Int) : Nat × Dk := if k < 0 ∨ ((d.f i).all.length : Int) < k then (1, d) else if d.dead then (5, d.dark) else (0, d.done i ((d.f i).cut k.toNat))
def Dk.sync (d : Dk) (i : Nat) : Nat × Dk := if d.dead then (5, d.dark) else (0, d.done i (d.f i).sync)
/-- of whatever number of a file -/
def onF (f : Int) (d : Dk) (g : Nat → Nat × Dk) : Nat × Dk := if 0 ≤ f ∧ f < 4 then g f.toNat else (1, d)
/-- each is in order, and not more is pending than was done -/
structure Dk.ok (d : Dk) : Prop where
  ok : ∀ i, i < 4 → (d.f i).ok
  few : ∀ i, i < 4 → (d.f i).l.length ≤ d.n
theorem Dk.ok.dark {d : Dk} (h : d.ok) : d.dark.ok := ⟨h.1, h.2⟩
theorem Dk.ok.fuse {d : Dk} (h : d.ok) (n : Int) : (d.fuse n).ok := ⟨h.1, h.2⟩
theorem Dk.ok.boot {d : Dk} (h : d.ok) (g : Nat → Nat) : (d.boot g).ok := ⟨fun i hi => (h.1 i hi).boot _ _ _, fun i hi => Nat.zero_le _⟩
theorem Dk.ok.done {d : Dk} (h : d.ok) {i : Nat} {x : Fl} (hx : x.ok) (hl : x.l.length ≤ (d.f i).l.length + 1) (hi : i < 4) : (d.done i x).ok :=
  ⟨fun j hj => by
    show (updD d.f i x j).ok
    by_cases e : j = i
    · subst e; rw [updD_same]; exact hx
    · rw [updD_other _ _ e]; exact h.1 j hj, fun j hj => by
    show (updD d.f i x j).l.length ≤ d.n + 1
    by_cases e : j = i
    · subst e; rw [updD_same]; have := h.2 j hj; omega
    · rw [updD_other _ _ e]; have := h.2 j hj; omega⟩
theorem Dk.ok.new : newD.ok := ⟨fun i hi => by show Okc [] []; show ([] : By).length ≤ maxF; simp, fun i hi => by simp [newD]⟩
theorem Dk.ok.app {d : Dk} (h : d.ok) {i : Nat} (hi : i < 4) (b : By) : (d.app i b).2.ok := by
  unfold Dk.app
  split
  · exact h.dark
  · split
    · exact h
    · rename_i hl
      exact h.done ((h.1 i hi).app b (by omega)) (by simp [Fl.app]) hi
theorem Dk.ok.cut {d : Dk} (h : d.ok) {i : Nat} (hi : i < 4) (k : Int) : (d.cut i k).2.ok := by
  unfold Dk.cut
  split
  · exact h
  · split
    · exact h.dark
    · rename_i hl _
      exact h.done ((h.1 i hi).cut k.toNat (by omega)) (by simp [Fl.cut]) hi
theorem Dk.ok.sync {d : Dk} (h : d.ok) {i : Nat} (hi : i < 4) : (d.sync i).2.ok := by
  unfold Dk.sync
  split
  · exact h.dark
  · exact h.done (h.1 i hi).sync (by simp [Fl.sync]) hi
theorem onF_ok {f : Int} {d : Dk} {g : Nat → Nat × Dk} (h : d.ok) (hg : ∀ i, i < 4 → (g i).2.ok) : (onF f d g).2.ok := by
  unfold onF
  split
  · rename_i hf; exact hg _ (by omega)
  · exact h
theorem app_steps (d : Dk) (i : Nat) (b : By) : (d.app i b).2.n ≤ d.n + 1 := by
  unfold Dk.app
  split
  · exact Nat.le_succ _
  · split
    · exact Nat.le_succ _
    · exact Nat.le_refl _
theorem cut_steps (d : Dk) (i : Nat) (k : Int) : (d.cut i k).2.n ≤ d.n + 1 := by
  unfold Dk.cut
  split
  · exact Nat.le_succ _
  · split
    · exact Nat.le_succ _
    · exact Nat.le_refl _
theorem sync_steps (d : Dk) (i : Nat) : (d.sync i).2.n ≤ d.n + 1 := by
  unfold Dk.sync
  split
  · exact Nat.le_succ _
  · exact Nat.le_refl _
theorem onF_steps {f : Int} {d : Dk} {g : Nat → Nat × Dk} (hg : ∀ i, (g i).2.n ≤ d.n + 1) : (onF f d g).2.n ≤ d.n + 1 := by
  unfold onF
  split
  · exact hg _
  · exact Nat.le_succ _
end Go.Proofs.Ythokiohdeclmhaa.Oct

/-! ## DkT -/
/- Blocks by their marks: which blocks a call may change, whose they are; slices and rows with marks; rows of structs. Of whatever program. -/
namespace Go.Proofs.Ythokiohdeclmhaa.Oct
open Go.RowKit
set_option linter.unusedVariables false

/-- each block has a mark; 0: nobody ever writes it -/
abbrev Mk := Nat → Nat
/-- the blocks that are new, from number n on, get the mark t -/
def paint (T : Mk) (n t : Nat) : Mk := fun k => if k < n then T k else t
theorem paint_old {T : Mk} {n t k : Nat} (h : k < n) : paint T n t k = T k := if_pos h
theorem paint_new {T : Mk} {n t k : Nat} (h : n ≤ k) : paint T n t k = t := if_neg (by omega)
/-- what there was is as it was, but for blocks with a mark of H; and the marks stay -/
structure Fr (T T' : Mk) (H : Nat → Prop) (w w' : World) : Prop where
  os : w'.os = w.os
  tape : w'.tape = w.tape
  output : w'.output = w.output
  size : w.heap.size ≤ w'.heap.size
  keep : ∀ k, k < w.heap.size → ¬ H (T k) → w'.heap[k]? = w.heap[k]?
  tag : ∀ k, k < w.heap.size → T' k = T k
section
variable {T T' T2 : Mk} {H H' : Nat → Prop} {w w' w2 : World}
theorem Fr.refl (T : Mk) (H : Nat → Prop) (w : World) : Fr T T H w w := ⟨rfl, rfl, rfl, Nat.le_refl _, fun _ _ _ => rfl, fun _ _ => rfl⟩
theorem Fr.trans (h : Fr T T' H w w') (k : Fr T' T2 H w' w2) : Fr T T2 H w w2 :=
  ⟨k.os.trans h.os, k.tape.trans h.tape, k.output.trans h.output, Nat.le_trans h.size k.size,
   fun i hi hn => (k.keep i (Nat.lt_of_lt_of_le hi h.size) (by rw [h.tag i hi]; exact hn)).trans (h.keep i hi hn),
   fun i hi => (k.tag i (Nat.lt_of_lt_of_le hi h.size)).trans (h.tag i hi)⟩
theorem Fr.mono (h : Fr T T' H w w') (hs : ∀ c, H c → H' c) : Fr T T' H' w w' := ⟨h.os, h.tape, h.output, h.size, fun k hk hn => h.keep k hk fun e => hn (hs _ e), h.tag⟩
/-- only what is old counts -/
theorem Fr.old (h : Fr T T' H w w') (hs : ∀ k, k < w.heap.size → H (T k) → H' (T k)) : Fr T T' H' w w' := ⟨h.os, h.tape, h.output, h.size, fun k hk hn => h.keep k hk fun e => hn (hs k hk e), h.tag⟩
theorem Fr.calm (h : Below w.heap.size w w') (ht : ∀ k, k < w.heap.size → T' k = T k) : Fr T T' H w w' := ⟨h.os, h.tape, h.output, h.size, fun k hk _ => h.block k hk, ht⟩
theorem Fr.new (h : Below w.heap.size w w') (t : Nat) : Fr T (paint T w.heap.size t) H w w' := Fr.calm h fun k hk => paint_old hk
theorem Fr.below (h : Fr T T' H w w') {D : Nat} (hD : D ≤ w.heap.size) (hn : ∀ k, k < D → ¬ H (T k)) : Below D w w' := ⟨h.os, h.tape, h.output, h.size, fun k hk => h.keep k (by omega) (hn k hk)⟩
theorem Fr.row {B : Nat} (hB : H (T B)) (c : Array Value) : Fr T T H w (w.setRow B c) := ⟨rfl, rfl, rfl, by simp, fun k hk hn => setRow_other w B k c (fun e => hn (e ▸ hB)), fun _ _ => rfl⟩
theorem Fr.cell {a : Addr} (hB : H (T a.block)) (v : Value) : Fr T T H w (w.setCell a v) := ⟨rfl, rfl, rfl, by simp [World.setCell], fun k hk hn => Below.heap_setCell w a v k (fun e => hn (e ▸ hB)), fun _ _ => rfl⟩
theorem Fr.grown {v : Value} (hg : w.grownBy w' v.ownBlock) (hv : ∀ g, v.ownBlock = some g → H (T g)) (t : Nat) : Fr T (paint T w.heap.size t) H w w' :=
  ⟨hg.os, hg.tape, hg.output, hg.size, fun k hk hn => hg.block k hk (fun e => hn (hv k e.symm)), fun k hk => paint_old hk⟩
theorem Fr.rowAt (h : Fr T T' H w w') {B : Nat} {c : Array Value} (hr : Oct.row w B = some c) (hB : ¬ H (T B)) : Oct.row w' B = some c := by rw [row_heap (h.keep B (row_lt hr) hB)]; exact hr
theorem Fr.cellAt (h : Fr T T' H w w') {g o : Nat} (hg : g < w.heap.size) (hB : ¬ H (T g)) : w'.cell? ⟨g, o, none⟩ = w.cell? ⟨g, o, none⟩ := World.cell?_of_block (w := w) (h.keep g hg hB)
/-- marks by another count -/
theorem Fr.paint {t : Nat} (h : Fr T T' H w w') (ht : ∀ k, w.heap.size ≤ k → T' k = t) : T' = paint T w.heap.size t := by
  funext k
  by_cases hk : k < w.heap.size
  · rw [paint_old hk, h.tag k hk]
  · rw [paint_new (by omega), ht k (by omega)]
end
/-- bytes that are read, in a block of mark t -/
structure RdS (T : Mk) (w : World) (t : Nat) (A : Option Addr) (n c : Nat) (f : Bf) : Prop where
  sl : Sl w w.heap.size A n c f
  tg : 0 < n → ∀ a, A = some a → T a.block = t
section
variable {T T' T2 : Mk} {H : Nat → Prop} {w w' w2 : World} {t : Nat}
theorem RdS.fr {A : Option Addr} {n c : Nat} {f : Bf} (h : RdS T w t A n c f) (hf : Fr T T' H w w') (ht : ¬ H t) : RdS T' w' t A n c f := by
  refine ⟨⟨h.sl.le, fun hn => ?_⟩, fun hn a ha => ?_⟩
  · obtain ⟨g, o, e, hg, hc⟩ := h.sl.at_ hn
    have e1 := h.tg hn _ e
    refine ⟨g, o, e, Nat.lt_of_lt_of_le hg hf.size, fun i hi => ?_⟩
    rw [hf.cellAt hg (by simp only at e1; rw [e1]; exact ht)]
    exact hc i hi
  · obtain ⟨g, o, e, hg, hc⟩ := h.sl.at_ hn
    rw [e] at ha
    cases ha
    rw [hf.tag g hg]
    exact h.tg hn _ e
theorem RdS.congr {A : Option Addr} {n c : Nat} {f g : Bf} (h : RdS T w t A n c f) (e : ∀ i, i < n → f i = g i) : RdS T w t A n c g := ⟨h.sl.congr e, h.tg⟩
theorem RdS.upto {A : Option Addr} {n c : Nat} {f : Bf} (h : RdS T w t A n c f) (k : Nat) (hk : k ≤ n) : RdS T w t A k c f := ⟨h.sl.upto k hk, fun hn => h.tg (by omega)⟩
theorem RdS.nil (T : Mk) (w : World) (t : Nat) (f : Bf) : RdS T w t none 0 0 f := ⟨Sl.nothing _ _ _ _ _, fun hn => absurd hn (by omega)⟩
theorem RdS.re {A : Option Addr} {n c : Nat} {f : Bf} {t2 : Nat} (h : RdS T w t A n c f) (ht : ∀ k, T k = t → T2 k = t2) : RdS T2 w t2 A n c f := ⟨h.sl, fun hn a ha => ht _ (h.tg hn a ha)⟩
/-- bytes of an elder world's bottom -/
theorem RdS.of_sl {D : Nat} {A : Option Addr} {n c : Nat} {f : Bf} (h : Sl w D A n c f) (hD : D ≤ w.heap.size) (hT : ∀ k, k < D → T k = t) : RdS T w t A n c f :=
  ⟨h.more hD, fun hn a ha => by
    obtain ⟨g, o, e, hg, _⟩ := h.at_ hn
    rw [e] at ha
    cases ha
    exact hT g hg⟩
/-- a row of bytes of mark t that may be appended to -/
structure OwB (T : Mk) (w : World) (t : Nat) (u : TypeId) (v : Value) (l : By) : Prop where
  own : Own w 0 u v l.length (lf l)
  tg : ∀ g, v.ownBlock = some g → T g = t
variable {u : TypeId} {v : Value} {l : By}
theorem OwB.fr (h : OwB T w t u v l) (hf : Fr T T' H w w') (ht : ¬ H t) : OwB T' w' t u v l := by
  refine ⟨?_, fun g hg => by rw [hf.tag g (World.ownsRow.lt h.own g hg).2]; exact h.tg g hg⟩
  have := h.own
  unfold Own at this ⊢
  refine ⟨this.1, ?_⟩
  rcases this.2 with hn | ⟨g, cap, cur, rfl, hb, hg, rest⟩
  · exact .inl hn
  · exact .inr ⟨g, cap, cur, rfl, hb, by rw [hf.keep g (Array.getElem?_eq_some_iff.1 hg).1 (by rw [h.tg g rfl]; exact ht)]; exact hg, rest⟩
theorem OwB.re {t2 : Nat} (h : OwB T w t u v l) (ht : ∀ k, T k = t → T2 k = t2) : OwB T2 w t2 u v l := ⟨h.own, fun g hg => ht _ (h.tg g hg)⟩
theorem OwB.rd (h : OwB T w t u v l) : ∃ A c, v = .slice A l.length c ∧ RdS T w t A l.length c (lf l) ∧ c ≤ maxLen := by
  obtain ⟨A, c, rfl, hs, hm, _⟩ := h.own.sl
  exact ⟨A, c, rfl, ⟨hs, fun hn a ha => h.tg _ (by rw [ha]; rfl)⟩, hm⟩
theorem OwB.nil (T : Mk) (w : World) (t : Nat) (u : TypeId) : OwB T w t u (.slice none 0 0) [] := ⟨Own.nil _ _ _ _, fun g hg => by cases hg⟩
/-- one that was made -/
theorem OwB.of_new {n : Nat} {f : Bf} {D : Nat} (h : Own w' D u v n f) (hl : l.length = n) (hf : ∀ i, i < n → lf l i = f i) (T : Mk) (t : Nat) : OwB (paint T D t) w' t u v l := by
  subst hl
  refine ⟨?_, fun g hg => paint_new (World.ownsRow.lt h g hg).1⟩
  have h2 := h.congr (f' := lf l) fun i hi => (hf i hi).symm
  unfold Own at h2 ⊢
  refine ⟨h2.1, ?_⟩
  rcases h2.2 with hn | ⟨g, cap, cur, rfl, hb, rest⟩
  · exact .inl hn
  · exact .inr ⟨g, cap, cur, rfl, Nat.zero_le _, rest⟩
theorem OwB.congr {l' : By} (h : OwB T w t u v l) (e : l = l') : OwB T w t u v l' := e ▸ h
/-- its beginning -/
theorem OwB.cut {A : Option Addr} {n c : Nat} (h : OwB T w t u (.slice A n c) l) (k : Nat) (hk : k ≤ l.length) : OwB T w t u (.slice A k c) (l.take k) := by
  have hl : (l.take k).length = k := by rw [List.length_take]; omega
  refine ⟨?_, fun g hg => h.tg g (by cases A <;> exact hg)⟩
  have := h.own
  unfold Own at this ⊢
  rw [hl]
  refine ⟨by rw [Array.length_toList, ba_size]; omega, ?_⟩
  rcases this.2 with ⟨e, h0⟩ | ⟨g, cap, cur, e, hb, hg, hc, hm, hcs, htk⟩
  · cases e; exact .inl ⟨by rw [show k = 0 by omega], by omega⟩
  · cases e
    refine .inr ⟨g, c, cur, rfl, hb, hg, by omega, hm, hcs, ?_⟩
    have e1 : (ba l.length (lf l)).toList.take k = (ba k (lf (l.take k))).toList := by
      apply List.ext_getElem?
      intro i
      rw [List.getElem?_take]
      by_cases hi : i < k
      · rw [if_pos hi, Array.getElem?_toList, Array.getElem?_toList, ba_get _ _ _ (by omega), ba_get _ _ _ hi, lf_take _ _ _ hi]
      · rw [if_neg hi, Array.getElem?_toList, ba_none _ _ _ hi]
    rw [← e1, ← htk, List.take_take, Nat.mul_one, Nat.mul_one, Nat.min_eq_left hk]
theorem OwB.len (h : OwB T w t u v l) : ∃ A c, v = .slice A l.length c := by obtain ⟨A, c, e, _⟩ := h.rd; exact ⟨A, c, e⟩
/-- behind an append -/
theorem OwB.app {m : By} {v' : Value} (h : OwB T w t u v l) (h1 : Own w' 0 u v' (l.length + m.length) (catF l.length (lf l) (lf m))) (h2 : w.grownBy w' v.ownBlock) (h3 : v'.ownBlock = v.ownBlock ∨ v'.ownBlock = some w.heap.size) :
    OwB (paint T w.heap.size t) w' t u v' (l ++ m) := by
  refine ⟨?_, fun g hg => ?_⟩
  · rw [List.length_append]
    exact h1.congr fun i _ => (lf_app l m i).symm
  · rcases h3 with e | e
    · rw [e] at hg
      rw [paint_old (World.ownsRow.lt h.own g hg).2]
      exact h.tg g hg
    · rw [e] at hg
      cases hg
      exact paint_new (Nat.le_refl _)
end
/- rows of structs of k cells: what an element's cells say, by E -/
structure ElOk {α : Type} (k : Nat) (E : Mk → World → α → List Value → Prop) : Prop where
  len : ∀ {T w x vs}, E T w x vs → vs.length = k
  one : ∀ {T w x vs}, E T w x vs → ∀ v ∈ vs, v.oneCell' = true
  fr : ∀ {T T' : Mk} {H : Nat → Prop} {w w' : World} {x vs}, E T w x vs → Fr T T' H w w' → ¬ H 0 → E T' w' x vs
  re : ∀ {T T2 : Mk} {w : World} {x vs}, E T w x vs → (∀ j, T j = 0 → T2 j = 0) → E T2 w x vs
/-- a slice of them that is read -/
structure ElSl {α : Type} (k : Nat) (E : Mk → World → α → List Value → Prop) (T : Mk) (w : World) (t : Nat) (A : Option Addr) (c : Nat) (l : List α) : Prop where
  le : l.length ≤ c
  at_ : 0 < l.length → ∃ g o, A = some ⟨g, o, none⟩ ∧ g < w.heap.size ∧ T g = t ∧ ∀ i (h : i < l.length), ∃ vs, E T w l[i] vs ∧ ∀ j, j < k → w.cell? ⟨g, o + i * k + j, none⟩ = vs[j]?
/-- a row of them that may be appended to -/
structure ElOw {α : Type} (k : Nat) (E : Mk → World → α → List Value → Prop) (T : Mk) (w : World) (t : Nat) (u : TypeId) (v : Value) (l : List α) : Prop where
  own : ∃ xs, w.ownsRow 0 u k v l.length xs ∧ ∀ i (h : i < l.length), ∃ vs, E T w l[i] vs ∧ ∀ j, j < k → xs[i * k + j]? = vs[j]?
  tg : ∀ g, v.ownBlock = some g → T g = t
section
variable {α : Type} {k : Nat} {E : Mk → World → α → List Value → Prop} (hE : ElOk k E) {T T' T2 : Mk} {H : Nat → Prop} {w w' : World} {t : Nat} {u : TypeId} {v : Value} {l : List α}
include hE
theorem ElSl.fr {A : Option Addr} {c : Nat} (h : ElSl k E T w t A c l) (hf : Fr T T' H w w') (ht : ¬ H t) (h0 : ¬ H 0) : ElSl k E T' w' t A c l :=
  ⟨h.le, fun hn => by
    obtain ⟨g, o, e, hg, hT, hc⟩ := h.at_ hn
    refine ⟨g, o, e, Nat.lt_of_lt_of_le hg hf.size, by rw [hf.tag g hg]; exact hT, fun i hi => ?_⟩
    obtain ⟨vs, h1, h2⟩ := hc i hi
    exact ⟨vs, hE.fr h1 hf h0, fun j hj => by rw [hf.cellAt hg (by rw [hT]; exact ht)]; exact h2 j hj⟩⟩
theorem ElSl.re {t2 : Nat} {A : Option Addr} {c : Nat} (h : ElSl k E T w t A c l) (ht : ∀ j, T j = t → T2 j = t2) (h0 : ∀ j, T j = 0 → T2 j = 0) : ElSl k E T2 w t2 A c l :=
  ⟨h.le, fun hn => by
    obtain ⟨g, o, e, hg, hT, hc⟩ := h.at_ hn
    refine ⟨g, o, e, hg, ht g hT, fun i hi => ?_⟩
    obtain ⟨vs, h1, h2⟩ := hc i hi
    exact ⟨vs, hE.re h1 h0, h2⟩⟩
omit hE in
theorem ElSl.take {A : Option Addr} {c : Nat} (h : ElSl k E T w t A c l) (n : Nat) : ElSl k E T w t A c (l.take n) :=
  ⟨by have := h.le; rw [List.length_take]; omega, fun hn => by
    rw [List.length_take] at hn
    obtain ⟨g, o, e, hg, hT, hc⟩ := h.at_ (by omega)
    refine ⟨g, o, e, hg, hT, fun i hi => ?_⟩
    have hi' : i < min n l.length := by rw [List.length_take] at hi; exact hi
    obtain ⟨vs, h1, h2⟩ := hc i (by omega)
    exact ⟨vs, by rw [List.getElem_take]; exact h1, h2⟩⟩
theorem ElOw.fr (h : ElOw k E T w t u v l) (hf : Fr T T' H w w') (ht : ¬ H t) (h0 : ¬ H 0) : ElOw k E T' w' t u v l := by
  obtain ⟨xs, h1, h2⟩ := h.own
  refine ⟨⟨xs, ⟨h1.1, ?_⟩, fun i hi => ?_⟩, fun g hg => by rw [hf.tag g (World.ownsRow.lt h1 g hg).2]; exact h.tg g hg⟩
  · rcases h1.2 with hn | ⟨g, cap, cur, rfl, hb, hg, rest⟩
    · exact .inl hn
    · exact .inr ⟨g, cap, cur, rfl, hb, by rw [hf.keep g (Array.getElem?_eq_some_iff.1 hg).1 (by rw [h.tg g rfl]; exact ht)]; exact hg, rest⟩
  · obtain ⟨vs, h3, h4⟩ := h2 i hi
    exact ⟨vs, hE.fr h3 hf h0, h4⟩
theorem ElOw.re {t2 : Nat} (h : ElOw k E T w t u v l) (ht : ∀ j, T j = t → T2 j = t2) (h0 : ∀ j, T j = 0 → T2 j = 0) : ElOw k E T2 w t2 u v l := by
  obtain ⟨xs, h1, h2⟩ := h.own
  refine ⟨⟨xs, h1, fun i hi => ?_⟩, fun g hg => ht _ (h.tg g hg)⟩
  obtain ⟨vs, h3, h4⟩ := h2 i hi
  exact ⟨vs, hE.re h3 h0, h4⟩
omit hE in
theorem ElOw.nil : ElOw k E T w t u (.slice none 0 0) [] := ⟨⟨[], World.ownsRow_nil _ _ _ _, fun i hi => absurd hi (by simp)⟩, fun g hg => by cases hg⟩
omit hE in
theorem ElOw.sl (h : ElOw k E T w t u v l) : ∃ A c, v = .slice A l.length c ∧ ElSl k E T w t A c l ∧ c ≤ maxLen := by
  obtain ⟨xs, h1, h2⟩ := h.own
  rcases h1.2 with ⟨rfl, h0⟩ | ⟨g, cap, cur, rfl, hb, hg, hc, hm, hcs, htk⟩
  · rw [h0]; exact ⟨none, 0, rfl, ⟨by omega, fun hn => absurd hn (by omega)⟩, Nat.zero_le _⟩
  · refine ⟨some ⟨g, 0, none⟩, cap, rfl, ⟨hc, fun hn => ⟨g, 0, rfl, (Array.getElem?_eq_some_iff.1 hg).1, h.tg g rfl, fun i hi => ?_⟩⟩, hm⟩
    obtain ⟨vs, h3, h4⟩ := h2 i hi
    refine ⟨vs, h3, fun j hj => ?_⟩
    rw [← h4 j hj, ← htk, Nat.zero_add, cell_row (row_of hg), List.getElem?_take, if_pos, Array.getElem?_toList]
    have := Nat.mul_le_mul_right k (show i + 1 ≤ l.length by omega)
    rw [Nat.add_mul] at this
    omega
/-- behind an append of one -/
theorem ElOw.one {x : α} {vs : List Value} {v' : Value} {xs : List Value} (h : ElOw k E T w t u v l) (h1 : w'.ownsRow 0 u k v' (l.length + 1) (xs ++ vs)) (h2 : w.grownBy w' v.ownBlock) (h3 : v'.ownBlock = v.ownBlock ∨ v'.ownBlock = some w.heap.size)
    (hx : E (paint T w.heap.size t) w' x vs) (ht : 0 ≠ t) (hxs : w.ownsRow 0 u k v l.length xs) (hel : ∀ i (h : i < l.length), ∃ vs, E T w l[i] vs ∧ ∀ j, j < k → xs[i * k + j]? = vs[j]?) :
    ElOw k E (paint T w.heap.size t) w' t u v' (l ++ [x]) := by
  have hf : Fr T (paint T w.heap.size t) (fun c => c = t) w w' := Fr.grown h2 (fun g hg => h.tg g hg) t
  refine ⟨⟨xs ++ vs, by rw [List.length_append]; exact h1, fun i hi => ?_⟩, fun g hg => ?_⟩
  · by_cases hlt : i < l.length
    · obtain ⟨ws, h4, h5⟩ := hel i hlt
      refine ⟨ws, by rw [List.getElem_append_left hlt]; exact hE.fr h4 hf ht, fun j hj => ?_⟩
      rw [List.getElem?_append_left, h5 j hj]
      have := Nat.mul_le_mul_right k (show i + 1 ≤ l.length by omega)
      rw [Nat.add_mul] at this
      rw [hxs.1]
      omega
    · have hi' : i = l.length := by simp at hi; omega
      subst hi'
      refine ⟨vs, by rw [List.getElem_append_right (Nat.le_refl _)]; simpa using hx, fun j hj => ?_⟩
      rw [List.getElem?_append_right (by rw [hxs.1]; omega), hxs.1, Nat.add_sub_cancel_left]
  · rcases h3 with e | e
    · rw [e] at hg
      rw [paint_old (World.ownsRow.lt hxs g hg).2]
      exact h.tg g hg
    · rw [e] at hg
      cases hg
      exact paint_new (Nat.le_refl _)
end
end Go.Proofs.Ythokiohdeclmhaa.Oct
