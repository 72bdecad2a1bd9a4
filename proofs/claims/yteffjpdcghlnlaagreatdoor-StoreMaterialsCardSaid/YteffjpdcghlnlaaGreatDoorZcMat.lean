import Derived.Test.YteffjpdcghlnlaaGreatDoorZcLib
set_option linter.unusedVariables false
set_option linter.unusedSimpArgs false
namespace Go.Proofs.YteffjpdcghlnlaaGreatDoor.Oct
structure Se where
 id : Int
 q : Int
 c : Int
 n : Int
 m : Int
 T : Nat
 f : Bf
def Se.new (id : Int) : Se := ⟨id, 0, 0, 0, 0, 0, fun _ => 0#8⟩
def ssH (l : List Se) (id : Int) : Bool := l.any fun s => s.id == id
def ssG (l : List Se) (id : Int) : Option Se := l.find? fun s => s.id == id
def ssX (l : List Se) (id : Int) : List Se := l.filter fun s => !(s.id == id)
def ssD (l : List Se) (x : Se) : List Se := l.map fun s => if s.id == x.id then x else s
structure SsOk (l : List Se) (g : Int) : Prop where
 up : l.Pairwise fun a b => a.id < b.id
 bd : ∀ s ∈ l, 1 ≤ s.id ∧ s.id ≤ g
 n : l.length ≤ 8
 g0 : 0 ≤ g
 g1 : g < 1099511627776
 t : ∀ s ∈ l, s.T ≤ 140737488355328
theorem ssH_G (l : List Se) (id : Int) : ssH l id = (ssG l id).isSome := by
 unfold ssH ssG
 rw [Bool.eq_iff_iff, List.any_eq_true, Option.isSome_iff_exists]
 constructor
 ·rintro ⟨s, hs, hi⟩
  cases e : l.find? fun s => s.id == id with
  | some y => exact ⟨y, rfl⟩
  | none => exact absurd hi (List.find?_eq_none.1 e s hs)
 ·rintro ⟨s, hs⟩
  exact ⟨s, List.mem_of_find?_eq_some hs, List.find?_some (p := fun s : Se => s.id == id) hs⟩
theorem ssG_some {l : List Se} {id : Int} {s : Se} (h : ssG l id = some s) : s ∈ l ∧ s.id = id :=
 ⟨List.mem_of_find?_eq_some h, by have := List.find?_some (p := fun s : Se => s.id == id) h; simpa using this⟩
theorem ssG_mem {l : List Se} (h : l.Pairwise fun a b => a.id < b.id) {s : Se} (hs : s ∈ l) : ssG l s.id = some s := by
 induction l with
 | nil => cases hs
 | cons a r ih =>
  obtain ⟨h1, h2⟩ := List.pairwise_cons.1 h
  unfold ssG
  rw [List.find?_cons]
  rcases List.mem_cons.1 hs with rfl | hr
  ·simp
  ·have := h1 s hr
   rw [show (a.id == s.id) = false by simp; omega]
   exact ih h2 hr
theorem SsOk.nil : SsOk [] 0 := ⟨List.Pairwise.nil, fun s hs => absurd hs List.not_mem_nil, Nat.zero_le _, by omega, by omega, fun s hs => absurd hs List.not_mem_nil⟩
theorem SsOk.open_ {l : List Se} {g : Int} (h : SsOk l g) (hn : l.length ≠ 8) (hg : g + 1 ≠ 1099511627776) : SsOk (l ++ [Se.new (g + 1)]) (g + 1) := by
 have := h.n; have := h.g0; have := h.g1
 refine ⟨List.pairwise_append.2 ⟨h.up, List.pairwise_singleton _ _, fun a ha b hb => ?_⟩, fun s hs => ?_, ?_, by omega, by omega, fun s hs => ?_⟩
 ·rw [List.mem_singleton] at hb
  subst hb
  have := (h.bd a ha).2
  show a.id < g + 1
  omega
 ·rcases List.mem_append.1 hs with h1 | h1
  ·have := h.bd s h1; omega
  ·rw [List.mem_singleton] at h1
   subst h1
   show 1 ≤ g + 1 ∧ g + 1 ≤ g + 1
   omega
 ·rw [List.length_append, List.length_singleton]; omega
 ·rcases List.mem_append.1 hs with h1 | h1
  ·exact h.t s h1
  ·rw [List.mem_singleton] at h1
   subst h1
   exact Nat.zero_le _
theorem SsOk.drop {l : List Se} {g : Int} (h : SsOk l g) (id : Int) : SsOk (ssX l id) g :=
 ⟨h.up.filter _, fun s hs => h.bd s (List.mem_filter.1 hs).1, Nat.le_trans (List.length_filter_le _ _) h.n, h.g0, h.g1, fun s hs => h.t s (List.mem_filter.1 hs).1⟩
theorem ssD_len (l : List Se) (x : Se) : (ssD l x).length = l.length := List.length_map ..
theorem ssD_ids (l : List Se) (x : Se) : (ssD l x).map Se.id = l.map Se.id := by
 unfold ssD
 rw [List.map_map]
 refine List.map_congr_left fun s _ => ?_
 show (if s.id == x.id then x else s).id = s.id
 by_cases h : s.id = x.id
 ·rw [if_pos (by simpa using h)]; exact h.symm
 ·rw [if_neg (by simpa using h)]
theorem ssD_mem {l : List Se} {x s : Se} (h : s ∈ ssD l x) : s = x ∨ (s ∈ l ∧ s.id ≠ x.id) := by
 obtain ⟨a, ha, rfl⟩ := List.mem_map.1 h
 show (if a.id == x.id then x else a) = x ∨ _
 by_cases h : a.id = x.id
 ·rw [if_pos (by simpa using h)]; exact .inl rfl
 ·rw [if_neg (by simpa using h)]; exact .inr ⟨ha, h⟩
theorem SsOk.done {l : List Se} {g : Int} (h : SsOk l g) (x : Se) (hx : ssH l x.id = true) (hT : x.T ≤ 140737488355328) : SsOk (ssD l x) g := by
 refine ⟨?_, fun s hs => ?_, by rw [ssD_len]; exact h.n, h.g0, h.g1, fun s hs => by
  rcases ssD_mem hs with rfl | ⟨h1, _⟩
  ·exact hT
  ·exact h.t s h1⟩
 ·have h1 : (l.map Se.id).Pairwise (· < ·) := List.pairwise_map.2 h.up
  rw [← ssD_ids l x] at h1
  exact List.pairwise_map.1 h1
 ·rcases ssD_mem hs with rfl | ⟨h1, _⟩
  ·unfold ssH at hx
   obtain ⟨a, ha, hi⟩ := List.any_eq_true.1 hx
   have e : a.id = s.id := by simpa using hi
   have := h.bd a ha
   omega
  ·exact h.bd s h1
theorem ssH_app (l : List Se) (x : Se) (id : Int) : ssH (l ++ [x]) id = (ssH l id || x.id == id) := by unfold ssH; simp
theorem ssH_X (l : List Se) (i id : Int) : ssH (ssX l i) id = (ssH l id && !(id == i)) := by
 unfold ssH ssX
 rw [Bool.eq_iff_iff, List.any_eq_true, Bool.and_eq_true, List.any_eq_true]
 constructor
 ·rintro ⟨s, hs, hi⟩
  obtain ⟨h1, h2⟩ := List.mem_filter.1 hs
  have e : s.id = id := by simpa using hi
  exact ⟨⟨s, h1, hi⟩, by rw [← e]; exact h2⟩
 ·rintro ⟨⟨s, hs, hi⟩, h2⟩
  have e : s.id = id := by simpa using hi
  exact ⟨s, List.mem_filter.2 ⟨hs, by rw [e]; exact h2⟩, hi⟩
theorem ssH_D (l : List Se) (x : Se) (hx : ssH l x.id = true) (id : Int) : ssH (ssD l x) id = ssH l id := by
 have e (l : List Se) : ssH l id = (l.map Se.id).any (· == id) := by unfold ssH; rw [List.any_map]; rfl
 rw [e, e, ssD_ids]
theorem SsOk.not {l : List Se} {g id : Int} (h : SsOk l g) (hi : id < 1 ∨ g < id) : ssH l id = false := by
 rw [← Bool.not_eq_true]
 intro e
 unfold ssH at e
 obtain ⟨a, ha, h1⟩ := List.any_eq_true.1 e
 have e : a.id = id := by simpa using h1
 have := h.bd a ha
 omega
def opF (l : List Se) (g : Int) : Bool := decide (l.length = 8) || decide (g + 1 = 1099511627776)
def opN (l : List Se) (g : Int) : Int := if opF l g then 0 else g + 1
def opE (l : List Se) (g : Int) : Int := if opF l g then 134 else 0
def opSe (l : List Se) (g : Int) : List Se := if opF l g then l else l ++ [Se.new (g + 1)]
def opG (l : List Se) (g : Int) : Int := if opF l g then g else g + 1
def exE (l : List Se) (id : Int) : Int := if ssH l id then 0 else 150
def akE (l : List Se) (id q : Int) : Int := match ssG l id with
 | none => 150
 | some s => if q < s.q ∨ q < 1 then 151 else 0
def akB (l : List Se) (id q : Int) : Bool := match ssG l id with
 | none => false
 | some s => decide (¬ (q < s.q ∨ q < 1) ∧ q = s.q)
def akS (l : List Se) (id q : Int) : Se := match ssG l id with
 | none => .new 0
 | some s => if ¬ (q < s.q ∨ q < 1) ∧ q = s.q then s else .new 0
def dnE (l : List Se) (id q : Int) : Int := match ssG l id with
 | none => 150
 | some s => if q ≤ s.q then 151 else 0
def dnL (l : List Se) (x : Se) : List Se := if dnE l x.id x.q = 0 then ssD l x else l
theorem SsOk.opn {l : List Se} {g : Int} (h : SsOk l g) : SsOk (opSe l g) (opG l g) := by
 unfold opSe opG
 cases e : opF l g with
 | true => exact h
 | false =>
  unfold opF at e
  rw [Bool.or_eq_false_iff] at e
  exact h.open_ (of_decide_eq_false e.1) (of_decide_eq_false e.2)
theorem ssX_none {l : List Se} {id : Int} (h : ssH l id = false) : ssX l id = l := by
 unfold ssX
 rw [List.filter_eq_self]
 intro s hs
 rw [← Bool.not_eq_true] at h
 unfold ssH at h
 rw [List.any_eq_true] at h
 cases e : s.id == id with
 | true => exact absurd ⟨s, hs, e⟩ h
 | false => rfl
theorem dn_there {l : List Se} {id q : Int} (h : dnE l id q = 0) : ∃ s, ssG l id = some s ∧ s.q < q ∧ ssH l id = true := by
 unfold dnE at h
 cases e : ssG l id with
 | none => rw [e] at h; simp at h
 | some s =>
  rw [e] at h
  by_cases hq : q ≤ s.q
  ·simp [hq] at h
  ·exact ⟨s, rfl, by omega, by rw [ssH_G, e]; rfl⟩
theorem SsOk.dn {l : List Se} {g : Int} (h : SsOk l g) (x : Se) (hT : x.T ≤ 140737488355328) : SsOk (dnL l x) g := by
 unfold dnL
 by_cases e : dnE l x.id x.q = 0
 ·rw [if_pos e]
  obtain ⟨s, -, -, hh⟩ := dn_there e
  exact h.done x hh hT
 ·rw [if_neg e]; exact h
theorem ssG_app {l : List Se} {x s : Se} {j : Int} (hx : ssH l x.id = false) (h : ssG (l ++ [x]) j = some s) : (j = x.id ∧ s = x) ∨ (j ≠ x.id ∧ ssG l j = some s) := by
 unfold ssG at h ⊢
 rw [List.find?_append] at h
 cases e : l.find? fun s => s.id == j with
 | some y =>
  rw [e] at h
  have hy : ssH l j = true := by rw [ssH_G]; unfold ssG; rw [e]; rfl
  exact .inr ⟨fun e' => (by rw [e', hx] at hy; cases hy), h⟩
 | none =>
  rw [e] at h
  have h : List.find? (fun s : Se => s.id == j) [x] = some s := h
  rw [List.find?_cons] at h
  cases e2 : x.id == j with
  | true =>
   rw [e2] at h
   have e3 : x.id = j := by simpa using e2
   exact .inl ⟨e3.symm, (Option.some.inj h).symm⟩
  | false => rw [e2] at h; simp at h
theorem ssG_D {l : List Se} {x s : Se} {j : Int} (h : ssG (ssD l x) j = some s) : (j = x.id ∧ s = x) ∨ (j ≠ x.id ∧ ssG l j = some s) := by
 unfold ssD ssG at h
 unfold ssG
 rw [List.find?_map] at h
 obtain ⟨a, ha, rfl⟩ := Option.map_eq_some_iff.1 h
 have hp : (fun s : Se => s.id == j) ∘ (fun s : Se => if s.id == x.id then x else s) = fun s => s.id == j := by
  funext b
  show ((if b.id == x.id then x else b).id == j) = (b.id == j)
  by_cases hb : b.id = x.id
  ·rw [if_pos (by simpa using hb), hb]
  ·rw [if_neg (by simpa using hb)]
 rw [hp] at ha
 have hj : a.id = j := by have := List.find?_some ha; simpa using this
 by_cases ha2 : a.id = x.id
 ·exact .inl ⟨by rw [← hj]; exact ha2, by rw [if_pos (by simpa using ha2)]⟩
 ·exact .inr ⟨by rw [← hj]; exact ha2, by rw [if_neg (by simpa using ha2)]; exact ha⟩
abbrev By := List (BitVec 8)
def lf (l : By) : Bf := fun i => l.getD i 0#8
theorem lf_take (a : By) (k i : Nat) (h : i < k) : lf (a.take k) i = lf a i := by
 unfold lf
 simp only [List.getD_eq_getElem?_getD, List.getElem?_take, if_pos h]
theorem lf_inj {a b : By} (h : a.length = b.length) (e : ∀ i, i < a.length → lf a i = lf b i) : a = b := by
 apply List.ext_getElem h
 intro i h1 h2
 have := e i h1
 unfold lf at this
 simpa [List.getD_eq_getElem?_getD, h1, h2] using this
def bl (n : Nat) (f : Bf) : By := (List.range n).map f
@[simp] theorem bl_len (n : Nat) (f : Bf) : (bl n f).length = n := by simp [bl]
theorem lf_bl (n : Nat) (f : Bf) (i : Nat) (h : i < n) : lf (bl n f) i = f i := by
 unfold lf bl
 simp [List.getD_eq_getElem?_getD, h]
structure Ch where
 cut : Bool
 k : Nat
 b : By
def Ch.on (s : By) (x : Ch) : By := s.take x.k ++ x.b
def has (s : By) (l : List Ch) : By := l.foldl Ch.on s
@[irreducible] def maxF : Nat := 1048576
def Ch.fit (s : By) (x : Ch) : Prop := (x.cut = true → x.k ≤ s.length ∧ x.b = []) ∧ (x.cut = false → x.k = s.length)
def Okc : By → List Ch → Prop
 | s, [] => s.length ≤ maxF
 | s, x :: l => s.length ≤ maxF ∧ x.fit s ∧ Okc (x.on s) l
structure Fl where
 s : By
 l : List Ch
def Fl.all (x : Fl) : By := has x.s x.l
def Fl.ok (x : Fl) : Prop := Okc x.s x.l
structure Dk where
 f : Nat → Fl
 n : Nat
 off : Bool
 u : Option Nat
def Dk.dead (d : Dk) : Prop := d.off = true ∨ d.u = some 0
instance (d : Dk) : Decidable d.dead := inferInstanceAs (Decidable (_ ∨ _))
def updD (g : Nat → Fl) (i : Nat) (x : Fl) : Nat → Fl := fun j => if j = i then x else g j
def Dk.dark (d : Dk) : Dk := { d with off := true }
def Dk.done (d : Dk) (i : Nat) (x : Fl) : Dk := { d with f := updD d.f i x, n := d.n + 1, u := d.u.map (· - 1) }
def Fl.app (x : Fl) (b : By) : Fl := ⟨x.s, x.l ++ [⟨false, x.all.length, b⟩]⟩
def Fl.cut (x : Fl) (k : Nat) : Fl := ⟨x.s, x.l ++ [⟨true, k, []⟩]⟩
def Dk.app (d : Dk) (i : Nat) (b : By) : Nat × Dk := if d.dead then (5, d.dark) else if maxF < (d.f i).all.length + b.length then (2, d) else (0, d.done i ((d.f i).app b))
def Dk.cut (d : Dk) (i : Nat) (k : Int) : Nat × Dk := if k < 0 ∨ ((d.f i).all.length : Int) < k then (1, d) else if d.dead then (5, d.dark) else (0, d.done i ((d.f i).cut k.toNat))
structure Dk.ok (d : Dk) : Prop where
 ok : ∀ i, i < 4 → (d.f i).ok
 few : ∀ i, i < 4 → (d.f i).l.length ≤ d.n
open Go.RowKit
abbrev Mk := Nat → Nat
def zH (T : Mk) (n t : Nat) : Mk := fun k => if k < n then T k else t
theorem zJ {T : Mk} {n t k : Nat} (h : k < n) : zH T n t k = T k := if_pos h
theorem zN {T : Mk} {n t k : Nat} (h : n ≤ k) : zH T n t k = t := if_neg (by omega)
structure Fr (T T' : Mk) (H : Nat → Prop) (w w' : World) : Prop where
 os : w'.os = w.os
 tape : w'.tape = w.tape
 output : w'.output = w.output
 size : w.heap.size ≤ w'.heap.size
 keep : ∀ k, k < w.heap.size → ¬ H (T k) → w'.heap[k]? = w.heap[k]?
 tag : ∀ k, k < w.heap.size → T' k = T k
section
variable {T T' T2 : Mk} {H H' : Nat → Prop} {w w' w2 : World}
theorem Fr.refl (T : Mk) (H : Nat → Prop) (w : World) : Fr T T H w w := ⟨rfl, rfl, rfl, Nat.le_refl _, fun _ _ _ => rfl, fun _ _ => rfl⟩
theorem Fr.trans (h : Fr T T' H w w') (k : Fr T' T2 H w' w2) : Fr T T2 H w w2 :=
 ⟨k.os.trans h.os, k.tape.trans h.tape, k.output.trans h.output, Nat.le_trans h.size k.size,
  fun i hi hn => (k.keep i (Nat.lt_of_lt_of_le hi h.size) (by rw [h.tag i hi]; exact hn)).trans (h.keep i hi hn),
  fun i hi => (k.tag i (Nat.lt_of_lt_of_le hi h.size)).trans (h.tag i hi)⟩
theorem Fr.mono (h : Fr T T' H w w') (hs : ∀ c, H c → H' c) : Fr T T' H' w w' := ⟨h.os, h.tape, h.output, h.size, fun k hk hn => h.keep k hk fun e => hn (hs _ e), h.tag⟩
theorem Fr.calm (h : Below w.heap.size w w') (ht : ∀ k, k < w.heap.size → T' k = T k) : Fr T T' H w w' := ⟨h.os, h.tape, h.output, h.size, fun k hk _ => h.block k hk, ht⟩
theorem Fr.new (h : Below w.heap.size w w') (t : Nat) : Fr T (zH T w.heap.size t) H w w' := Fr.calm h fun k hk => zJ hk
theorem Fr.below (h : Fr T T' H w w') {D : Nat} (hD : D ≤ w.heap.size) (hn : ∀ k, k < D → ¬ H (T k)) : Below D w w' := ⟨h.os, h.tape, h.output, h.size, fun k hk => h.keep k (by omega) (hn k hk)⟩
theorem Fr.row {B : Nat} (hB : H (T B)) (c : Array Value) : Fr T T H w (w.setRow B c) := ⟨rfl, rfl, rfl, by simp, fun k hk hn => setRow_other w B k c (fun e => hn (e ▸ hB)), fun _ _ => rfl⟩
theorem Fr.grown {v : Value} (hg : w.grownBy w' v.ownBlock) (hv : ∀ g, v.ownBlock = some g → H (T g)) (t : Nat) : Fr T (zH T w.heap.size t) H w w' :=
 ⟨hg.os, hg.tape, hg.output, hg.size, fun k hk hn => hg.block k hk (fun e => hn (hv k e.symm)), fun k hk => zJ hk⟩
theorem Fr.rowAt (h : Fr T T' H w w') {B : Nat} {c : Array Value} (hr : Oct.row w B = some c) (hB : ¬ H (T B)) : Oct.row w' B = some c := by rw [yX (h.keep B (zK hr) hB)]; exact hr
theorem Fr.cellAt (h : Fr T T' H w w') {g o : Nat} (hg : g < w.heap.size) (hB : ¬ H (T g)) : w'.cell? ⟨g, o, none⟩ = w.cell? ⟨g, o, none⟩ := World.cell?_of_block (w := w) (h.keep g hg hB)
end
structure RdS (T : Mk) (w : World) (t : Nat) (A : Option Addr) (n c : Nat) (f : Bf) : Prop where
 sl : Sl w w.heap.size A n c f
 tg : 0 < n → ∀ a, A = some a → T a.block = t
section
variable {T T' T2 : Mk} {H : Nat → Prop} {w w' w2 : World} {t : Nat}
theorem RdS.fr {A : Option Addr} {n c : Nat} {f : Bf} (h : RdS T w t A n c f) (hf : Fr T T' H w w') (ht : ¬ H t) : RdS T' w' t A n c f := by
 refine ⟨⟨h.sl.le, fun hn => ?_⟩, fun hn a ha => ?_⟩
 ·obtain ⟨g, o, e, hg, hc⟩ := h.sl.at_ hn
  have e1 := h.tg hn _ e
  refine ⟨g, o, e, Nat.lt_of_lt_of_le hg hf.size, fun i hi => ?_⟩
  rw [hf.cellAt hg (by simp only at e1; rw [e1]; exact ht)]
  exact hc i hi
 ·obtain ⟨g, o, e, hg, hc⟩ := h.sl.at_ hn
  rw [e] at ha
  cases ha
  rw [hf.tag g hg]
  exact h.tg hn _ e
theorem RdS.upto {A : Option Addr} {n c : Nat} {f : Bf} (h : RdS T w t A n c f) (k : Nat) (hk : k ≤ n) : RdS T w t A k c f := ⟨h.sl.upto k hk, fun hn => h.tg (by omega)⟩
theorem RdS.nil (T : Mk) (w : World) (t : Nat) (f : Bf) : RdS T w t none 0 0 f := ⟨Sl.nothing _ _ _ _ _, fun hn => absurd hn (by omega)⟩
theorem RdS.re {A : Option Addr} {n c : Nat} {f : Bf} {t2 : Nat} (h : RdS T w t A n c f) (ht : ∀ k, T k = t → T2 k = t2) : RdS T2 w t2 A n c f := ⟨h.sl, fun hn a ha => ht _ (h.tg hn a ha)⟩
theorem RdS.of_sl {D : Nat} {A : Option Addr} {n c : Nat} {f : Bf} (h : Sl w D A n c f) (hD : D ≤ w.heap.size) (hT : ∀ k, k < D → T k = t) : RdS T w t A n c f :=
 ⟨h.more hD, fun hn a ha => by
  obtain ⟨g, o, e, hg, _⟩ := h.at_ hn
  rw [e] at ha
  cases ha
  exact hT g hg⟩
variable {u : TypeId} {v : Value} {l : By}
end
structure ElOk {α : Type} (k : Nat) (E : Mk → World → α → List Value → Prop) : Prop where
 len : ∀ {T w x vs}, E T w x vs → vs.length = k
 one : ∀ {T w x vs}, E T w x vs → ∀ v ∈ vs, v.oneCell' = true
 fr : ∀ {T T' : Mk} {H : Nat → Prop} {w w' : World} {x vs}, E T w x vs → Fr T T' H w w' → ¬ H 0 → E T' w' x vs
 re : ∀ {T T2 : Mk} {w : World} {x vs}, E T w x vs → (∀ j, T j = 0 → T2 j = 0) → E T2 w x vs
section
variable {α : Type} {k : Nat} {E : Mk → World → α → List Value → Prop} (hE : ElOk k E) {T T' T2 : Mk} {H : Nat → Prop} {w w' : World} {t : Nat} {u : TypeId} {v : Value} {l : List α}
include hE
end
open Go.ChangeShapes Go.WideShapes Go.ChangeAt
abbrev i64B (x : Int) : Prop := -9223372036854775808 ≤ x ∧ x < 9223372036854775808
section
variable {H : Type} {enc : TypeId × Value → H} {P : Program} {w : World} {base : Nat} {spare : Nat → Bool} {held : Bool}
end
end Go.Proofs.YteffjpdcghlnlaaGreatDoor.Oct
