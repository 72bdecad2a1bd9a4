/- DiskSure by the numbers: what was made sure is there behind any Boot. -/
import Derived.Test.YthdhbjfenanbnaaDkVb
namespace Go.Proofs.Ythdhbjfenanbnaa.Oct
open Go.ChangeShapes Go.WideShapes Go.ChangeAt Go.RowKit
set_option linter.unusedVariables false

/-- what the first i pieces come to -/
def al (L : Nat → By) : Nat → By
  | 0 => []
  | i + 1 => al L i ++ (L i).take 100
theorem al_len (L : Nat → By) (i : Nat) : (al L i).length ≤ 100 * i := by
  induction i with
  | zero => exact Nat.le_refl _
  | succ i ih =>
    show (al L i ++ (L i).take 100).length ≤ _
    rw [List.length_append, List.length_take]
    omega
theorem str_nil : Value.string { data := #[] } = .string (str []) := by
  congr 1
  unfold str strOf
  rfl
/-- the bytes that are laid -/
def bs (l : List Ch) : By := l.flatMap (·.b)
theorem has_bs {s : By} {l : List Ch} (h : Okc s l) (ha : ∀ y ∈ l, y.cut = false) : has s l = s ++ bs l := by
  induction l generalizing s with
  | nil => show s = s ++ []; rw [List.append_nil]
  | cons x r ih =>
    have hx : x.k = s.length := h.2.1.2 (ha x (.head _))
    have e : x.on s = s ++ x.b := by unfold Ch.on; rw [hx, List.take_length]
    show has (x.on s) r = s ++ (x.b ++ bs r)
    rw [ih h.2.2 fun y hy => ha y (.tail _ hy), e, List.append_assoc]
theorem take_flp (t : By) (v : Nat) : (flp t v).take (t.length - 1) = t.take (t.length - 1) := by
  unfold flp
  rw [List.take_set_of_le (Nat.le_refl _)]
theorem sure_boot {x : Fl} (h : x.ok) (ha : ∀ y ∈ x.l, y.cut = false) (g p v : Nat) :
    x.s.length ≤ (x.boot g p v).s.length ∧ (x.boot g p v).s.length ≤ x.all.length ∧ (x.boot g p v).s.take x.s.length = x.all.take x.s.length ∧ (x.boot g p v).s.take ((x.boot g p v).s.length - 1) = x.all.take ((x.boot g p v).s.length - 1) := by
  obtain ⟨k, hk⟩ : ∃ k, k = g % (x.l.length + 1) := ⟨_, rfl⟩
  have hkl : k ≤ x.l.length := by rw [hk]; have := Nat.mod_lt g (show 0 < x.l.length + 1 by omega); omega
  have e1 : (x.boot g p v).s = x.s ++ (bs (x.l.take k) ++ torn x.l k p v) := by
    show has x.s (x.l.take (g % (x.l.length + 1))) ++ torn x.l (g % (x.l.length + 1)) p v = _
    rw [← hk, has_bs (Okc.take h k) fun y hy => ha y (List.mem_of_mem_take hy), List.append_assoc]
  have e2 : x.all = x.s ++ (bs (x.l.take k) ++ bs (x.l.drop k)) := by
    show has x.s x.l = _
    rw [has_bs h ha]
    congr 1
    unfold bs
    rw [← List.flatMap_append, List.take_append_drop]
  rw [e1, e2]
  by_cases hlt : k < x.l.length
  · obtain ⟨t, r, ht⟩ : ∃ t r : By, torn x.l k p v = flp t v ∧ bs (x.l.drop k) = t ++ r := by
      refine ⟨(x.l[k]).b.take (p % ((x.l[k]).b.length + 1)), (x.l[k]).b.drop (p % ((x.l[k]).b.length + 1)) ++ bs (x.l.drop (k + 1)), ?_, ?_⟩
      · unfold torn; rw [List.getElem?_eq_getElem hlt]
      · rw [← List.append_assoc, List.take_append_drop, List.drop_eq_getElem_cons hlt]; rfl
    rw [ht.1, ht.2]
    obtain ⟨c, hc⟩ : ∃ c, c = bs (x.l.take k) := ⟨_, rfl⟩
    rw [← hc]
    refine ⟨by simp, by simp [flp_len], by simp, ?_⟩
    rcases t with _ | ⟨a, q⟩
    · rw [flp_nil]
      simp only [List.append_nil, List.nil_append]
      rw [← List.append_assoc x.s c r, List.take_append_of_le_length (Nat.sub_le _ _)]
    · have hl : (flp (a :: q) v).length = (a :: q).length := flp_len _ _
      have hp : (x.s ++ (c ++ flp (a :: q) v)).length - 1 = x.s.length + (c.length + ((a :: q).length - 1)) := by
        simp only [List.length_append, hl, List.length_cons]; omega
      rw [hp, List.take_length_add_append, List.take_length_add_append, take_flp, List.take_length_add_append, List.take_length_add_append, List.take_append_of_le_length (Nat.sub_le _ _)]
  · have ek : k = x.l.length := by omega
    have e3 : torn x.l k p v = [] := by unfold torn; rw [ek, List.getElem?_eq_none (Nat.le_refl _)]
    have e4 : bs (x.l.drop k) = [] := by rw [ek, List.drop_length]; rfl
    rw [e3, e4]
    exact ⟨by simp, Nat.le_refl _, rfl, rfl⟩
/-- a disk on DiskSure's way: file 2 has a, of which the first s are sure -/
structure Su (d : Dk) (a : By) (s : Nat) : Prop where
  live : d.live
  all : (d.f 2).all = a
  s : (d.f 2).s.length = s
  app : ∀ y ∈ (d.f 2).l, y.cut = false
theorem Su.new : Su newD [] 0 := ⟨live_new, rfl, rfl, fun y hy => by cases hy⟩
theorem Su.append {d : Dk} {a b : By} {s : Nat} (h : Su d a s) (hl : a.length + b.length ≤ 1048576) :
    (onF 2 d fun i => d.app i b).1 = 0 ∧ Su (onF 2 d fun i => d.app i b).2 (a ++ b) s ∧ (onF 2 d fun i => d.app i b).2.n = d.n + 1 := by
  rw [show (2 : Int) = ((2 : Nat) : Int) from rfl, on_in 2 (by omega), app_live h.live 2 b (by rw [h.all, maxF_eq]; exact hl)]
  refine ⟨rfl, ⟨h.live.done _ _, ?_, ?_, ?_⟩, rfl⟩
  · rw [done_f, Fl.all_app, h.all]
  · rw [done_f]; exact h.s
  · rw [done_f]
    intro y hy
    rcases List.mem_append.1 hy with hy | hy
    · exact h.app y hy
    · rw [List.mem_singleton.1 hy]
theorem Su.sync {d : Dk} {a : By} {s : Nat} (h : Su d a s) :
    (onF 2 d fun i => d.sync i).1 = 0 ∧ Su (onF 2 d fun i => d.sync i).2 a a.length ∧ (onF 2 d fun i => d.sync i).2.n = d.n + 1 := by
  rw [show (2 : Int) = ((2 : Nat) : Int) from rfl, on_in 2 (by omega), sync_live h.live 2]
  refine ⟨rfl, ⟨h.live.done _ _, ?_, ?_, ?_⟩, rfl⟩
  · rw [done_f, Fl.all_sync, h.all]
  · rw [done_f]; show (d.f 2).all.length = _; rw [h.all]
  · rw [done_f]; intro y hy; cases hy
theorem Su.le {d : Dk} {a : By} {s : Nat} (h : Su d a s) (hk : d.ok) : s ≤ a.length := by
  have e : (d.f 2).all = (d.f 2).s ++ bs (d.f 2).l := has_bs (hk.ok 2 (by omega)) h.app
  rw [← h.all, e, List.length_append, h.s]
  omega
theorem Su.boot {d : Dk} {a : By} {s : Nat} (h : Su d a s) (hk : d.ok) (g : Nat → Nat) : ∃ z : By, (d.boot g).read 2 = (0, z) ∧ s ≤ z.length ∧ z.length ≤ a.length ∧ z.take s = a.take s ∧ z.take (z.length - 1) = a.take (z.length - 1) := by
  refine ⟨((d.f 2).boot (g 2) (g (4 + 2)) (g (8 + 2))).s, ?_, ?_⟩
  · rw [show (2 : Int) = ((2 : Nat) : Int) from rfl, read_live (live_boot d g).off 2 (by omega)]; rfl
  · have := sure_boot (hk.ok 2 (by omega)) h.app (g 2) (g (4 + 2)) (g (8 + 2))
    rw [h.s, h.all] at this
    exact this
end Go.Proofs.Ythdhbjfenanbnaa.Oct
