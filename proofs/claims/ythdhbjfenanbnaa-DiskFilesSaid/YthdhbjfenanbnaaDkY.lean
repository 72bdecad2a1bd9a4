/- A row of one-cell values with a mark; DiskFiles by the numbers. -/
import Derived.Test.YthdhbjfenanbnaaDkX
namespace Go.Proofs.Ythdhbjfenanbnaa.Oct
open Go.ChangeShapes Go.WideShapes Go.ChangeAt Go.RowKit
set_option linter.unusedVariables false

/-- a row of one-cell values of mark t that may be appended to -/
structure OwV (T : Mk) (w : World) (t : Nat) (u : TypeId) (v : Value) (xs : List Value) : Prop where
  own : w.ownsRow 0 u 1 v xs.length xs
  tg : ∀ g, v.ownBlock = some g → T g = t
section
variable {T T' T2 : Mk} {H : Nat → Prop} {w w' w2 : World} {t : Nat} {u : TypeId} {v : Value} {xs : List Value}
theorem OwV.fr (h : OwV T w t u v xs) (hf : Fr T T' H w w') (ht : ¬ H t) : OwV T' w' t u v xs := by
  refine ⟨?_, fun g hg => by rw [hf.tag g (World.ownsRow.lt h.own g hg).2]; exact h.tg g hg⟩
  refine ⟨h.own.1, ?_⟩
  rcases h.own.2 with hn | ⟨g, cap, cur, rfl, hb, hg, rest⟩
  · exact .inl hn
  · exact .inr ⟨g, cap, cur, rfl, hb, by rw [hf.keep g (Array.getElem?_eq_some_iff.1 hg).1 (by rw [h.tg g rfl]; exact ht)]; exact hg, rest⟩
theorem OwV.app {x : Value} {v' : Value} (h : OwV T w t u v xs) (h1 : w'.ownsRow 0 u 1 v' (xs.length + 1) (xs ++ [x])) (h3 : v'.ownBlock = v.ownBlock ∨ v'.ownBlock = some w.heap.size) :
    OwV (paint T w.heap.size t) w' t u v' (xs ++ [x]) := by
  refine ⟨by rw [List.length_append]; exact h1, fun g hg => ?_⟩
  rcases h3 with e | e
  · rw [e] at hg
    rw [paint_old (World.ownsRow.lt h.own g hg).2]
    exact h.tg g hg
  · rw [e] at hg
    cases hg
    exact paint_new (Nat.le_refl _)
theorem OwV.rd (h : OwV T w t u v xs) : ∃ A c, v = .slice A xs.length c ∧ (0 < xs.length → ∃ g, A = some ⟨g, 0, none⟩ ∧ g < w.heap.size ∧ T g = t ∧ ∀ i, i < xs.length → w.cell? ⟨g, i, none⟩ = xs[i]?) := by
  obtain ⟨A, c, rfl, hs, hm, ho⟩ := ownsRow_slG h.own
  refine ⟨A, c, rfl, fun hn => ?_⟩
  obtain ⟨g, o, e, hg, hc⟩ := hs.at_ hn
  rcases ho with rfl | ⟨g', rfl, -⟩
  · cases e
  · cases e
    refine ⟨g, rfl, hg, h.tg g rfl, fun i hi => ?_⟩
    have := hc i hi
    rw [Nat.zero_add] at this
    rw [this, nth_at xs i hi]
end
theorem OwV.empty (T : Mk) (w : World) (t : Nat) (u : TypeId) : OwV (paint T w.heap.size t) (w.alloc (.cells #[] u)) t u (.slice (some ⟨w.heap.size, 0, none⟩) 0 0) [] :=
  ⟨⟨rfl, .inr ⟨w.heap.size, 0, #[], rfl, Nat.zero_le _, heap_alloc_new w _, Nat.le_refl _, Nat.zero_le _, rfl, rfl⟩⟩, fun g hg => by cases hg; exact paint_new (Nat.le_refl _)⟩
theorem sls_u : Try.prog.underlying 54 = some (.slice 9) := by kernel_rfl
theorem str_info : (Try.prog.info? 9).map (fun i => (i.zero, i.size, i.bytes)) = some (some (.string ⟨#[]⟩), 1, 16) := by kernel_rfl
/-- what the first f files read, as strings -/
def ah (d : Dk) (f : Nat) : List Value := (List.range f).map fun j => .string (str (d.f j).all)
theorem ah_len (d : Dk) (f : Nat) : (ah d f).length = f := by simp [ah]
theorem ah_succ (d : Dk) (f : Nat) : ah d (f + 1) = ah d f ++ [.string (str (d.f f).all)] := by unfold ah; rw [List.range_succ, List.map_append]; rfl
theorem ah_get (d : Dk) {n f : Nat} (h : f < n) : (ah d n)[f]? = some (.string (str (d.f f).all)) := by unfold ah; simp [h]
/-- a call to file F of a disk that has power: the other files are as they were -/
structure Oth (F : Int) (d d' : Dk) : Prop where
  live : d'.live
  n : d'.n ≤ d.n + 1
  oth : ∀ j : Nat, (j : Int) ≠ F → d'.f j = d.f j
theorem oth_on {F : Int} {d : Dk} {g : Nat → Nat × Dk} (h : d.live) (hg : ∀ i, (g i).2 = d ∨ ∃ x, (g i).2 = d.done i x) : Oth F d (onF F d g).2 := by
  unfold onF
  split
  · rename_i hF
    rcases hg F.toNat with e | ⟨x, e⟩
    · rw [e]; exact ⟨h, Nat.le_succ _, fun _ _ => rfl⟩
    · rw [e]
      exact ⟨h.done _ _, Nat.le_refl _, fun j hj => done_oth _ _ (by omega)⟩
  · exact ⟨h, Nat.le_succ _, fun _ _ => rfl⟩
theorem Dk.live.app {d : Dk} (h : d.live) (F : Int) (b : By) : Oth F d (onF F d fun i => d.app i b).2 := oth_on h fun i => by
  unfold Dk.app
  rw [if_neg h.alive]
  split
  · exact .inl rfl
  · exact .inr ⟨_, rfl⟩
theorem Dk.live.cut {d : Dk} (h : d.live) (F z : Int) : Oth F d (onF F d fun i => d.cut i z).2 := oth_on h fun i => by
  unfold Dk.cut
  rw [if_neg h.alive]
  split
  · exact .inl rfl
  · exact .inr ⟨_, rfl⟩
theorem Dk.live.sync {d : Dk} (h : d.live) (F : Int) : Oth F d (onF F d fun i => d.sync i).2 := oth_on h fun i => by
  unfold Dk.sync
  rw [if_neg h.alive]
  exact .inr ⟨_, rfl⟩
/-- what DiskFiles holds on its way: the disk, the op in a block, what was read ahead -/
structure Ft (W : World) (T : Mk) (w : World) (B : Nat) (d : Dk) (Z : Nat) (c : Array Value) (v : Value) (xs : List Value) : Prop where
  sn : Sn W T w 1 B d
  row : Oct.row w Z = some c
  tz : T Z = 0
  ah : OwV T w 40 9 v xs
theorem Ft.calm {W : World} {T : Mk} {w w' : World} {B : Nat} {d : Dk} {Z : Nat} {c : Array Value} {v : Value} {xs : List Value} (h : Ft W T w B d Z c v xs) (hb : Below w.heap.size w w') (m : Nat) : Ft W (paint T w.heap.size m) w' B d Z c v xs :=
  ⟨h.sn.calm hb m, carry hb h.row, by rw [paint_old (row_lt h.row)]; exact h.tz, h.ah.fr (Fr.new (H := fun _ => False) hb m) (fun e => e)⟩
theorem Ft.call {W : World} {T T' : Mk} {w w' : World} {B : Nat} {d d' : Dk} {Z : Nat} {c : Array Value} {v : Value} {xs : List Value} (h : Ft W T w B d Z c v xs) (f : Fr T T' (Hs 1) w w') (s : Sn W T' w' 1 B d') : Ft W T' w' B d' Z c v xs :=
  ⟨s, f.rowAt h.row (by rw [h.tz]; exact Hs_0 (by omega)), by rw [f.tag Z (row_lt h.row)]; exact h.tz, h.ah.fr f (fun e => by have := e.2; omega)⟩
theorem own_len (A : Option Addr) (n m c : Nat) : (Value.slice A n c).ownBlock = (Value.slice A m c).ownBlock := by cases A <;> rfl
end Go.Proofs.Ythdhbjfenanbnaa.Oct
