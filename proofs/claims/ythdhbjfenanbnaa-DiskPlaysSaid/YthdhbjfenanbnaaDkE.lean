/- What the cells of disk's blocks say: changes, files, disks; those of the reference. -/
import Derived.Test.YthdhbjfenanbnaaTyDk
namespace Go.Proofs.Ythdhbjfenanbnaa.Oct
open Go.ChangeShapes Go.WideShapes Go.ChangeAt Go.RowKit
set_option linter.unusedVariables false

/-- a change of disk's: kept, bytes -/
def chE (T : Mk) (w : World) (x : Ch) (vs : List Value) : Prop := ∃ A c, vs = [.int .i64 (x.k : Int), .slice A x.b.length c] ∧ RdS T w 0 A x.b.length c (lf x.b)
/-- one of the reference's: Cut, Size, B -/
def doE (T : Mk) (w : World) (x : Ch) (vs : List Value) : Prop :=
  (x.cut = true ∧ vs = [.bool true, .int .i64 (x.k : Int), .slice none 0 0]) ∨ (x.cut = false ∧ ∃ A c, vs = [.bool false, .int .i64 0, .slice A x.b.length c] ∧ RdS T w 0 A x.b.length c (lf x.b))
theorem chE_ok : ElOk 2 chE where
  len := fun ⟨A, c, h, _⟩ => by rw [h]; rfl
  one := fun ⟨A, c, h, _⟩ v hv => by subst h; simp at hv; rcases hv with rfl | rfl <;> rfl
  fr := fun ⟨A, c, h, hr⟩ hf h0 => ⟨A, c, h, hr.fr hf h0⟩
  re := fun ⟨A, c, h, hr⟩ h0 => ⟨A, c, h, hr.re h0⟩
theorem doE_ok : ElOk 3 doE where
  len := fun h => by rcases h with ⟨_, h⟩ | ⟨_, A, c, h, _⟩ <;> (rw [h]; rfl)
  one := fun h v hv => by rcases h with ⟨_, h⟩ | ⟨_, A, c, h, _⟩ <;> subst h <;> simp at hv <;> rcases hv with rfl | rfl | rfl <;> rfl
  fr := fun h hf h0 => by
    rcases h with h | ⟨h1, A, c, h, hr⟩
    · exact .inl h
    · exact .inr ⟨h1, A, c, h, hr.fr hf h0⟩
  re := fun h h0 => by
    rcases h with h | ⟨h1, A, c, h, hr⟩
    · exact .inl h
    · exact .inr ⟨h1, A, c, h, hr.re h0⟩
/-- a Disk's cells: four files (two cells each), steps, off, fused, left -/
@[irreducible] def dkC (V : Nat → Value) (n : Int) (off u : Bool) (l : Int) : Array Value := #[V 0, V 1, V 2, V 3, V 4, V 5, V 6, V 7, .int .i64 n, .bool off, .bool u, .int .i64 l]
/-- the reference's: four files, Off, Left, Count -/
@[irreducible] def rkC (V : Nat → Value) (off : Bool) (l n : Int) : Array Value := #[V 0, V 1, V 2, V 3, V 4, V 5, V 6, V 7, .bool off, .int .i64 l, .int .i64 n]
def updV (V : Nat → Value) (i : Nat) (v : Value) : Nat → Value := fun j => if j = i then v else V j
theorem updV_same (V : Nat → Value) (i : Nat) (v : Value) : updV V i v i = v := by simp [updV]
theorem updV_other (V : Nat → Value) {i j : Nat} (v : Value) (h : j ≠ i) : updV V i v j = V j := by simp [updV, h]
section
variable (V : Nat → Value) (n l : Int) (off u : Bool)
@[go_sem] theorem dk_size : (dkC V n off u l).size = 12 := by unfold dkC; rfl
theorem dk_get {i : Nat} (h : i < 8) : (dkC V n off u l)[i]? = some (V i) := by
  unfold dkC
  rcases (show i = 0 ∨ i = 1 ∨ i = 2 ∨ i = 3 ∨ i = 4 ∨ i = 5 ∨ i = 6 ∨ i = 7 by omega) with rfl | rfl | rfl | rfl | rfl | rfl | rfl | rfl <;> rfl
theorem dk_set {i : Nat} (h : i < 8) (v : Value) : (dkC V n off u l).setIfInBounds i v = dkC (updV V i v) n off u l := by
  unfold dkC
  rcases (show i = 0 ∨ i = 1 ∨ i = 2 ∨ i = 3 ∨ i = 4 ∨ i = 5 ∨ i = 6 ∨ i = 7 by omega) with rfl | rfl | rfl | rfl | rfl | rfl | rfl | rfl <;> rfl
theorem dk_ones (h : ∀ i, i < 8 → (V i).oneCell' = true) : Ones (dkC V n off u l) := by
  unfold Ones dkC
  have h0 := h 0 (by omega); have h1 := h 1 (by omega); have h2 := h 2 (by omega); have h3 := h 3 (by omega); have h4 := h 4 (by omega); have h5 := h 5 (by omega); have h6 := h 6 (by omega); have h7 := h 7 (by omega)
  have a1 : (Value.int .i64 n).oneCell' = true := rfl
  have a2 : (Value.bool off).oneCell' = true := rfl
  have a3 : (Value.bool u).oneCell' = true := rfl
  have a4 : (Value.int .i64 l).oneCell' = true := rfl
  simp [h0, h1, h2, h3, h4, h5, h6, h7, a1, a2, a3, a4]
@[go_sem] theorem rk_size : (rkC V off l n).size = 11 := by unfold rkC; rfl
theorem rk_get {i : Nat} (h : i < 8) : (rkC V off l n)[i]? = some (V i) := by
  unfold rkC
  rcases (show i = 0 ∨ i = 1 ∨ i = 2 ∨ i = 3 ∨ i = 4 ∨ i = 5 ∨ i = 6 ∨ i = 7 by omega) with rfl | rfl | rfl | rfl | rfl | rfl | rfl | rfl <;> rfl
theorem rk_set {i : Nat} (h : i < 8) (v : Value) : (rkC V off l n).setIfInBounds i v = rkC (updV V i v) off l n := by
  unfold rkC
  rcases (show i = 0 ∨ i = 1 ∨ i = 2 ∨ i = 3 ∨ i = 4 ∨ i = 5 ∨ i = 6 ∨ i = 7 by omega) with rfl | rfl | rfl | rfl | rfl | rfl | rfl | rfl <;> rfl
variable {V n l off u}
variable {w : World} {B : Nat}
theorem dk_cells (h : row w B = some (dkC V n off u l)) : w.cell? ⟨B, 8, none⟩ = some (.int .i64 n) ∧ w.cell? ⟨B, 9, none⟩ = some (.bool off) ∧ w.cell? ⟨B, 10, none⟩ = some (.bool u) ∧ w.cell? ⟨B, 11, none⟩ = some (.int .i64 l) := by
  simp only [cell_row h]
  unfold dkC
  exact ⟨rfl, rfl, rfl, rfl⟩
theorem dk_n (h : row w B = some (dkC V n off u l)) (x : Int) : w.setCell ⟨B, 8, none⟩ (.int .i64 x) = w.setRow B (dkC V x off u l) := by rw [setCell_row h]; unfold dkC; rfl
theorem dk_off (h : row w B = some (dkC V n off u l)) (x : Bool) : w.setCell ⟨B, 9, none⟩ (.bool x) = w.setRow B (dkC V n x u l) := by rw [setCell_row h]; unfold dkC; rfl
theorem dk_u (h : row w B = some (dkC V n off u l)) (x : Bool) : w.setCell ⟨B, 10, none⟩ (.bool x) = w.setRow B (dkC V n off x l) := by rw [setCell_row h]; unfold dkC; rfl
theorem dk_l (h : row w B = some (dkC V n off u l)) (x : Int) : w.setCell ⟨B, 11, none⟩ (.int .i64 x) = w.setRow B (dkC V n off u x) := by rw [setCell_row h]; unfold dkC; rfl
theorem rk_cells (h : row w B = some (rkC V off l n)) : w.cell? ⟨B, 8, none⟩ = some (.bool off) ∧ w.cell? ⟨B, 9, none⟩ = some (.int .i64 l) ∧ w.cell? ⟨B, 10, none⟩ = some (.int .i64 n) := by
  simp only [cell_row h]
  unfold rkC
  exact ⟨rfl, rfl, rfl⟩
theorem rk_off (h : row w B = some (rkC V off l n)) (x : Bool) : w.setCell ⟨B, 8, none⟩ (.bool x) = w.setRow B (rkC V x l n) := by rw [setCell_row h]; unfold rkC; rfl
theorem rk_l (h : row w B = some (rkC V off l n)) (x : Int) : w.setCell ⟨B, 9, none⟩ (.int .i64 x) = w.setRow B (rkC V off x n) := by rw [setCell_row h]; unfold rkC; rfl
theorem rk_n (h : row w B = some (rkC V off l n)) (x : Int) : w.setCell ⟨B, 10, none⟩ (.int .i64 x) = w.setRow B (rkC V off l x) := by rw [setCell_row h]; unfold rkC; rfl
end
/-- a file of disk's: what is durable, what is pending; the marks t and t + 1 -/
structure FilAt (T : Mk) (w : World) (t : Nat) (vd vp : Value) (x : Fl) : Prop where
  d : OwB T w t 5 vd x.s
  p : ElOw 2 chE T w (t + 1) 67 vp x.l
  ok : x.ok
theorem FilAt.fr {T T' : Mk} {H : Nat → Prop} {w w' : World} {t : Nat} {vd vp : Value} {x : Fl} (h : FilAt T w t vd vp x) (hf : Fr T T' H w w') (h1 : ¬ H t) (h2 : ¬ H (t + 1)) (h0 : ¬ H 0) : FilAt T' w' t vd vp x :=
  ⟨h.d.fr hf h1, h.p.fr chE_ok hf h2 h0, h.ok⟩
/-- a Disk in block B: marks t (itself) to t + 8 -/
structure DkAt (T : Mk) (w : World) (t B : Nat) (d : Dk) : Prop where
  tg : T B = t
  row : ∃ V l, Oct.row w B = some (dkC V d.n d.off d.u.isSome l) ∧ (∀ m, d.u = some m → l = (m : Int)) ∧ (-9223372036854775808 ≤ l ∧ l < 9223372036854775808) ∧ ∀ i, i < 4 → FilAt T w (t + 1 + 2 * i) (V (2 * i)) (V (2 * i + 1)) (d.f i)
/-- marks of one disk -/
def Hs (t : Nat) : Nat → Prop := fun c => t ≤ c ∧ c ≤ t + 8
theorem DkAt.fr {T T' : Mk} {H : Nat → Prop} {w w' : World} {t B : Nat} {d : Dk} (h : DkAt T w t B d) (hf : Fr T T' H w w') (hn : ∀ c, Hs t c → ¬ H c) (h0 : ¬ H 0) : DkAt T' w' t B d := by
  obtain ⟨V, l, hr, h1, h2, h3⟩ := h.row
  refine ⟨by rw [hf.tag B (row_lt hr)]; exact h.tg, ⟨V, l, hf.rowAt hr (by rw [h.tg]; exact hn t ⟨by omega, by omega⟩), h1, h2, fun i hi => (h3 i hi).fr hf (hn _ ⟨by omega, by omega⟩) (hn _ ⟨by omega, by omega⟩) h0⟩⟩
/-- a file of the reference's: what is sure, what was done since; marks 0 and t -/
structure RFil (T : Mk) (w : World) (t : Nat) (vd vp : Value) (x : Fl) : Prop where
  d : ∃ A c, vd = .slice A x.s.length c ∧ RdS T w 0 A x.s.length c (lf x.s)
  p : ElOw 3 doE T w t 77 vp x.l
  ok : x.ok
theorem RFil.fr {T T' : Mk} {H : Nat → Prop} {w w' : World} {t : Nat} {vd vp : Value} {x : Fl} (h : RFil T w t vd vp x) (hf : Fr T T' H w w') (h1 : ¬ H t) (h0 : ¬ H 0) : RFil T' w' t vd vp x :=
  ⟨by obtain ⟨A, c, e, hr⟩ := h.d; exact ⟨A, c, e, hr.fr hf h0⟩, h.p.fr doE_ok hf h1 h0, h.ok⟩
def leftI (u : Option Nat) : Int := match u with | none => -1 | some m => m
/-- the reference's Disk in block B: marks t (itself) to t + 4 -/
structure RkAt (T : Mk) (w : World) (t B : Nat) (d : Dk) : Prop where
  tg : T B = t
  row : ∃ V, Oct.row w B = some (rkC V d.off (leftI d.u) d.n) ∧ (∀ m, d.u = some m → m < 9223372036854775808) ∧ ∀ i, i < 4 → RFil T w (t + 1 + i) (V (2 * i)) (V (2 * i + 1)) (d.f i)
theorem RkAt.fr {T T' : Mk} {H : Nat → Prop} {w w' : World} {t B : Nat} {d : Dk} (h : RkAt T w t B d) (hf : Fr T T' H w w') (hn : ∀ c, Hs t c → ¬ H c) (h0 : ¬ H 0) : RkAt T' w' t B d := by
  obtain ⟨V, hr, h2, h3⟩ := h.row
  refine ⟨by rw [hf.tag B (row_lt hr)]; exact h.tg, ⟨V, hf.rowAt hr (by rw [h.tg]; exact hn t ⟨by omega, by omega⟩), h2, fun i hi => (h3 i hi).fr hf (hn _ ⟨by omega, by omega⟩) h0⟩⟩
end Go.Proofs.Ythdhbjfenanbnaa.Oct
