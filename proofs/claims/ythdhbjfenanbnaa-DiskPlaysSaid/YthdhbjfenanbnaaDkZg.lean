/- What DiskPlays wants beside: a clone, and what the old one does then. -/
import Derived.Test.YthdhbjfenanbnaaDkZf
namespace Go.Proofs.Ythdhbjfenanbnaa.Oct
open Go.ChangeShapes Go.WideShapes Go.ChangeAt Go.RowKit
set_option linter.unusedVariables false

/-- the other of two sets of marks -/
def oth (t : Nat) : Nat := 30 - t
/-- a pair, and the disk that it was cloned from -/
structure So (W : World) (T : Mk) (w : World) (t B t' B' R : Nat) (d d' e : Dk) : Prop where
  sp : Sp W T w t B R d e
  old : Sn W T w t' B' d'
  ap : (t = 10 ∧ t' = 20) ∨ (t = 20 ∧ t' = 10)
section
variable {W : World} {T T' : Mk} {w w' : World} {t t' B B' R : Nat} {d d' d2 e : Dk}
theorem So.step (h : So W T w t B t' B' R d d' e) (hf : Fr T T' (Hs t') w w') (hs : Sn W T' w' t' B' d2) : So W T' w' t B t' B' R d d2 e :=
  ⟨⟨h.sp.sn.other hf (fun c hc he => by have h1 := hc.1; have h2 := hc.2; have h3 := he.1; have h4 := he.2; rcases h.ap with ⟨rfl, rfl⟩ | ⟨rfl, rfl⟩ <;> omega) (Hs_0 (by rcases h.ap with ⟨rfl, rfl⟩ | ⟨rfl, rfl⟩ <;> omega)),
    h.sp.rk.fr hf (fun c hc he => by have h1 := hc.1; have h4 := he.2; rcases h.ap with ⟨rfl, rfl⟩ | ⟨rfl, rfl⟩ <;> omega) (Hs_0 (by rcases h.ap with ⟨rfl, rfl⟩ | ⟨rfl, rfl⟩ <;> omega)), h.sp.ek, h.sp.t0, h.sp.t1⟩, hs, h.ap⟩
theorem So.calm (h : So W T w t B t' B' R d d' e) (hb : Below w.heap.size w w') (c : Nat) : So W (paint T w.heap.size c) w' t B t' B' R d d' e := ⟨h.sp.calm hb c, h.old.calm hb c, h.ap⟩
theorem s_clone (h : Sp W T w t B R d e) (ht : t = 10 ∨ t = 20) (hn : d.n < 1000000000000) :
    Calls Try.prog 12 #[.pointer (some ⟨B, 0, none⟩)] w fun x w' => ∃ T' B', x = .returned (.pointer (some ⟨B', 0, none⟩)) ∧ So W T' w' (oth t) B' t B R d d e :=
  (p_clone h.sn (t2 := oth t) (by unfold oth; omega) hn).mono fun x w' ⟨T', B', h1, h2, h3, h4⟩ =>
    ⟨T', B', h1, ⟨⟨h4, h.rk.fr h2 (fun _ _ e => e) (fun e => e), h.ek, by unfold oth; omega, by unfold oth; omega⟩, h3, by unfold oth; omega⟩⟩
end
def anw : By := [97#8, 110#8, 111#8, 116#8, 104#8, 101#8, 114#8, 32#8, 119#8, 97#8, 121#8]
theorem lit_anw : (#[.int .u8 97, .int .u8 110, .int .u8 111, .int .u8 116, .int .u8 104, .int .u8 101, .int .u8 114, .int .u8 32, .int .u8 119, .int .u8 97, .int .u8 121] : Array Value) = ba 11 (lf anw) := by unfold ba anw; kernel_rfl
theorem So.lit {W : World} {T : Mk} {w : World} {t t' B B' R n : Nat} {d d' e : Dk} {C : Array Value} {l : By} (h : So W T w t B t' B' R d d' e) (hC : C = ba n (lf l)) (u : TypeId) (m : Nat × Nat) :
    ∃ w', w' = w.alloc (.cells C u m) ∧ So W (paint T w.heap.size 0) w' t B t' B' R d d' e ∧ Sl w' w'.heap.size (some ⟨w.heap.size, 0, none⟩) n n (lf l) := by
  have b1 : Below w.heap.size w (w.alloc (.cells C u m)) := (Below.refl _ _).alloc (Nat.le_refl _) _
  exact ⟨_, rfl, h.calm b1 0, Sl.lit w hC u m _ (by simp)⟩
end Go.Proofs.Ythdhbjfenanbnaa.Oct
