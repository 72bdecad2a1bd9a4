/- The laws' Op as a whole: loaded, laid into a block; DiskFuse by the numbers. -/
import Derived.Test.YthdhbjfenanbnaaDkV
import Derived.Deep.CutBlock
namespace Go.Proofs.Ythdhbjfenanbnaa.Oct
open Go.ChangeShapes Go.WideShapes Go.ChangeAt Go.RowKit
set_option linter.unusedVariables false

theorem op_i : (Try.prog.info? 32).map (·.size) = some 5 := by kernel_rfl
@[go_sem ↓] theorem op_l61 (p : Value) : Instr.loadAt 32 p = ldA 32 p := rfl
@[go_sem ↓] theorem op_s61 (p v : Value) : Instr.storeAt 32 p v = stA 32 p v := rfl
@[go_sem] theorem op_size (x : OpM) (u v : Value) : (opC x u v).size = 5 := by unfold opC; rfl
@[go_sem] theorem op_e0 (x : OpM) (u v : Value) (h : 0 < (opC x u v).size) : (opC x u v)[0] = .int .i64 x.k := by simp [opC]
@[go_sem] theorem op_e1 (x : OpM) (u v : Value) (h : 1 < (opC x u v).size) : (opC x u v)[1] = .int .i64 x.f := by simp [opC]
@[go_sem] theorem op_e2 (x : OpM) (u v : Value) (h : 2 < (opC x u v).size) : (opC x u v)[2] = .int .i64 x.z := by simp [opC]
@[go_sem] theorem op_e3 (x : OpM) (u v : Value) (h : 3 < (opC x u v).size) : (opC x u v)[3] = u := by simp [opC]
@[go_sem] theorem op_e4 (x : OpM) (u v : Value) (h : 4 < (opC x u v).size) : (opC x u v)[4] = v := by simp [opC]
theorem op_ones (x : OpM) {u v : Value} (hu : u.oneCell' = true) (hv : v.oneCell' = true) : Ones (opC x u v) := by
  unfold Ones opC
  have a1 : (Value.int .i64 x.k).oneCell' = true := rfl
  have a2 : (Value.int .i64 x.f).oneCell' = true := rfl
  have a3 : (Value.int .i64 x.z).oneCell' = true := rfl
  simp [hu, hv, a1, a2, a3]
theorem op_lw {w : World} {g o : Nat} {x : OpM} {u v : Value} (h : ∀ j, j < 5 → w.cell? ⟨g, o + j, none⟩ = (opC x u v)[j]?) : (ldA 32 (.pointer (some ⟨g, o, none⟩))).run Try.prog w = .ok (.agg (opC x u v)) w := by
  have hx := run_loadAt_mid (P := Try.prog) w g o 32 (opC x u v).toList _ (fun j y hy => by
    have hj : j < 5 := by
      have := (List.getElem?_eq_some_iff.1 hy).1
      rw [Array.length_toList, op_size] at this
      exact this
    rw [h j hj, ← Array.getElem?_toList]
    exact hy) Try.underlying32 rfl (by rw [op_i, Array.length_toList, op_size])
  rw [Array.toArray_toList] at hx
  exact hx
theorem op_sw {w : World} {B : Nat} {x : OpM} {u v : Value} {c : Array Value} (h : row w B = some c) (hc : c.size = 5) (hu : u.oneCell' = true) (hv : v.oneCell' = true) : (stA 32 (.pointer (some ⟨B, 0, none⟩)) (.agg (opC x u v))).run Try.prog w = .ok () (w.setRow B (opC x u v)) := by
  rw [st_rule _ 5 op_i, h]
  exact stR_whole _ _ _ _ _ _ _ hc.symm (by rw [op_size, hc]) (op_ones x hu hv)
theorem op_cells {w : World} {B : Nat} {x : OpM} {u v : Value} (h : row w B = some (opC x u v)) : w.cell? ⟨B, 0, none⟩ = some (.int .i64 x.k) ∧ w.cell? ⟨B, 1, none⟩ = some (.int .i64 x.f) ∧ w.cell? ⟨B, 2, none⟩ = some (.int .i64 x.z) ∧ w.cell? ⟨B, 3, none⟩ = some u ∧ w.cell? ⟨B, 4, none⟩ = some v := by
  simp only [cell_row h]
  unfold opC
  exact ⟨rfl, rfl, rfl, rfl, rfl⟩
/-- few bytes of what came in -/
theorem few_sl {w : World} {B c : Nat} {A : Option Addr} {l : By} (h : Sl w B A l.length c (lf l)) : Sl w B A (l.take 100).length c (lf (l.take 100)) := by
  have hl : (l.take 100).length ≤ l.length := by rw [List.length_take]; omega
  refine (h.upto _ hl).congr fun i hi => ?_
  rw [List.length_take] at hi
  exact (lf_take _ _ _ (by omega)).symm
theorem few_len (l : By) : min l.length 100 = (l.take 100).length := by rw [List.length_take, Nat.min_comm]
/-- a disk whose fuse lets k steps be done, on its way -/
structure Fu (k : Nat) (d : Dk) : Prop where
  le : d.n ≤ k
  u : d.u = some (k - d.n)
  off : d.off = true → d.n = k
  sz : ∀ i, i < 4 → (d.f i).all.length ≤ 100 * d.n
theorem Fu.new (k : Nat) : Fu k (newD.fuse (k : Int)) := by
  refine ⟨Nat.zero_le _, ?_, fun e => (by cases e), fun i _ => Nat.le_refl _⟩
  show (if (k : Int) < 0 then none else some (k : Int).toNat) = some (k - 0)
  rw [if_neg (by omega), Int.toNat_natCast]
  rfl
theorem Fu.dead {k : Nat} {d : Dk} (h : Fu k d) : d.dead ↔ d.n = k := by
  have := h.le
  constructor
  · rintro (e | e)
    · exact h.off e
    · rw [h.u] at e; injection e with e; omega
  · intro e
    right
    rw [h.u, e, Nat.sub_self]
/-- a step that is done, or not -/
structure Stp (k : Nat) (d : Dk) (e : Nat) (d' : Dk) : Prop where
  does : (e = 0 ∧ d.n < k ∧ d'.n = d.n + 1 ∧ d'.off = false) ∨ (e = 5 ∧ ¬ d.n < k ∧ d'.n = d.n ∧ d'.off = true)
  fu : Fu k d'
theorem Fu.dark {k : Nat} {d : Dk} (h : Fu k d) (hd : d.dead) : Stp k d 5 d.dark := by
  have := h.dead.1 hd
  exact ⟨.inr ⟨rfl, by omega, rfl, rfl⟩, h.le, h.u, fun _ => this, h.sz⟩
theorem Fu.done {k : Nat} {d : Dk} (h : Fu k d) (hd : ¬ d.dead) (i : Nat) (x : Fl) (hx : x.all.length ≤ (d.f i).all.length + 100) : Stp k d 0 (d.done i x) := by
  have h1 : ¬ d.n = k := fun e => hd (h.dead.2 e)
  have h2 := h.le
  have ho : d.off = false := by
    rcases e : d.off with _ | _
    · rfl
    · exact absurd (h.off e) h1
  refine ⟨.inl ⟨rfl, by omega, rfl, ho⟩, by show d.n + 1 ≤ k; omega, ?_, fun e => ?_, fun j hj => ?_⟩
  · show d.u.map (· - 1) = some (k - (d.n + 1))
    rw [h.u]
    rfl
  · rw [show (d.done i x).off = d.off from rfl, ho] at e; cases e
  · show ((updD d.f i x) j).all.length ≤ 100 * (d.n + 1)
    have := h.sz j hj
    by_cases e : j = i
    · subst e; rw [updD_same]; omega
    · rw [updD_other _ _ e]; omega
theorem Fu.app {k : Nat} {d : Dk} (h : Fu k d) (hk : k ≤ 40) {i : Nat} (hi : i < 4) {b : By} (hb : b.length ≤ 100) : Stp k d (onF (i : Int) d fun i => d.app i b).1 (onF (i : Int) d fun i => d.app i b).2 := by
  rw [on_in i hi]
  unfold Dk.app
  have h1 := h.sz i hi
  have h2 := h.le
  have hM := maxF_eq
  split
  · rename_i hd; exact h.dark hd
  · rename_i hd
    rw [if_neg (by omega)]
    exact h.done hd i _ (by rw [Fl.all_app, List.length_append]; omega)
theorem Fu.cut {k : Nat} {d : Dk} (h : Fu k d) {i : Nat} (hi : i < 4) : Stp k d (onF (i : Int) d fun i => d.cut i 0).1 (onF (i : Int) d fun i => d.cut i 0).2 := by
  rw [on_in i hi]
  unfold Dk.cut
  rw [if_neg (by omega)]
  split
  · rename_i hd; exact h.dark hd
  · rename_i hd
    exact h.done hd i _ (by rw [Fl.all_cut, List.length_take]; omega)
theorem Fu.sync {k : Nat} {d : Dk} (h : Fu k d) {i : Nat} (hi : i < 4) : Stp k d (onF (i : Int) d fun i => d.sync i).1 (onF (i : Int) d fun i => d.sync i).2 := by
  rw [on_in i hi]
  unfold Dk.sync
  split
  · rename_i hd; exact h.dark hd
  · rename_i hd
    exact h.done hd i _ (by rw [Fl.all_sync]; omega)
end Go.Proofs.Ythdhbjfenanbnaa.Oct
