/- A call of the plays in a variable; what stays true of the sessions on the way. -/
import Derived.Test.YthokiohdeclmhaaSsO
namespace Go.Proofs.Ythokiohdeclmhaa.Oct
open Go.ChangeShapes Go.WideShapes Go.ChangeAt Go.RowKit Go.Maps
set_option linter.unusedVariables false

abbrev osA (o : OpS) : Array Value := #[.int .i64 o.k, .int .i64 o.id, .int .i64 o.q, .int .i64 o.c, .int .i64 o.n, .int .i64 o.m, .slice o.A o.T o.e]
theorem os_i : (Try.prog.info? 33).map (·.size) = some 7 := by kernel_rfl
@[go_sem ↓] theorem os_l (p : Value) : Instr.loadAt 33 p = ldA 33 p := rfl
@[go_sem ↓] theorem os_s (p v : Value) : Instr.storeAt 33 p v = stA 33 p v := rfl
@[go_sem] theorem os_ld (w : World) (b o : Nat) : (ldA 33 (.pointer (some ⟨b, o, none⟩))).run Try.prog w = ldR Try.prog 33 7 w b o (row w b) := ld_rowS _ _ Try.underlying33 rfl 7 os_i w b o
@[go_sem] theorem os_st (w : World) (b o : Nat) (c : Array Value) : (stA 33 (.pointer (some ⟨b, o, none⟩)) (.agg c)).run Try.prog w = stR Try.prog 33 7 w b o (.agg c) (row w b) := st_rule _ 7 os_i w b o c
theorem ones7 (x0 x1 x2 x3 x4 x5 : Int) (A : Option Addr) (n c : Nat) : Ones #[.int .i64 x0, .int .i64 x1, .int .i64 x2, .int .i64 x3, .int .i64 x4, .int .i64 x5, .slice A n c] := by
  unfold Ones
  have a (x : Int) : (Value.int .i64 x).oneCell' = true := rfl
  have b : (Value.slice A n c).oneCell' = true := rfl
  simp [a, b]
@[go_sem] theorem os_stx (P : Program) (t : Nat) (w : World) (b : Nat) (x0 x1 x2 x3 x4 x5 : Int) (A : Option Addr) (n c : Nat) (y0 y1 y2 y3 y4 y5 y6 : Value) :
    stR P t 7 w b 0 (.agg #[.int .i64 x0, .int .i64 x1, .int .i64 x2, .int .i64 x3, .int .i64 x4, .int .i64 x5, .slice A n c]) (some #[y0, y1, y2, y3, y4, y5, y6]) = .ok () (w.setRow b #[.int .i64 x0, .int .i64 x1, .int .i64 x2, .int .i64 x3, .int .i64 x4, .int .i64 x5, .slice A n c]) :=
  stR_whole P t 7 w b _ _ rfl rfl (ones7 _ _ _ _ _ _ _ _ _)
@[go_sem] theorem rp_ld3 (P : Program) (t : Nat) (w : World) (b : Nat) (x0 x1 x2 x3 x4 x5 x6 : Value) : ldR P t 4 w b 3 (some #[x0, x1, x2, x3, x4, x5, x6]) = .ok (.agg #[x3, x4, x5, x6]) w := by unfold ldR; simp
/-- one out of cells -/
theorem os_cells (w : World) (g o : Nat) (x : OpS) (hc : ∀ j, j < 7 → w.cell? ⟨g, o + j, none⟩ = (osC x)[j]?) :
    ldR Try.prog 33 7 w g o (row w g) = .ok (.agg (osA x)) w := by
  rw [← os_ld]
  exact run_loadAt_mid (P := Try.prog) w g o 33 (osC x) _ (fun j y hy => by
    by_cases hj : j < 7
    · rw [hc j hj]; exact hy
    · rw [List.getElem?_eq_none (by show 7 ≤ j; omega)] at hy; cases hy) Try.underlying33 rfl (by rw [os_i]; rfl)
theorem cells7S {w : World} {B : Nat} {a b c d e f g : Value} (h : row w B = some #[a, b, c, d, e, f, g]) : w.cell? ⟨B, 0, none⟩ = some a ∧ w.cell? ⟨B, 1, none⟩ = some b ∧ w.cell? ⟨B, 2, none⟩ = some c := by
  simp only [cell_row h]
  exact ⟨rfl, rfl, rfl⟩
/-- the i-th call that came in, in a later world -/
theorem ops_at {w w' : World} {v : Value} {l : List OpS} (h : InS 7 osE w v l) (hb : Below w.heap.size w w') {i : Nat} (hi : i < l.length) :
    ∃ g o c, v = .slice (some ⟨g, o, none⟩) l.length c ∧ l.length ≤ c ∧ ldR Try.prog 33 7 w' g (o + i * 7) (row w' g) = .ok (.agg (osA l[i])) w' ∧ OsW w l[i] := by
  obtain ⟨A, c, e, hl, -, h2⟩ := h.at_
  obtain ⟨g, o, rfl, hg, hel⟩ := h2 (by omega)
  obtain ⟨vs, ⟨rfl, hw⟩, hc⟩ := hel i hi
  exact ⟨g, o, c, e, hl, os_cells w' g (o + i * 7) l[i] fun j hj => by rw [hb.cell (p := ⟨g, o + i * 7 + j, none⟩) hg]; exact hc j hj, hw⟩
/-- no session's last request is below nought -/
def SsQ (l : List Se) : Prop := ∀ s ∈ l, 0 ≤ s.q
theorem SsQ.nil : SsQ [] := fun s h => absurd h List.not_mem_nil
theorem SsQ.opn {l : List Se} {g : Int} (h : SsQ l) : SsQ (opL l g) := by
  unfold opL
  split
  · exact h
  · intro s hs
    rcases List.mem_append.1 hs with h1 | h1
    · exact h s h1
    · rw [List.mem_singleton] at h1
      subst h1
      exact Int.le_refl 0
theorem SsQ.drop {l : List Se} (h : SsQ l) (id : Int) : SsQ (ssX l id) := fun s hs => h s (List.mem_filter.1 hs).1
theorem SsQ.dn {l : List Se} (h : SsQ l) (x : Se) : SsQ (dnL l x) := by
  unfold dnL
  split
  · rename_i e
    obtain ⟨s, h1, h2, -⟩ := dn_there e
    have h3 := h s (ssG_some h1).1
    intro y hy
    rcases ssD_mem hy with rfl | ⟨h4, -⟩
    · omega
    · exact h y h4
  · exact h
/-- what is struck isn't there -/
theorem ak_gone (l : List Se) (id q : Int) : akE (ssX l id) id q = 150 ∧ akB (ssX l id) id q = false ∧ akS (ssX l id) id q = .new 0 := by
  have h : ssG (ssX l id) id = none := List.find?_eq_none.2 fun s hs => by
    have := (List.mem_filter.1 hs).2
    simpa using this
  unfold akE akB akS
  rw [h]
  exact ⟨rfl, rfl, rfl⟩
/-- what is done is told again, and not done twice -/
theorem ak_done {l : List Se} (hq : SsQ l) {x : Se} (h : dnE l x.id x.q = 0) : akE (dnL l x) x.id x.q = 0 ∧ akB (dnL l x) x.id x.q = true ∧ akS (dnL l x) x.id x.q = x ∧ dnE (dnL l x) x.id x.q = 151 ∧ dnL (dnL l x) x = dnL l x := by
  obtain ⟨s, h1, h2, h3⟩ := dn_there h
  have h0 := hq s (ssG_some h1).1
  have hL : dnL l x = ssD l x := if_pos h
  have hG : ssG (ssD l x) x.id = some x := by
    have hh := ssH_D l x h3 x.id
    rw [h3, ssH_G] at hh
    obtain ⟨y, hy⟩ := Option.isSome_iff_exists.1 hh
    rcases ssG_D hy with ⟨-, rfl⟩ | ⟨e, -⟩
    · exact hy
    · exact absurd rfl e
  have hE : dnE (ssD l x) x.id x.q = 151 := by unfold dnE; rw [hG]; exact if_pos (Int.le_refl _)
  rw [hL]
  unfold akE akB akS
  rw [hG]
  refine ⟨if_neg (by omega), decide_eq_true (by omega), if_pos (by omega), hE, ?_⟩
  unfold dnL
  rw [hE]
  exact if_neg (by omega)
end Go.Proofs.Ythokiohdeclmhaa.Oct
