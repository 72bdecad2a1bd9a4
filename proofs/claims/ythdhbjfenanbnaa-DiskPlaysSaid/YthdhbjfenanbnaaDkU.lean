/- One element of k cells laid behind a row; literals of one such element. -/
import Derived.Test.YthdhbjfenanbnaaDkE
namespace Go.Proofs.Ythdhbjfenanbnaa.Oct
open Go.ChangeShapes Go.WideShapes Go.ChangeAt Go.RowKit
set_option linter.unusedVariables false

theorem ownsRow_calm {w w' : World} {b n k : Nat} {u : TypeId} {v : Value} {xs : List Value} (h : w.ownsRow b u k v n xs) (hb : Below w.heap.size w w') : w'.ownsRow b u k v n xs := by
  refine ⟨h.1, ?_⟩
  rcases h.2 with hn | ⟨g, cap, cur, e, hbg, hg, rest⟩
  · exact .inl hn
  · exact .inr ⟨g, cap, cur, e, hbg, by rw [hb.block g (Array.getElem?_eq_some_iff.1 hg).1]; exact hg, rest⟩
theorem wpl_appEl {P : Program} {w : World} {ops : Array Oper} {rest : List Oper} {o : Oper} {a : Act} {Q : Exit → Act → World → Prop} (hgd : o.guard = none) (s y : Operand) {t u : TypeId} {z : Value} {k bytes : Nat} (ho : o.op = .call { callee := .builtin .append, args := #[s, y], argTypes := #[t, t] })
    (ht : P.underlying t = some (.slice u)) (hi : (P.info? u).map (fun i => (i.zero, i.size, i.bytes)) = some (some z, k, bytes)) (hz : z.cells.size = k) (hk : 0 < k) (hb : bytes ≤ 64)
    {v : Value} {n : Nat} {xs : List Value} (hown : w.ownsRow 0 u k v n xs) {p : Nat} {vs : List Value} (hr : row w p = some vs.toArray) (hl : vs.length = k) (h1 : ∀ x ∈ vs, x.oneCell' = true) (hn : n ≤ 1000000000000)
    (hv : a.eval s = v) (hy : a.eval y = .slice (some ⟨p, 0, none⟩) 1 1)
    (h : ∀ v' w', w'.ownsRow 0 u k v' (n + 1) (xs ++ vs) → w.grownBy w' v.ownBlock → (v'.ownBlock = v.ownBlock ∨ v'.ownBlock = some w.heap.size) → wpList P ops Q rest (a.put o.dst v') w') : wpList P ops Q (o :: rest) a w := by
  refine wpList_plain hgd fun K hK => ?_
  cases hq : P.info? u with
  | none => rw [hq] at hi; cases hi
  | some i =>
    rw [hq] at hi
    have h0 : (i.zero, i.size, i.bytes) = (some z, k, bytes) := Option.some.inj hi
    simp only [Prod.mk.injEq] at h0
    obtain ⟨z0, z1, z2⟩ := h0
    obtain ⟨v', w', a1, a2, a3, _, a5⟩ := run_append_own_at (P := P) w 0 t o.type u i z k bytes ht hq z0 z1 z2 hz hk v n xs hown ⟨p, 0, none⟩ 1 1 vs (by omega)
      (fun j x hx => by rw [add_mid, Nat.zero_add, cell_row hr, List.getElem?_toArray]; exact hx) h1 (by unfold maxLen; omega) (by have := Nat.mul_le_mul (show n + 1 ≤ 1000000000001 by omega) hb; omega) (Nat.zero_le _)
    unfold Oper.wp execOp
    simp only [ho, resolve, invoke, builtin, Sem.run_bind, Sem.run_pure, Result.andThen_ok, List.map_toArray, List.map_cons, List.map_nil, hv, hy, a1]
    exact hK _ _ (h v' w' a2 a3 a5)
theorem bs_chg (x : Int) (A : Option Addr) (n c : Nat) (w : World) : (Instr.buildSlice 56 1 #[(0, .agg #[.int .i64 x, .slice A n c])]).run Try.prog w = .ok (.slice (some ⟨w.heap.size, 0, none⟩) 1 1) (w.alloc (.cells #[.int .i64 x, .slice A n c] 67)) := by kernel_rfl
theorem ex_chg (ρ : Operand → Value) {o : Oper} (t : Operand) (ho : o.op = .buildSlice 56 1 #[(0, t)]) (x : Int) (A : Option Addr) (n c : Nat) (hx : ρ t = .agg #[.int .i64 x, .slice A n c]) (w : World) : (execOp ρ o).run Try.prog w = .ok (.value (.slice (some ⟨w.heap.size, 0, none⟩) 1 1)) (w.alloc (.cells #[.int .i64 x, .slice A n c] 67)) := by
  unfold execOp
  simp only [ho, Sem.run_bind, List.map_toArray, List.map_cons, List.map_nil, hx]
  rw [bs_chg]
  rfl
theorem bs_don (y : Bool) (x : Int) (A : Option Addr) (n c : Nat) (w : World) : (Instr.buildSlice 37 1 #[(0, .agg #[.bool y, .int .i64 x, .slice A n c])]).run Try.prog w = .ok (.slice (some ⟨w.heap.size, 0, none⟩) 1 1) (w.alloc (.cells #[.bool y, .int .i64 x, .slice A n c] 77)) := by kernel_rfl
theorem ex_don (ρ : Operand → Value) {o : Oper} (t : Operand) (ho : o.op = .buildSlice 37 1 #[(0, t)]) (y : Bool) (x : Int) (A : Option Addr) (n c : Nat) (hx : ρ t = .agg #[.bool y, .int .i64 x, .slice A n c]) (w : World) : (execOp ρ o).run Try.prog w = .ok (.value (.slice (some ⟨w.heap.size, 0, none⟩) 1 1)) (w.alloc (.cells #[.bool y, .int .i64 x, .slice A n c] 77)) := by
  unfold execOp
  simp only [ho, Sem.run_bind, List.map_toArray, List.map_cons, List.map_nil, hx]
  rw [bs_don]
  rfl
end Go.Proofs.Ythdhbjfenanbnaa.Oct
