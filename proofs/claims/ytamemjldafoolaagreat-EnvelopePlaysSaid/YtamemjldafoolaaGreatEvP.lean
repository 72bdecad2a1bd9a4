/- The state of EnvelopePlays: both keyrings, the blobs that were made. -/
import Derived.Test.YtamemjldafoolaaGreatEvZ
import Derived.Test.YtamemjldafoolaaGreatEvOp
import Derived.Test.YtamemjldafoolaaGreatEvBz
import Derived.Test.YtamemjldafoolaaGreatKpI
import Derived.Test.YtamemjldafoolaaGreatKrAll
import Derived.Test.YtamemjldafoolaaGreatEvKi
namespace Go.Proofs.YtamemjldafoolaaGreat.Oct
open Go.ChangeShapes Go.WideShapes Go.ChangeAt Go.RowKit
set_option linter.unusedVariables false

/-- a row of one-cell values of mark t that may be appended to -/
structure OwZ (T : Mk) (w : World) (t : Nat) (u : TypeId) (v : Value) (xs : List Value) : Prop where
  own : w.ownsRow 0 u 1 v xs.length xs
  tg : ∀ g, v.ownBlock = some g → T g = t
section
variable {T T' T2 : Mk} {H : Nat → Prop} {w w' w2 : World} {t : Nat} {u : TypeId} {v : Value} {xs : List Value}
theorem OwZ.fr (h : OwZ T w t u v xs) (hf : Fr T T' H w w') (ht : ¬ H t) : OwZ T' w' t u v xs := by
  refine ⟨?_, fun g hg => by rw [hf.tag g (World.ownsRow.lt h.own g hg).2]; exact h.tg g hg⟩
  refine ⟨h.own.1, ?_⟩
  rcases h.own.2 with hn | ⟨g, cap, cur, rfl, hb, hg, rest⟩
  · exact .inl hn
  · exact .inr ⟨g, cap, cur, rfl, hb, by rw [hf.keep g (Array.getElem?_eq_some_iff.1 hg).1 (by rw [h.tg g rfl]; exact ht)]; exact hg, rest⟩
theorem OwZ.app {x : Value} {v' : Value} (h : OwZ T w t u v xs) (h1 : w'.ownsRow 0 u 1 v' (xs.length + 1) (xs ++ [x])) (h3 : v'.ownBlock = v.ownBlock ∨ v'.ownBlock = some w.heap.size) :
    OwZ (paint T w.heap.size t) w' t u v' (xs ++ [x]) := by
  refine ⟨by rw [List.length_append]; exact h1, fun g hg => ?_⟩
  rcases h3 with e | e
  · rw [e] at hg
    rw [paint_old (World.ownsRow.lt h.own g hg).2]
    exact h.tg g hg
  · rw [e] at hg
    cases hg
    exact paint_new (Nat.le_refl _)
theorem OwZ.rd (h : OwZ T w t u v xs) : ∃ A c, v = .slice A xs.length c ∧ (0 < xs.length → ∃ g, A = some ⟨g, 0, none⟩ ∧ g < w.heap.size ∧ T g = t ∧ ∀ i, i < xs.length → w.cell? ⟨g, i, none⟩ = xs[i]?) := by
  obtain ⟨A, c, rfl, hs, hm, ho⟩ := ownsRow_slG h.own
  refine ⟨A, c, rfl, fun hn => ?_⟩
  obtain ⟨g, o, e, hg, hc⟩ := hs.at_ hn
  rcases ho with rfl | ⟨g', rfl, -⟩
  · cases e
  · cases e
    refine ⟨g, rfl, hg, h.tg g rfl, fun i hi => ?_⟩
    have := hc i hi
    rw [Nat.zero_add] at this
    rw [this, nth_at xs i hi]
end
theorem OwZ.empty (T : Mk) (w : World) (t : Nat) (u : TypeId) : OwZ (paint T w.heap.size t) (w.alloc (.cells #[] u)) t u (.slice (some ⟨w.heap.size, 0, none⟩) 0 0) [] :=
  ⟨⟨rfl, .inr ⟨w.heap.size, 0, #[], rfl, Nat.zero_le _, heap_alloc_new w _, Nat.le_refl _, Nat.zero_le _, rfl, rfl⟩⟩, fun g hg => by cases hg; exact paint_new (Nat.le_refl _)⟩
theorem wpl_appRow {P : Program} {w : World} {ops : Array Oper} {rest : List Oper} {o : Oper} {a : Act} {Q : Exit → Act → World → Prop} (hgd : o.guard = none) (s y : Operand) {t u : TypeId} {z : Value} {k bytes : Nat} (ho : o.op = .call { callee := .builtin .append, args := #[s, y], argTypes := #[t, t] })
    (ht : P.underlying t = some (.slice u)) (hi : (P.info? u).map (fun i => (i.zero, i.size, i.bytes)) = some (some z, k, bytes)) (hz : z.cells.size = k) (hk : 0 < k) (hb : bytes ≤ 64)
    {v : Value} {n : Nat} {xs : List Value} (hown : w.ownsRow 0 u k v n xs) {p : Nat} {vs : List Value} (hr : row w p = some vs.toArray) (hl : vs.length = k) (h1 : ∀ x ∈ vs, x.oneCell' = true) (hn : n ≤ 1000000000000)
    (hv : a.eval s = v) (hy : a.eval y = .slice (some ⟨p, 0, none⟩) 1 1)
    (h : ∀ v' w', w'.ownsRow 0 u k v' (n + 1) (xs ++ vs) → w.grownBy w' v.ownBlock → (v'.ownBlock = v.ownBlock ∨ v'.ownBlock = some w.heap.size) → wpList P ops Q rest (a.put o.dst v') w') : wpList P ops Q (o :: rest) a w := by
  refine wpList_plain hgd fun K hK => ?_
  cases hq : P.info? u with
  | none => rw [hq] at hi; cases hi
  | some i =>
    rw [hq] at hi
    have h0 : (i.zero, i.size, i.bytes) = (some z, k, bytes) := Option.some.inj hi
    simp only [Prod.mk.injEq] at h0
    obtain ⟨z0, z1, z2⟩ := h0
    obtain ⟨v', w', a1, a2, a3, _, a5⟩ := run_append_own_at (P := P) w 0 t o.type u i z k bytes ht hq z0 z1 z2 hz hk v n xs hown ⟨p, 0, none⟩ 1 1 vs (by omega)
      (fun j x hx => by rw [add_mid, Nat.zero_add, cell_row hr, List.getElem?_toArray]; exact hx) h1 (by unfold maxLen; omega) (by have := Nat.mul_le_mul (show n + 1 ≤ 1000000000001 by omega) hb; omega) (Nat.zero_le _)
    unfold Oper.wp execOp
    simp only [ho, resolve, invoke, builtin, Sem.run_bind, Sem.run_pure, Result.andThen_ok, List.map_toArray, List.map_cons, List.map_nil, hv, hy, a1]
    exact hK _ _ (h v' w' a2 a3 a5)
theorem sli_info : (Tryz.prog.info? 33).map (fun i => (i.zero, i.size, i.bytes)) = some (some (.slice none 0 0), 1, 24) := by kernel_rfl
theorem slz_u : Tryz.prog.underlying 30 = some (.slice 33) := by kernel_rfl
/-- a blob that was made -/
def BlE (T : Mk) (w : World) (x : Value) : Prop := ∃ A n c f, x = .slice A n c ∧ RdS T w 0 A n c f ∧ n ≤ 1000
theorem BlE.fr {T T' : Mk} {H : Nat → Prop} {w w' : World} {x : Value} (h : BlE T w x) (hf : Fr T T' H w w') (h0 : ¬ H 0) : BlE T' w' x := by
  obtain ⟨A, n, c, f, e, hr, hn⟩ := h
  exact ⟨A, n, c, f, e, hr.fr hf h0, hn⟩
theorem BlE.one {T : Mk} {w : World} {x : Value} (h : BlE T w x) : x.oneCell' = true := by
  obtain ⟨A, n, c, f, rfl, -, -⟩ := h
  rfl
/-- on the way: the program's keyring in B (mark 1), the reference's in B' (marks 30 to 39), the blobs (mark 20) -/
structure PlE (w wr : World) (T : Mk) (B B' : Nat) (Kp Kr : Ks) (bv : Value) (xs : List Value) : Prop where
  kp : KpW wr B Kp
  kr : KAt T wr 30 66 56 B' Kr
  tb : T B = 1
  bl : OwZ T wr 20 33 bv xs
  bs : ∀ x ∈ xs, BlE T wr x
  bd : ∀ k, T k < 50
  old : ∀ k, k < w.heap.size → T k = 0
  bel : Below w.heap.size w wr
section
variable {w wr w2 : World} {T T' : Mk} {B B' : Nat} {Kp Kr Kp' Kr' : Ks} {bv v' x : Value} {xs : List Value}
theorem paint_bd {n m : Nat} (h : ∀ k, T k < 50) (hm : m < 50) : ∀ k, paint T n m k < 50 := fun k => by
  by_cases hk : k < n
  · rw [paint_old hk]; exact h k
  · rw [paint_new (by omega)]; exact hm
theorem PlE.new (h : PlE w wr T B B' Kp Kr bv xs) (hb : Below wr.heap.size wr w2) : PlE w w2 (paint T wr.heap.size 0) B B' Kp Kr bv xs := by
  have hf : Fr T (paint T wr.heap.size 0) (fun _ => False) wr w2 := Fr.new hb 0
  exact ⟨h.kp.below hb, h.kr.fr hf (fun _ _ e => e), by rw [paint_old h.kp.lt]; exact h.tb, h.bl.fr hf (fun e => e), fun x hx => (h.bs x hx).fr hf (fun e => e), paint_bd h.bd (by omega), fun k hk => by rw [paint_old (Nat.lt_of_lt_of_le hk h.bel.size)]; exact h.old k hk, onto h.bel h.bel.size hb⟩
theorem PlE.prog (h : PlE w wr T B B' Kp Kr bv xs) (hk : KpW w2 B Kp') (hc : Chg B wr w2) : PlE w w2 (paint T wr.heap.size 0) B B' Kp' Kr bv xs := by
  have hf : Fr T (paint T wr.heap.size 0) (fun c => c = 1) wr w2 := hc.fr h.tb 0
  exact ⟨hk, h.kr.fr hf (fun c e1 e2 => by have := e1.1; omega), by rw [paint_old h.kp.lt]; exact h.tb, h.bl.fr hf (by omega), fun x hx => (h.bs x hx).fr hf (by omega), paint_bd h.bd (by omega), fun k hk => by rw [paint_old (Nat.lt_of_lt_of_le hk h.bel.size)]; exact h.old k hk,
    h.bel.trans (hf.below h.bel.size fun k hk e => by have := h.old k hk; omega)⟩
theorem PlE.ref (h : PlE w wr T B B' Kp Kr bv xs) (hk : KAt T' w2 30 66 56 B' Kr') (hf : Fz T T' 30 wr w2) : PlE w w2 T' B B' Kp Kr' bv xs := by
  obtain ⟨c, hr, hc⟩ := h.kp.at_
  refine ⟨⟨⟨c, hf.fr.rowAt hr (by rw [h.tb]; intro e; have := e.1; omega), hc⟩, h.kp.ok⟩, hk, by rw [hf.fr.tag B h.kp.lt]; exact h.tb, h.bl.fr hf.fr (fun e => by have := e.1; omega), fun x hx => (h.bs x hx).fr hf.fr (fun e => by have := e.1; omega), fun k => ?_, fun k hk => by rw [hf.fr.tag k (Nat.lt_of_lt_of_le hk h.bel.size)]; exact h.old k hk,
    h.bel.trans (hf.fr.below h.bel.size fun k hk e => by have := h.old k hk; have := e.1; omega)⟩
  rcases hf.mks k with e | e | e
  · rw [e]; exact h.bd k
  · rw [e]; omega
  · have := e.2; omega
theorem PlE.app (h : PlE w wr T B B' Kp Kr bv xs) (hx : BlE T wr x) (h1 : w2.ownsRow 0 33 1 v' (xs.length + 1) (xs ++ [x])) (hg : wr.grownBy w2 bv.ownBlock) (h3 : v'.ownBlock = bv.ownBlock ∨ v'.ownBlock = some wr.heap.size) :
    PlE w w2 (paint T wr.heap.size 20) B B' Kp Kr v' (xs ++ [x]) := by
  have hf : Fr T (paint T wr.heap.size 20) (fun c => c = 20) wr w2 := Fr.grown hg h.bl.tg 20
  obtain ⟨c, hr, hc⟩ := h.kp.at_
  exact ⟨⟨⟨c, hf.rowAt hr (by rw [h.tb]; omega), hc⟩, h.kp.ok⟩, h.kr.fr hf (fun c e1 e2 => by have := e1.1; omega), by rw [paint_old h.kp.lt]; exact h.tb, h.bl.app h1 h3, fun y hy => by
    rcases List.mem_append.1 hy with h2 | h2
    · exact (h.bs y h2).fr hf (by omega)
    · rw [List.mem_singleton.1 h2]; exact hx.fr hf (by omega), paint_bd h.bd (by omega), fun k hk => by rw [paint_old (Nat.lt_of_lt_of_le hk h.bel.size)]; exact h.old k hk,
    h.bel.trans (hf.below h.bel.size fun k hk e => by have := h.old k hk; omega)⟩
/-- bytes that came in -/
theorem PlE.arg (h : PlE w wr T B B' Kp Kr bv xs) {A : Option Addr} {n c : Nat} {f : Bf} (hs : Sl w w.heap.size A n c f) : RdS T wr 0 A n c f := RdS.of_sl (hs.below h.bel) h.bel.size h.old
theorem PlE.off (h : PlE w wr T B B' Kp Kr bv xs) {A : Option Addr} {n c : Nat} {f : Bf} (hs : RdS T wr 0 A n c f) : Off B n A := fun hn a ha e => by
  have := hs.tg hn a ha
  rw [e, h.tb] at this
  omega
theorem RdS.prog (h : PlE w wr T B B' Kp Kr bv xs) (hc : Chg B wr w2) {A : Option Addr} {n c : Nat} {f : Bf} (hs : RdS T wr 0 A n c f) : RdS (paint T wr.heap.size 0) w2 0 A n c f := hs.fr (hc.fr (H := fun c => c = 1) h.tb 0) (by omega)
theorem RdS.ref (hf : Fz T T' 30 wr w2) {A : Option Addr} {n c : Nat} {f : Bf} (hs : RdS T wr 0 A n c f) : RdS T' w2 0 A n c f := hs.fr hf.fr (fun e => by have := e.1; omega)
end
/-- and a call in a variable -/
structure PlZ (w wr : World) (T : Mk) (B B' : Nat) (Kp Kr : Ks) (bv : Value) (xs : List Value) (Z : Nat) (C : Array Value) : Prop where
  pl : PlE w wr T B B' Kp Kr bv xs
  zr : row wr Z = some C
  zt : T Z = 0
section
variable {w wr w2 : World} {T T' : Mk} {B B' Z : Nat} {Kp Kr Kp' Kr' : Ks} {bv v' x : Value} {xs : List Value} {C : Array Value}
theorem PlZ.new (h : PlZ w wr T B B' Kp Kr bv xs Z C) (hb : Below wr.heap.size wr w2) : PlZ w w2 (paint T wr.heap.size 0) B B' Kp Kr bv xs Z C :=
  ⟨h.pl.new hb, carry hb h.zr, by rw [paint_old (row_lt h.zr)]; exact h.zt⟩
theorem PlZ.prog (h : PlZ w wr T B B' Kp Kr bv xs Z C) (hk : KpW w2 B Kp') (hc : Chg B wr w2) : PlZ w w2 (paint T wr.heap.size 0) B B' Kp' Kr bv xs Z C :=
  ⟨h.pl.prog hk hc, hc.row h.zr (fun e => by have h1 := h.zt; rw [e, h.pl.tb] at h1; omega), by rw [paint_old (row_lt h.zr)]; exact h.zt⟩
theorem PlZ.ref (h : PlZ w wr T B B' Kp Kr bv xs Z C) (hk : KAt T' w2 30 66 56 B' Kr') (hf : Fz T T' 30 wr w2) : PlZ w w2 T' B B' Kp Kr' bv xs Z C :=
  ⟨h.pl.ref hk hf, hf.fr.rowAt h.zr (by rw [h.zt]; intro e; have := e.1; omega), by rw [hf.fr.tag Z (row_lt h.zr)]; exact h.zt⟩
end
/-- what was made by both, behind a call of the switch -/
def SwE (w : World) (B B' : Nat) (bv : Value) (xs : List Value) (x10 x11 v12 v13 e14 e15 : Value) (wx : World) : Prop :=
  ∃ (T : Mk) (K : Ks) (n : Nat) (f : Bf) (A : Option Addr) (c : Nat) (A' : Option Addr) (c' : Nat) (V E : Int), x10 = .slice A n c ∧ x11 = .slice A' n c' ∧ v12 = .int .i64 V ∧ v13 = .int .i64 V ∧ e14 = .int .i64 E ∧ e15 = .int .i64 E ∧
    RdS T wx 0 A n c f ∧ Sl wx wx.heap.size A' n c' f ∧ n ≤ 1000 ∧ PlE w wx T B B' K K bv xs
theorem enL_le (K : Ks) (id : Int) (L S : Nat) : enL K id L S ≤ 1000 := by
  by_cases h : 64 < L ∨ 32 < S
  · rw [(en_long h).2.2.2]; omega
  · by_cases hu : usE K id = 0
    · rw [(en_ok h hu).2.2.2]; unfold blL; have := hdL_le id.toNat (usV K id).toNat; omega
    · rw [(en_no h hu).2.2.2]; omega
theorem rwL_le (K : Ks) (n : Nat) (f s : Bf) (S : Nat) : rwL K n f s S ≤ 1000 := by
  by_cases h : dcE K n f s S = 0
  · rw [(rw_ok h).2.2.2]; exact enL_le _ _ _ _
  · rw [(rw_no h).2.2.2]; omega
end Go.Proofs.YtamemjldafoolaaGreat.Oct
