/- Contracts: the closures of disk's Append, Cut, Sync. -/
import Derived.Test.YthdhbjfenanbnaaDkK
namespace Go.Proofs.Ythdhbjfenanbnaa.Oct
open Go.ChangeShapes Go.WideShapes Go.ChangeAt Go.RowKit
set_option linter.unusedVariables false

/-- a variable that a closure has -/
def Bx (w : World) (x : Nat) (v : Value) : Prop := ∃ c, row w x = some c ∧ c[0]? = some v
theorem Bx.cell {w : World} {x : Nat} {v : Value} (h : Bx w x v) : w.cell? ⟨x, 0, none⟩ = some v := by obtain ⟨c, h1, h2⟩ := h; rw [cell_row h1, h2]
theorem Bx.calm {w w' : World} {x : Nat} {v : Value} (h : Bx w x v) (hb : Below w.heap.size w w') : Bx w' x v := by obtain ⟨c, h1, h2⟩ := h; exact ⟨c, carry hb h1, h2⟩
theorem Bx.new (w : World) (v : Value) (t : TypeId) : Bx (w.alloc (.cells #[v] t)) w.heap.size v := ⟨_, row_alloc_at w #[v] t _ rfl, rfl⟩

set_option maxHeartbeats 4000000 in
theorem appc_any (T : Mk) (t B F n c x0 x1 x2 : Nat) (A : Option Addr) (b : By) (d : Dk) (w : World) (h : DkAt T w t B d) (ht : 0 < t) (hF : F < 4) (hl : ∀ i, i < 4 → (d.f i).l.length ≤ 1000000000000) (h0 : Bx w x0 (.pointer (some ⟨B, 0, none⟩))) (h1 : Bx w x1 (.int .i64 (F : Int))) (h2 : Bx w x2 (.slice A n c))
    (hn : n = b.length) (hs : Sl w w.heap.size A n c (lf b)) (hn2 : n ≤ 140737488355328) :
    Calls Try.prog 27 #[.pointer (some ⟨x0, 0, none⟩), .pointer (some ⟨x1, 0, none⟩), .pointer (some ⟨x2, 0, none⟩)] w fun e w' => e = .returned (.int .i64 ((if maxF < (d.f F).all.length + b.length then 2 else 0 : Nat) : Int)) ∧
      ∃ T', Fr T T' (Hs t) w w' ∧ DkAt T' w' t B (if maxF < (d.f F).all.length + b.length then d else { d with f := updD d.f F ((d.f F).app b) }) := by
  subst hn
  obtain ⟨V, l, hr, hfu, hl2, h3⟩ := h.row
  have H := Lib.hid h
  have HR := Lib.hid hr
  have H3 := Lib.hid h3
  have HFU := Lib.hid hfu
  have HS := Lib.hid hs
  have X0 := Lib.hid h0
  have X1 := Lib.hid h1
  have X2 := Lib.hid h2
  obtain ⟨hd1, hp1, ok1⟩ := h3 F hF
  obtain ⟨A1, c1, hv1, hr1, -⟩ := hd1.rd
  obtain ⟨A2, c2, hv2, hp2, -⟩ := hp1.sl
  have C0 := Lib.hid (show (dkC V d.n d.off d.u.isSome l)[F * 2]? = some (.slice A1 (d.f F).s.length c1) by rw [dk_get _ _ _ _ _ (by omega), show F * 2 = 2 * F by omega, hv1])
  have C1 := Lib.hid (show (dkC V d.n d.off d.u.isSome l)[F * 2 + 1]? = some (.slice A2 (d.f F).l.length c2) by rw [dk_get _ _ _ _ _ (by omega), show F * 2 + 1 = 2 * F + 1 by omega, hv2])
  have HS1 := Lib.hid hr1.sl.le
  have HP := Lib.hid hp2
  have hM := maxF_eq
  have hlen : (d.f F).all.length ≤ maxF := ok1.len
  have OK := Lib.hid ok1
  have hlF := hl F hF
  have b1 : decide ((F : Int) < 4) = true := by simp; omega
  obtain ⟨N, hN⟩ : ∃ N, N = (d.f F).all.length := ⟨_, rfl⟩
  have HN := Lib.hid hN
  rw [← hN] at hlen ⊢
  obtain ⟨E, hE⟩ : ∃ E : Nat, E = if maxF < N + b.length then 2 else 0 := ⟨_, rfl⟩
  obtain ⟨D1, hD1⟩ : ∃ D1 : Dk, D1 = if maxF < N + b.length then d else { d with f := updD d.f F ((d.f F).app b) } := ⟨_, rfl⟩
  rw [← hE, ← hD1]
  have HE := Lib.hid hE
  have HD1 := Lib.hid hD1
  clear h hr h3 hs h0 h1 h2 hd1 hp1 ok1 hr1 hp2 hv1 hv2 hfu hl hN hE hD1
  go_enter Try.func27, Try.ntmps27
  go_wp2_with fail
  refine flow_seen [([0, 1, 2, 3, 4], 5, true)] [6] (by kernel_rfl) (by kernel_rfl) (fun _ _ _ _ _ h => h) fun X => ?_
  have B1 := Lib.hid X.below
  obtain ⟨w1, hw1⟩ : ∃ w1, w1 = X.val := ⟨_, rfl⟩
  rw [← hw1] at B1 ⊢
  clear hw1 X
  have e0 : ∀ y : After w1, y.val.cell? ⟨x0, 0, none⟩ = some (.pointer (some ⟨B, 0, none⟩)) := fun y => ((X0.out.calm B1.out).calm y.below).cell
  have e1 : ∀ y : After w1, y.val.cell? ⟨x1, 0, none⟩ = some (.int .i64 (F : Int)) := fun y => ((X1.out.calm B1.out).calm y.below).cell
  simp only [wpFs, pk, List.getElem?_cons_zero, List.getElem?_cons_succ]
  repeat (go_big_quiet_step (fail))
  refine wpQuiet_nil ?_
  clear e0 e1
  have HC := Lib.hid (size_any T 0 _ c1 c2 B (F * 2) A1 A2 _ _ _ w1 (carry B1.out HR.out) C0.out C1.out HS1.out (HP.out.fr chE_ok (Fr.calm (T' := T) (H := fun _ => False) B1.out (fun _ _ => rfl)) (fun e => e) (fun e => e)) OK.out hlF)
  go_wp2_with fail
  refine HC.out.mono ?_
  rintro e w2 ⟨rfl, b2⟩
  rw [show (has (d.f F).s (d.f F).l).length = N from HN.out.symm]
  have B2 := Lib.hid (onto B1.out B1.out.size b2)
  clear b2 HC B1
  go_wp2_with fail
  first | refine ⟨.inl trivial, ?_⟩ | skip
  show wpQuiet _ _ _ _ _ _
  repeat (go_big_quiet_step (fail))
  refine wpQuiet_nil ?_
  have q2 := (X2.out.calm B2.out).cell
  have hw0 : IntKind.i64.wrap (1048576 - (N : Int)) = 1048576 - (N : Int) := IntWalk.i64_in _ (by omega)
  by_cases hlong : maxF < N + b.length
  · have hd : decide (1048576 - (N : Int) < (b.length : Int)) = true := by simp; omega
    have HLG := Lib.hid hlong
    clear hlong
    go_wp2_with fail
    go_ret
    rw [show E = 2 by rw [HE.out, if_pos HLG.out], show D1 = d by rw [HD1.out, if_pos HLG.out]]
    exact ⟨rfl, _, Fr.new B2.out 0, H.out.fr (Fr.new (H := fun _ => False) B2.out 0) (fun _ _ e => e) (fun e => e)⟩
  · have hd : decide (1048576 - (N : Int) < (b.length : Int)) = false := by simp; omega
    have HLG := Lib.hid hlong
    clear hlong
    go_wp2_with fail
    clear q2
    refine flow_seen [([0, 1, 2, 3, 4, 5, 6], 7, false), ([8], 9, true)] [] (by kernel_rfl) (by kernel_rfl) (fun _ _ _ _ _ h => h) fun X => ?_
    have B3 := Lib.hid (onto B2.out B2.out.size X.below)
    obtain ⟨w3, hw3⟩ : ∃ w3, w3 = X.val := ⟨_, rfl⟩
    rw [← hw3] at B3 ⊢
    clear hw3 X B2
    have e0 : ∀ y : After w3, y.val.cell? ⟨x0, 0, none⟩ = some (.pointer (some ⟨B, 0, none⟩)) := fun y => ((X0.out.calm B3.out).calm y.below).cell
    have e1 : ∀ y : After w3, y.val.cell? ⟨x1, 0, none⟩ = some (.int .i64 (F : Int)) := fun y => ((X1.out.calm B3.out).calm y.below).cell
    have e2 : ∀ y : After w3, y.val.cell? ⟨x2, 0, none⟩ = some (.slice A b.length c) := fun y => ((X2.out.calm B3.out).calm y.below).cell
    simp only [wpFs, pk, List.getElem?_cons_zero, List.getElem?_cons_succ]
    repeat (go_big_quiet_step (fail))
    refine wpQuiet_nil ?_
    clear e0 e1 e2
    have HC := Lib.hid (clone_any b.length c A (lf b) w3 ((HS.out.below B3.out).more B3.out.size) hn2)
    go_wp2_with fail
    refine HC.out.mono ?_
    rintro e w4 ⟨v4, rfl, o4, b4⟩
    have B4 := Lib.hid (onto B3.out B3.out.size b4)
    have z3 := B3.out.size
    obtain ⟨T4, hT4⟩ : ∃ T4, T4 = paint (paint T w.heap.size 0) w3.heap.size 0 := ⟨_, rfl⟩
    have o4' := OwB.of_new (l := b) o4 rfl (fun _ _ => rfl) (paint T w.heap.size 0) 0
    rw [← hT4] at o4'
    have hTo : ∀ k, k < w.heap.size → T4 k = T k := fun k hk => by rw [hT4, paint_old (by omega), paint_old hk]
    have f4 := fun H => Fr.calm (T' := T4) (H := H) B4.out hTo
    have H4 := Lib.hid (H.out.fr (f4 (fun _ => False)) (fun _ _ e => e) (fun e => e))
    obtain ⟨A5, c5, hv5, hr5, -⟩ := o4'.rd
    subst hv5
    have S5 := Lib.hid hr5
    have F4 := Lib.hid (f4 (Hs t))
    have R4 := Lib.hid (carry B4.out HR.out)
    have hTB : T4 B = t := H4.out.tg
    have P4 := Lib.hid ((H3.out F hF).fr (f4 (fun _ => False)) (fun e => e) (fun e => e) (fun e => e))
    have Q4 := Lib.hid (fun j hj => (H3.out j hj).fr (f4 (fun _ => False)) (fun e => e) (fun e => e) (fun e => e))
    clear HC o4 o4' hT4 f4 hr5 H
    go_wp2_with fail
    first | refine ⟨.inr b4, ?_⟩ | refine ⟨b4, ?_⟩
    show wpQuiet _ _ _ _ _ _
    repeat (go_big_quiet_step (fail))
    refine wpQuiet_nil ?_
    have HN2 := Lib.hid (show (⟨false, (d.f F).all.length, b⟩ : Ch).k = N from HN.out.symm)
    have HC := Lib.hid (pend_any T4 t (t + 1 + 2 * F + 1) B (F * 2) b.length c5 A5 _ (V (2 * F + 1)) (d.f F).l ⟨false, (d.f F).all.length, b⟩ w4 R4.out hTB (by rw [dk_get _ _ _ _ _ (by omega), show F * 2 + 1 = 2 * F + 1 by omega]) P4.out.p rfl S5.out (by omega) (by omega) (by omega) hlF)
    rw [HN2.out] at HC
    go_wp2_with fail
    refine HC.out.mono ?_
    rintro e w5 ⟨rfl, T5, v5, f5, r5, p5⟩
    rw [show F * 2 + 1 = 2 * F + 1 by omega, dk_set _ _ _ _ _ (by omega)] at r5
    have f5' : Fr T4 T5 (Hs t) w4 w5 := f5.mono fun y hy => by rcases hy with rfl | rfl <;> exact ⟨by omega, by omega⟩
    have F5 := Lib.hid (F4.out.trans f5')
    have D5 := Lib.hid (dk_fil (T := T4) (w := w4) (t := t) (B := B) (i := F) (d := d) (x := (d.f F).app b) (V := V) (l := l) (vd := V (2 * F)) (vp := v5) (by rw [f5.tag B (row_lt R4.out)]; exact hTB) hF
      (by rw [updV_self]; exact r5) HFU.out hl2 (fun j hj hne => (Q4.out j hj).fr f5 (by omega) (by omega) (by omega))
      ⟨P4.out.d.fr f5 (by omega), p5, OK.out.app b (by have := HLG.out; rw [← HN.out]; omega)⟩)
    clear HC f5 f5' r5 p5
    go_wp2_with fail
    first | refine ⟨.inl trivial, ?_⟩ | skip
    show wpQuiet _ _ _ _ _ _
    refine wpQuiet_nil ?_
    go_wp2_with fail
    go_ret
    rw [show E = 0 by rw [HE.out, if_neg HLG.out], show D1 = { d with f := updD d.f F ((d.f F).app b) } by rw [HD1.out, if_neg HLG.out]]
    exact ⟨rfl, T5, F5.out, D5.out⟩
end Go.Proofs.Ythdhbjfenanbnaa.Oct
