/- Contracts: the closures of disk's Cut, Sync. -/
import Derived.Test.YthdhbjfenanbnaaDkL
namespace Go.Proofs.Ythdhbjfenanbnaa.Oct
open Go.ChangeShapes Go.WideShapes Go.ChangeAt Go.RowKit
set_option linter.unusedVariables false

theorem chg_b1 (x : Int) (w : World) : (Instr.build 67 #[(0, .int .i64 x)]).run Try.prog w = .ok (.agg #[.int .i64 x, .slice none 0 0]) w := by kernel_rfl
set_option maxHeartbeats 4000000 in
theorem cutc_any (T : Mk) (t B F K x0 x1 x2 : Nat) (d : Dk) (w : World) (h : DkAt T w t B d) (ht : 0 < t) (hF : F < 4) (hl : ∀ i, i < 4 → (d.f i).l.length ≤ 1000000000000) (h0 : Bx w x0 (.pointer (some ⟨B, 0, none⟩))) (h1 : Bx w x1 (.int .i64 (F : Int))) (h2 : Bx w x2 (.int .i64 (K : Int)))
    (hK : K ≤ (d.f F).all.length) :
    Calls Try.prog 42 #[.pointer (some ⟨x0, 0, none⟩), .pointer (some ⟨x1, 0, none⟩), .pointer (some ⟨x2, 0, none⟩)] w fun e w' => e = .returned (.int .i64 ((0 : Nat) : Int)) ∧
      ∃ T', Fr T T' (Hs t) w w' ∧ DkAt T' w' t B { d with f := updD d.f F ((d.f F).cut K) } := by
  obtain ⟨V, l, hr, hfu, hl2, h3⟩ := h.row
  have HT := Lib.hid h.tg
  have HR := Lib.hid hr
  have H3 := Lib.hid h3
  have HFU := Lib.hid hfu
  have X0 := Lib.hid h0
  have X1 := Lib.hid h1
  have X2 := Lib.hid h2
  have hlF := hl F hF
  have b1 : decide ((F : Int) < 4) = true := by simp; omega
  clear h hr h3 h0 h1 h2 hfu hl
  go_enter Try.func42, Try.ntmps42
  go_wp2_with fail
  refine flow_seen [([0, 1, 2, 3, 4, 5, 6], 7, true)] [] (by kernel_rfl) (by kernel_rfl) (fun _ _ _ _ _ h => h) fun X => ?_
  have B3 := Lib.hid X.below
  obtain ⟨w3, hw3⟩ : ∃ w3, w3 = X.val := ⟨_, rfl⟩
  rw [← hw3] at B3 ⊢
  clear hw3 X
  have e0 : ∀ y : After w3, y.val.cell? ⟨x0, 0, none⟩ = some (.pointer (some ⟨B, 0, none⟩)) := fun y => ((X0.out.calm B3.out).calm y.below).cell
  have e1 : ∀ y : After w3, y.val.cell? ⟨x1, 0, none⟩ = some (.int .i64 (F : Int)) := fun y => ((X1.out.calm B3.out).calm y.below).cell
  have e2 : ∀ y : After w3, y.val.cell? ⟨x2, 0, none⟩ = some (.int .i64 (K : Int)) := fun y => ((X2.out.calm B3.out).calm y.below).cell
  have e3 := chg_b1
  simp only [wpFs, pk, List.getElem?_cons_zero, List.getElem?_cons_succ]
  repeat (go_big_quiet_step (fail))
  refine wpQuiet_nil ?_
  clear e0 e1 e2 e3
  have F3 := Lib.hid (Fr.new (T := T) (H := Hs t) B3.out 0)
  have Q3 := Lib.hid (fun j hj => (H3.out j hj).fr (Fr.new (H := fun _ => False) B3.out 0) (fun e => e) (fun e => e) (fun e => e))
  have R3 := Lib.hid (carry B3.out HR.out)
  have P3 := Lib.hid (Q3.out F hF)
  have hTB : paint T w.heap.size 0 B = t := by rw [paint_old (row_lt HR.out)]; exact HT.out
  have HC := Lib.hid (pend_any (paint T w.heap.size 0) t (t + 1 + 2 * F + 1) B (F * 2) 0 0 none _ (V (2 * F + 1)) (d.f F).l ⟨true, K, []⟩ w3 R3.out hTB (by rw [dk_get _ _ _ _ _ (by omega), show F * 2 + 1 = 2 * F + 1 by omega]) P3.out.p rfl (RdS.nil _ _ _ _) (by omega) (by omega) (by omega) hlF)
  go_wp2_with fail
  refine HC.out.mono ?_
  rintro e w5 ⟨rfl, T5, v5, f5, r5, p5⟩
  rw [show F * 2 + 1 = 2 * F + 1 by omega, dk_set _ _ _ _ _ (by omega)] at r5
  have f5' : Fr (paint T w.heap.size 0) T5 (Hs t) w3 w5 := f5.mono fun y hy => by rcases hy with rfl | rfl <;> exact ⟨by omega, by omega⟩
  have F5 := Lib.hid (F3.out.trans f5')
  have D5 := Lib.hid (dk_fil (T := T) (w := w3) (t := t) (B := B) (i := F) (d := d) (x := (d.f F).cut K) (V := V) (l := l) (vd := V (2 * F)) (vp := v5) (by rw [f5.tag B (row_lt R3.out)]; exact hTB) hF
    (by rw [updV_self]; exact r5) HFU.out hl2 (fun j hj hne => (Q3.out j hj).fr f5 (by omega) (by omega) (by omega))
    ⟨P3.out.d.fr f5 (by omega), p5, P3.out.ok.cut K hK⟩)
  clear HC f5 f5' r5 p5
  go_wp2_with fail
  first | refine ⟨.inl trivial, ?_⟩ | skip
  show wpQuiet _ _ _ _ _ _
  refine wpQuiet_nil ?_
  go_wp2_with fail
  go_ret
  exact ⟨rfl, T5, F5.out, D5.out⟩

set_option maxHeartbeats 4000000 in
theorem syncc_any (T : Mk) (t B F x0 x1 : Nat) (d : Dk) (w : World) (h : DkAt T w t B d) (ht : 0 < t) (hF : F < 4) (hl : ∀ i, i < 4 → (d.f i).l.length ≤ 1000000000000) (h0 : Bx w x0 (.pointer (some ⟨B, 0, none⟩))) (h1 : Bx w x1 (.int .i64 (F : Int))) :
    Calls Try.prog 40 #[.pointer (some ⟨x0, 0, none⟩), .pointer (some ⟨x1, 0, none⟩)] w fun e w' => e = .returned (.int .i64 ((0 : Nat) : Int)) ∧
      ∃ T', Fr T T' (Hs t) w w' ∧ DkAt T' w' t B { d with f := updD d.f F (d.f F).sync } := by
  obtain ⟨V, l, hr, hfu, hl2, h3⟩ := h.row
  have HT := Lib.hid h.tg
  have HR := Lib.hid hr
  have H3 := Lib.hid h3
  have HFU := Lib.hid hfu
  have X0 := Lib.hid h0
  have X1 := Lib.hid h1
  have hlF := hl F hF
  have b1 : decide ((F : Int) < 4) = true := by simp; omega
  clear h hr h3 h0 h1 hfu hl
  go_enter Try.func40, Try.ntmps40
  go_wp2_with fail
  refine flow_seen [([0, 1, 2, 3, 4], 5, true)] [] (by kernel_rfl) (by kernel_rfl) (fun _ _ _ _ _ h => h) fun X => ?_
  have B3 := Lib.hid X.below
  obtain ⟨w3, hw3⟩ : ∃ w3, w3 = X.val := ⟨_, rfl⟩
  rw [← hw3] at B3 ⊢
  clear hw3 X
  have e0 : ∀ y : After w3, y.val.cell? ⟨x0, 0, none⟩ = some (.pointer (some ⟨B, 0, none⟩)) := fun y => ((X0.out.calm B3.out).calm y.below).cell
  have e1 : ∀ y : After w3, y.val.cell? ⟨x1, 0, none⟩ = some (.int .i64 (F : Int)) := fun y => ((X1.out.calm B3.out).calm y.below).cell
  simp only [wpFs, pk, List.getElem?_cons_zero, List.getElem?_cons_succ]
  repeat (go_big_quiet_step (fail))
  refine wpQuiet_nil ?_
  clear e0 e1
  have F3 := Lib.hid (Fr.new (T := T) (H := Hs t) B3.out 0)
  have Q3 := Lib.hid (fun j hj => (H3.out j hj).fr (Fr.new (H := fun _ => False) B3.out 0) (fun e => e) (fun e => e) (fun e => e))
  have R3 := Lib.hid (carry B3.out HR.out)
  have P3 := Lib.hid (Q3.out F hF)
  have hTB : paint T w.heap.size 0 B = t := by rw [paint_old (row_lt HR.out)]; exact HT.out
  obtain ⟨A2, c2, hv2, hp2, -⟩ := P3.out.p.sl
  have HC := Lib.hid (settle_any (paint T w.heap.size 0) t (t + 1 + 2 * F) (t + 1 + 2 * F + 1) B (F * 2) c2 A2 _ (V (2 * F)) (d.f F).s (d.f F).l w3 R3.out hTB (by rw [dk_get _ _ _ _ _ (by omega), show F * 2 = 2 * F by omega]) (by rw [dk_get _ _ _ _ _ (by omega), show F * 2 + 1 = 2 * F + 1 by omega, hv2]) P3.out.d hp2 P3.out.ok (by omega) (by omega) (by omega) hlF)
  clear hp2 hv2
  go_wp2_with fail
  refine HC.out.mono ?_
  rintro e w5 ⟨rfl, T5, v5, f5, r5, p5⟩
  rw [show F * 2 + 1 = 2 * F + 1 by omega, show F * 2 = 2 * F by omega, dk_set _ _ _ _ _ (by omega), dk_set _ _ _ _ _ (by omega)] at r5
  have f5' : Fr (paint T w.heap.size 0) T5 (Hs t) w3 w5 := f5.mono fun y hy => by rcases hy with rfl | rfl <;> exact ⟨by omega, by omega⟩
  have F5 := Lib.hid (F3.out.trans f5')
  have D5 := Lib.hid (dk_fil (T := T) (w := w3) (t := t) (B := B) (i := F) (d := d) (x := (d.f F).sync) (V := V) (l := l) (vd := v5) (vp := .slice none 0 0) (by rw [f5.tag B (row_lt R3.out)]; exact hTB) hF
    r5 HFU.out hl2 (fun j hj hne => (Q3.out j hj).fr f5 (by omega) (by omega) (by omega))
    ⟨p5, ElOw.nil, P3.out.ok.sync⟩)
  clear HC f5 f5' r5 p5
  go_wp2_with fail
  first | refine ⟨.inl trivial, ?_⟩ | skip
  show wpQuiet _ _ _ _ _ _
  refine wpQuiet_nil ?_
  go_wp2_with fail
  go_ret
  exact ⟨rfl, T5, F5.out, D5.out⟩
end Go.Proofs.Ythdhbjfenanbnaa.Oct
