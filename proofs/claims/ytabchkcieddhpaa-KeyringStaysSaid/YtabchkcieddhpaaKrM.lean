/- Contract of the law's does: both do a call, and answer the same. -/
import Derived.Test.YtabchkcieddhpaaKpS
import Derived.Test.YtabchkcieddhpaaKrL
import Derived.Deep.DeepCutAuto
import Derived.Deep.CutBlock
import Derived.Test.YtabchkcieddhpaaKrD
namespace Go.Proofs.Ytabchkcieddhpaa.Oct
open Go.ChangeShapes Go.WideShapes Go.ChangeAt Go.RowKit
set_option linter.unusedVariables false

/-- two keyrings were worked on; what else is new has the mark 0 -/
structure Tw (T T' : Mk) (t t' : Nat) (w w' : World) : Prop where
  fr : Fr T T' (fun c => Hk t c ∨ Hk t' c) w w'
  mks : ∀ k, T' k = T k ∨ T' k = 0 ∨ Hk t (T' k) ∨ Hk t' (T' k)
section
variable {T T' T2 : Mk} {t t' : Nat} {w w' w2 : World}
theorem Tw.trans (h : Tw T T' t t' w w') (k : Tw T' T2 t t' w' w2) : Tw T T2 t t' w w2 := ⟨h.fr.trans k.fr, fun i => by
  rcases k.mks i with e | e
  · rw [e]; exact h.mks i
  · exact .inr e⟩
theorem Tw.refl (T : Mk) (t t' : Nat) (w : World) : Tw T T t t' w w := ⟨Fr.refl _ _ _, fun _ => .inl rfl⟩
theorem Tw.new (h : Below w.heap.size w w') : Tw T (paint T w.heap.size 0) t t' w w' := ⟨Fr.new h 0, fun k => by
  by_cases hk : k < w.heap.size
  · exact .inl (paint_old hk)
  · exact .inr (.inl (paint_new (by omega)))⟩
theorem Tw.fst (h : Fk T T' t w w') : Tw T T' t t' w w' := ⟨h.fr.mono fun _ e => .inl e, fun k => by
  rcases h.mks k with e | e
  · exact .inl e
  · exact .inr (.inr (.inl e))⟩
theorem Tw.snd (h : Fk T T' t' w w') : Tw T T' t t' w w' := ⟨h.fr.mono fun _ e => .inr e, fun k => by
  rcases h.mks k with e | e
  · exact .inl e
  · exact .inr (.inr (.inr e))⟩
end
/-- both hold K -/
structure Bo (T : Mk) (t t' B B' : Nat) (K : Ks) (w : World) : Prop where
  p : KpAt T w t B K
  r : KAt T w t' 48 50 B' K
  ap : t + 10 ≤ t' ∨ t' + 10 ≤ t
  p1 : 1 ≤ t
  r1 : 1 ≤ t'
section
variable {T : Mk} {t t' B B' : Nat} {K : Ks} {w w' : World} (h : Bo T t t' B B' K w)
include h
theorem Bo.new (hb : Below w.heap.size w w') : Bo (paint T w.heap.size 0) t t' B B' K w' :=
  ⟨h.p.fr (Fr.new (H := fun _ => False) hb 0) (fun _ _ e => e), h.r.fr (Fr.new (H := fun _ => False) hb 0) (fun _ _ e => e), h.ap, h.p1, h.r1⟩
theorem Bo.zero : ¬ Hk t 0 ∧ ¬ Hk t' 0 := ⟨fun e => by have := h.p1; have := e.1; omega, fun e => by have := h.r1; have := e.1; omega⟩
theorem Bo.apart : ∀ c, Hk t' c → ¬ Hk t c := fun c e e2 => by
  have := h.ap; have := e.1; have := e.2; have := e2.1; have := e2.2; omega
end
/-- the law's answer -/
def doP (T : Mk) (t t' B B' : Nat) (w : World) (e : Ending) (w' : World) : Prop := e = .returned (.bool true) ∧ ∃ T' K', Bo T' t t' B B' K' w' ∧ Tw T T' t t' w w'
/-- the worlds in which a row reads so -/
structure Rw1 (a : Nat) (c : Array Value) where
  val : World
  r1 : row val a = some c

set_option maxRecDepth 20000 in
set_option maxHeartbeats 8000000 in
theorem does_any (T : Mk) (t t' B B' : Nat) (K : Ks) (o : OpK) (w : World) (h : Bo T t t' B B' K w) (hk : i64K o.k) (hid : i64K o.id) (hn : i64K o.n) :
    Calls Try.prog 17 #[.pointer (some ⟨B, 0, none⟩), .pointer (some ⟨B', 0, none⟩), .agg (opA o)] w (doP T t t' B B' w) := by
  obtain ⟨w0, hw0⟩ : ∃ w0, w0 = w.alloc (.cells (opA o) 34) := ⟨_, rfl⟩
  have b0 : Below w.heap.size w w0 := by rw [hw0]; exact (Below.refl w.heap.size w).alloc (by simp) _
  have r0 : row w0 w.heap.size = some (opA o) := by rw [hw0]; exact row_alloc_at _ _ _ _ rfl
  obtain ⟨Z, hZ⟩ : ∃ Z, Z = w.heap.size := ⟨_, rfl⟩
  have H0 := Lib.hid (h.new b0)
  have W0 := Lib.hid (Tw.new (T := T) (t := t) (t' := t') b0)
  have hz0 : paint T w.heap.size 0 Z = 0 := by rw [hZ]; exact paint_new (Nat.le_refl _)
  obtain ⟨T0, hT0⟩ : ∃ T0, T0 = paint T w.heap.size 0 := ⟨_, rfl⟩
  rw [← hT0] at H0 W0 hz0
  have HZ := Lib.hid hz0
  rw [← hZ] at r0
  have c0 : w0.cell? ⟨Z, 0, none⟩ = some (.int .i64 o.k) := by rw [cell_row r0, opA_g0]
  have hq := kdF_nn o.k 8 (by omega)
  obtain ⟨q, hqe⟩ : ∃ q, q = kdF o.k 8 := ⟨_, rfl⟩
  have HQ := Lib.hid hqe
  rw [← hqe] at hq
  have hcase : q = 0 ∨ q = 1 ∨ q = 2 ∨ q = 3 ∨ q = 4 ∨ q = 5 ∨ q = 6 ∨ q = 7 := by omega
  clear h b0 hT0 hqe hq
  go_enter Try.func17, Try.ntmps17
  go_wp2_with fail
  rw [← hw0, ← hZ]
  clear hw0 hZ hz0
  refine (kind_any o.k 8 hk (by omega) w0).mono ?_
  rintro e w1 ⟨rfl, rfl⟩
  rw [← HQ.out]
  clear c0 HQ
  have HR0 := Lib.hid r0
  rcases hcase with rfl | rfl | rfl | rfl | rfl | rfl | rfl | rfl
  · -- Create
    go_wp2_with fail
    refine (pcr_any T0 t B K o.m w0 H0.out.p).mono ?_
    rintro e w1 ⟨rfl, T1, hp1, f1⟩
    have hr1 := H0.out.r.fr f1.fr H0.out.apart
    have r1 := f1.fr.rowAt HR0.out (by rw [HZ.out]; exact H0.out.zero.1)
    have W1 := Lib.hid (W0.out.trans (Tw.fst (t' := t') f1))
    have HP1 := Lib.hid hp1
    have HR1 := Lib.hid hr1
    obtain ⟨a, ha⟩ : ∃ a, a = crN K := ⟨_, rfl⟩
    obtain ⟨E, hE⟩ : ∃ a, a = crE K := ⟨_, rfl⟩
    rw [← ha, ← hE]
    have HA := Lib.hid ha
    have HE := Lib.hid hE
    clear hp1 hr1 f1 r0 ha hE
    go_wp2_with fail
    refine (rcr_any T1 t' B' K o.m w1 HR1.out).mono ?_
    rintro e w2 ⟨rfl, T2, hr2, f2⟩
    rw [← HA.out, ← HE.out]
    have HP2 := HP1.out.fr f2.fr (fun c e1 e2 => H0.out.apart c e2 e1)
    have HB := Lib.hid (show Bo T2 t t' B B' (crK K o.m) w2 from ⟨HP2, hr2, H0.out.ap, H0.out.p1, H0.out.r1⟩)
    have W2 := Lib.hid (W1.out.trans (Tw.snd (t := t) f2))
    clear HP2 hr2 f2 r1
    go_wp2_with fail
    go_ret
    exact ⟨rfl, T2, _, HB.out, W2.out⟩
  · -- Rotate
    have c1 : w0.cell? ⟨Z, 1, none⟩ = some (.int .i64 o.id) := by rw [cell_row r0, opA_g1]
    have c2 : w0.cell? ⟨Z, 2, none⟩ = some (.int .i64 o.n) := by rw [cell_row r0, opA_g2]
    go_wp2_with fail
    clear c1 c2
    refine (prt_any T0 t B K o.id o.m w0 H0.out.p).mono ?_
    rintro e w1 ⟨rfl, T1, hp1, f1⟩
    have hr1 := H0.out.r.fr f1.fr H0.out.apart
    have r1 := f1.fr.rowAt HR0.out (by rw [HZ.out]; exact H0.out.zero.1)
    have W1 := Lib.hid (W0.out.trans (Tw.fst (t' := t') f1))
    have HP1 := Lib.hid hp1
    have HR1 := Lib.hid hr1
    obtain ⟨a, ha⟩ : ∃ a, a = rtN K o.id := ⟨_, rfl⟩
    obtain ⟨E, hE⟩ : ∃ a, a = rtE K o.id := ⟨_, rfl⟩
    rw [← ha, ← hE]
    have HA := Lib.hid ha
    have HE := Lib.hid hE
    have c1 : w1.cell? ⟨Z, 1, none⟩ = some (.int .i64 o.id) := by rw [cell_row r1, opA_g1]
    have c2 : w1.cell? ⟨Z, 2, none⟩ = some (.int .i64 o.n) := by rw [cell_row r1, opA_g2]
    clear hp1 hr1 f1 r0 ha hE
    go_wp2_with fail
    clear c1 c2
    refine (rrt_any T1 t' B' K o.id o.m w1 HR1.out).mono ?_
    rintro e w2 ⟨rfl, T2, hr2, f2⟩
    rw [← HA.out, ← HE.out]
    have HP2 := HP1.out.fr f2.fr (fun c e1 e2 => H0.out.apart c e2 e1)
    have HB := Lib.hid (show Bo T2 t t' B B' (rtK K o.id o.m) w2 from ⟨HP2, hr2, H0.out.ap, H0.out.p1, H0.out.r1⟩)
    have W2 := Lib.hid (W1.out.trans (Tw.snd (t := t) f2))
    clear HP2 hr2 f2 r1
    go_wp2_with fail
    go_ret
    exact ⟨rfl, T2, _, HB.out, W2.out⟩
  · -- Switch
    unfold i64K at hn
    go_wp2_with fail
    refine flow_region [([0, 1, 2, 3, 4, 5, 6, 8, 9, 10, 11, 12, 13, 14], 7, false), ([], 15, false)] [16, 17] (fun w' => ∃ x : Rw1 Z (opA o), w' = x.val) (by kernel_rfl) (by kernel_rfl) (fun _ _ _ _ _ h => h) ⟨⟨w0.drewN 1, by rw [row_drewN]; exact r0⟩, rfl⟩ ?_
    have b1 : Below w0.heap.size w0 (w0.drewN 1) := below_drewN (Below.refl _ _) 1
    have u0 : row (w0.drewN 1) Z = some (opA o) := by rw [row_drewN]; exact r0
    have HP1 := Lib.hid (H0.out.p.fr (Fr.same (H := fun _ => False) b1) (fun _ _ e => e))
    have HR1 := Lib.hid (H0.out.r.fr (Fr.same (H := fun _ => False) b1) (fun _ _ e => e))
    have W1 := Lib.hid (W0.out.trans ⟨Fr.same b1, fun _ => .inl rfl⟩)
    have hne : Nonempty (Rw1 Z (opA o)) := ⟨⟨w0, r0⟩⟩
    obtain ⟨w1, hw1⟩ : ∃ w1, w1 = w0.drewN 1 := ⟨_, rfl⟩
    rw [← hw1] at u0 HP1 HR1 W1 ⊢
    clear hw1 b1
    have k1 : ∀ x : Rw1 Z (opA o), x.val.cell? ⟨Z, 1, none⟩ = some (.int .i64 o.id) := fun x => by rw [cell_row x.r1, opA_g1]
    have k2 : ∀ x : Rw1 Z (opA o), x.val.cell? ⟨Z, 2, none⟩ = some (.int .i64 o.n) := fun x => by rw [cell_row x.r1, opA_g2]
    simp only [wpFl, pk, List.getElem?_cons_zero, List.getElem?_cons_succ]
    repeat (go_big_quiet_step (fail))
    refine wpQuiet_nil ?_
    clear k1 k2
    go_wp2_with fail
    refine (psw_any T0 t B K o.id _ w1 HP1.out).mono ?_
    rintro e w2 ⟨rfl, T2, hp2, f2⟩
    have hr2 := HR1.out.fr f2.fr H0.out.apart
    have r2 := f2.fr.rowAt u0 (by rw [HZ.out]; exact H0.out.zero.1)
    have W2 := Lib.hid (W1.out.trans (Tw.fst (t' := t') f2))
    have HT2 := Lib.hid (show T2 Z = 0 by rw [f2.fr.tag Z (row_lt u0)]; exact HZ.out)
    obtain ⟨E, hE⟩ : ∃ a, a = swE K o.id := ⟨_, rfl⟩
    rw [← hE]
    have HE := Lib.hid hE
    have HP2 := Lib.hid hp2
    have HR2 := Lib.hid hr2
    clear hE hp2 hr2 f2 u0
    go_wp2_with fail
    refine ⟨_, ⟨⟨w2, r2⟩, rfl⟩, .inr ⟨⟨⟨w2, r2⟩, rfl⟩, fun _ h => h⟩, ?_⟩
    show wpQuiet _ _ _ _ _ _
    refine wpQuiet_nil ?_
    go_wp2_with fail
    refine (rsw_any T2 t' B' K o.id _ w2 HR2.out).mono ?_
    rintro e w3 ⟨rfl, T3, hr3, f3⟩
    rw [← HE.out]
    have hp3 := HP2.out.fr f3.fr (fun c e1 e2 => H0.out.apart c e2 e1)
    have r3 := f3.fr.rowAt r2 (by rw [HT2.out]; exact H0.out.zero.2)
    have HB := Lib.hid (show Bo T3 t t' B B' (swK K o.id _) w3 from ⟨hp3, hr3, H0.out.ap, H0.out.p1, H0.out.r1⟩)
    have W3 := Lib.hid (W2.out.trans (Tw.snd (t := t) f3))
    clear hp3 hr3 f3 r2
    go_wp2_with fail
    refine ⟨_, ⟨⟨w3, r3⟩, rfl⟩, .inr ⟨⟨⟨w3, r3⟩, rfl⟩, fun _ h => h⟩, ?_⟩
    have hne : Nonempty (Rw1 Z (opA o)) := ⟨⟨w3, r3⟩⟩
    show wpQuiet _ _ _ _ _ _
    repeat (go_big_quiet_step (fail))
    refine wpQuiet_nil ?_
    go_wp2_with fail
    go_ret
    exact ⟨rfl, T3, _, HB.out, W3.out⟩
  · -- Destroy
    unfold i64K at hn
    go_wp2_with fail
    refine flow_region [([0, 1, 2, 3, 4, 6, 7, 8, 9, 10], 5, false), ([], 11, false)] [12, 13] (fun w' => ∃ x : Rw1 Z (opA o), w' = x.val) (by kernel_rfl) (by kernel_rfl) (fun _ _ _ _ _ h => h) ⟨⟨w0.drewN 1, by rw [row_drewN]; exact r0⟩, rfl⟩ ?_
    have b1 : Below w0.heap.size w0 (w0.drewN 1) := below_drewN (Below.refl _ _) 1
    have u0 : row (w0.drewN 1) Z = some (opA o) := by rw [row_drewN]; exact r0
    have HP1 := Lib.hid (H0.out.p.fr (Fr.same (H := fun _ => False) b1) (fun _ _ e => e))
    have HR1 := Lib.hid (H0.out.r.fr (Fr.same (H := fun _ => False) b1) (fun _ _ e => e))
    have W1 := Lib.hid (W0.out.trans ⟨Fr.same b1, fun _ => .inl rfl⟩)
    have hne : Nonempty (Rw1 Z (opA o)) := ⟨⟨w0, r0⟩⟩
    obtain ⟨w1, hw1⟩ : ∃ w1, w1 = w0.drewN 1 := ⟨_, rfl⟩
    rw [← hw1] at u0 HP1 HR1 W1 ⊢
    clear hw1 b1
    have k1 : ∀ x : Rw1 Z (opA o), x.val.cell? ⟨Z, 1, none⟩ = some (.int .i64 o.id) := fun x => by rw [cell_row x.r1, opA_g1]
    have k2 : ∀ x : Rw1 Z (opA o), x.val.cell? ⟨Z, 2, none⟩ = some (.int .i64 o.n) := fun x => by rw [cell_row x.r1, opA_g2]
    simp only [wpFl, pk, List.getElem?_cons_zero, List.getElem?_cons_succ]
    repeat (go_big_quiet_step (fail))
    refine wpQuiet_nil ?_
    clear k1 k2
    go_wp2_with fail
    refine (pds_any T0 t B K o.id o.n w1 HP1.out).mono ?_
    rintro e w2 ⟨rfl, T2, hp2, f2⟩
    have hr2 := HR1.out.fr f2.fr H0.out.apart
    have r2 := f2.fr.rowAt u0 (by rw [HZ.out]; exact H0.out.zero.1)
    have W2 := Lib.hid (W1.out.trans (Tw.fst (t' := t') f2))
    have HT2 := Lib.hid (show T2 Z = 0 by rw [f2.fr.tag Z (row_lt u0)]; exact HZ.out)
    obtain ⟨E, hE⟩ : ∃ a, a = dsE K o.id o.n := ⟨_, rfl⟩
    rw [← hE]
    have HE := Lib.hid hE
    have HP2 := Lib.hid hp2
    have HR2 := Lib.hid hr2
    clear hE hp2 hr2 f2 u0
    go_wp2_with fail
    refine ⟨_, ⟨⟨w2, r2⟩, rfl⟩, .inr ⟨⟨⟨w2, r2⟩, rfl⟩, fun _ h => h⟩, ?_⟩
    show wpQuiet _ _ _ _ _ _
    refine wpQuiet_nil ?_
    go_wp2_with fail
    refine (rds_any T2 t' B' K o.id o.n w2 HR2.out).mono ?_
    rintro e w3 ⟨rfl, T3, hr3, f3⟩
    rw [← HE.out]
    have hp3 := HP2.out.fr f3.fr (fun c e1 e2 => H0.out.apart c e2 e1)
    have r3 := f3.fr.rowAt r2 (by rw [HT2.out]; exact H0.out.zero.2)
    have HB := Lib.hid (show Bo T3 t t' B B' (dsK K o.id o.n) w3 from ⟨hp3, hr3, H0.out.ap, H0.out.p1, H0.out.r1⟩)
    have W3 := Lib.hid (W2.out.trans (Tw.snd (t := t) f3))
    clear hp3 hr3 f3 r2
    go_wp2_with fail
    refine ⟨_, ⟨⟨w3, r3⟩, rfl⟩, .inr ⟨⟨⟨w3, r3⟩, rfl⟩, fun _ h => h⟩, ?_⟩
    have hne : Nonempty (Rw1 Z (opA o)) := ⟨⟨w3, r3⟩⟩
    show wpQuiet _ _ _ _ _ _
    repeat (go_big_quiet_step (fail))
    refine wpQuiet_nil ?_
    go_wp2_with fail
    go_ret
    exact ⟨rfl, T3, _, HB.out, W3.out⟩
  · -- Use
    have c1 : w0.cell? ⟨Z, 1, none⟩ = some (.int .i64 o.id) := by rw [cell_row r0, opA_g1]
    have c2 : w0.cell? ⟨Z, 2, none⟩ = some (.int .i64 o.n) := by rw [cell_row r0, opA_g2]
    go_wp2_with fail
    clear c1 c2
    refine (pus_any T0 t B K o.id w0 H0.out.p).mono ?_
    rintro e w1 ⟨rfl, T1, hp1, f1⟩
    have hr1 := H0.out.r.fr f1.fr H0.out.apart
    have r1 := f1.fr.rowAt HR0.out (by rw [HZ.out]; exact H0.out.zero.1)
    have hb1 : Bo T1 t t' B B' K w1 → True := fun _ => trivial
    obtain ⟨a, ha⟩ : ∃ a, a = usV K o.id := ⟨_, rfl⟩
    obtain ⟨n, hn'⟩ : ∃ a, a = usC K o.id := ⟨_, rfl⟩
    obtain ⟨m, hm⟩ : ∃ a, a = usM K o.id := ⟨_, rfl⟩
    obtain ⟨E, hE⟩ : ∃ a, a = usE K o.id := ⟨_, rfl⟩
    rw [← ha, ← hn', ← hm, ← hE]
    have HA := Lib.hid ha
    have HN := Lib.hid hn'
    have HM := Lib.hid hm
    have HE := Lib.hid hE
    obtain ⟨w2, hw2⟩ : ∃ w2, w2 = w1.alloc (.cells (ba 32 m) 32) := ⟨_, rfl⟩
    have b2 : Below w1.heap.size w1 w2 := by rw [hw2]; exact (Below.refl _ _).alloc (by simp) _
    have s2 : row w2 w1.heap.size = some (ba 32 m) := by rw [hw2]; exact row_alloc_at _ _ _ _ rfl
    have r2 := carry b2 r1
    have HP2 := Lib.hid (hp1.fr (Fr.new (H := fun _ => False) b2 0) (fun _ _ e => e))
    have HR2 := Lib.hid (hr1.fr (Fr.new (H := fun _ => False) b2 0) (fun _ _ e => e))
    have W2 := Lib.hid ((W0.out.trans (Tw.fst (t' := t') f1)).trans (Tw.new (t := t) (t' := t') b2))
    have hS : paint T1 w1.heap.size 0 w1.heap.size = 0 := paint_new (Nat.le_refl _)
    have hT2Z : paint T1 w1.heap.size 0 Z = 0 := by rw [paint_old (row_lt r1), f1.fr.tag Z (row_lt HR0.out)]; exact HZ.out
    obtain ⟨T2, hT2⟩ : ∃ T2, T2 = paint T1 w1.heap.size 0 := ⟨_, rfl⟩
    rw [← hT2] at HP2 HR2 W2 hS hT2Z
    obtain ⟨S1, hS1⟩ : ∃ S1, S1 = w1.heap.size := ⟨_, rfl⟩
    rw [← hS1] at s2 hS
    have HS := Lib.hid hS
    have HS1 := Lib.hid hS1
    have HW2 := Lib.hid hw2
    have c1 : w2.cell? ⟨Z, 1, none⟩ = some (.int .i64 o.id) := by rw [cell_row r2, opA_g1]
    have c2 : w2.cell? ⟨Z, 2, none⟩ = some (.int .i64 o.n) := by rw [cell_row r2, opA_g2]
    clear hp1 hr1 f1 r0 ha hE hn' hm hS1 hw2 b2 hT2 hb1 hS
    have c1' : (w1.alloc (.cells (ba 32 m) 32)).cell? ⟨Z, 1, none⟩ = some (.int .i64 o.id) := by rw [← HW2.out]; exact c1
    clear c1 c2
    go_wp2_with fail
    rw [← HW2.out, ← HS1.out]
    clear c1' r1 HW2 HS1
    refine (rus_any T2 t' B' K o.id w2 HR2.out).mono ?_
    rintro e w3 ⟨rfl, T3, hr3, f3⟩
    rw [← HA.out, ← HN.out, ← HM.out, ← HE.out]
    have hp3 := HP2.out.fr f3.fr (fun c e1 e2 => H0.out.apart c e2 e1)
    have s3 := f3.fr.rowAt s2 (by rw [HS.out]; exact H0.out.zero.2)
    obtain ⟨w4, hw4⟩ : ∃ w4, w4 = w3.alloc (.cells (ba 32 m) 32) := ⟨_, rfl⟩
    have b4 : Below w3.heap.size w3 w4 := by rw [hw4]; exact (Below.refl _ _).alloc (by simp) _
    have s4 := carry b4 s3
    have s5 : row w4 w3.heap.size = some (ba 32 m) := by rw [hw4]; exact row_alloc_at _ _ _ _ rfl
    have HB := Lib.hid (show Bo (paint T3 w3.heap.size 0) t t' B B' (usK K o.id) w4 from ⟨hp3.fr (Fr.new (H := fun _ => False) b4 0) (fun _ _ e => e), hr3.fr (Fr.new (H := fun _ => False) b4 0) (fun _ _ e => e), H0.out.ap, H0.out.p1, H0.out.r1⟩)
    have W4 := Lib.hid ((W2.out.trans (Tw.snd (t := t) f3)).trans (Tw.new (t := t) (t' := t') b4))
    have heq := eqB_reflK 32 m
    clear hp3 hr3 f3 s2 s3 b4 r2
    rw [hw4] at s4 s5 HB W4
    clear hw4
    go_wp2_with fail
    go_ret
    exact ⟨rfl, _, _, HB.out, W4.out⟩
  · -- Use
    have c1 : w0.cell? ⟨Z, 1, none⟩ = some (.int .i64 o.id) := by rw [cell_row r0, opA_g1]
    have c2 : w0.cell? ⟨Z, 2, none⟩ = some (.int .i64 o.n) := by rw [cell_row r0, opA_g2]
    go_wp2_with fail
    clear c1 c2
    refine (pus_any T0 t B K o.id w0 H0.out.p).mono ?_
    rintro e w1 ⟨rfl, T1, hp1, f1⟩
    have hr1 := H0.out.r.fr f1.fr H0.out.apart
    have r1 := f1.fr.rowAt HR0.out (by rw [HZ.out]; exact H0.out.zero.1)
    have hb1 : Bo T1 t t' B B' K w1 → True := fun _ => trivial
    obtain ⟨a, ha⟩ : ∃ a, a = usV K o.id := ⟨_, rfl⟩
    obtain ⟨n, hn'⟩ : ∃ a, a = usC K o.id := ⟨_, rfl⟩
    obtain ⟨m, hm⟩ : ∃ a, a = usM K o.id := ⟨_, rfl⟩
    obtain ⟨E, hE⟩ : ∃ a, a = usE K o.id := ⟨_, rfl⟩
    rw [← ha, ← hn', ← hm, ← hE]
    have HA := Lib.hid ha
    have HN := Lib.hid hn'
    have HM := Lib.hid hm
    have HE := Lib.hid hE
    obtain ⟨w2, hw2⟩ : ∃ w2, w2 = w1.alloc (.cells (ba 32 m) 32) := ⟨_, rfl⟩
    have b2 : Below w1.heap.size w1 w2 := by rw [hw2]; exact (Below.refl _ _).alloc (by simp) _
    have s2 : row w2 w1.heap.size = some (ba 32 m) := by rw [hw2]; exact row_alloc_at _ _ _ _ rfl
    have r2 := carry b2 r1
    have HP2 := Lib.hid (hp1.fr (Fr.new (H := fun _ => False) b2 0) (fun _ _ e => e))
    have HR2 := Lib.hid (hr1.fr (Fr.new (H := fun _ => False) b2 0) (fun _ _ e => e))
    have W2 := Lib.hid ((W0.out.trans (Tw.fst (t' := t') f1)).trans (Tw.new (t := t) (t' := t') b2))
    have hS : paint T1 w1.heap.size 0 w1.heap.size = 0 := paint_new (Nat.le_refl _)
    have hT2Z : paint T1 w1.heap.size 0 Z = 0 := by rw [paint_old (row_lt r1), f1.fr.tag Z (row_lt HR0.out)]; exact HZ.out
    obtain ⟨T2, hT2⟩ : ∃ T2, T2 = paint T1 w1.heap.size 0 := ⟨_, rfl⟩
    rw [← hT2] at HP2 HR2 W2 hS hT2Z
    obtain ⟨S1, hS1⟩ : ∃ S1, S1 = w1.heap.size := ⟨_, rfl⟩
    rw [← hS1] at s2 hS
    have HS := Lib.hid hS
    have HS1 := Lib.hid hS1
    have HW2 := Lib.hid hw2
    have c1 : w2.cell? ⟨Z, 1, none⟩ = some (.int .i64 o.id) := by rw [cell_row r2, opA_g1]
    have c2 : w2.cell? ⟨Z, 2, none⟩ = some (.int .i64 o.n) := by rw [cell_row r2, opA_g2]
    clear hp1 hr1 f1 r0 ha hE hn' hm hS1 hw2 b2 hT2 hb1 hS
    have c1' : (w1.alloc (.cells (ba 32 m) 32)).cell? ⟨Z, 1, none⟩ = some (.int .i64 o.id) := by rw [← HW2.out]; exact c1
    clear c1 c2
    go_wp2_with fail
    rw [← HW2.out, ← HS1.out]
    clear c1' r1 HW2 HS1
    refine (rus_any T2 t' B' K o.id w2 HR2.out).mono ?_
    rintro e w3 ⟨rfl, T3, hr3, f3⟩
    rw [← HA.out, ← HN.out, ← HM.out, ← HE.out]
    have hp3 := HP2.out.fr f3.fr (fun c e1 e2 => H0.out.apart c e2 e1)
    have s3 := f3.fr.rowAt s2 (by rw [HS.out]; exact H0.out.zero.2)
    obtain ⟨w4, hw4⟩ : ∃ w4, w4 = w3.alloc (.cells (ba 32 m) 32) := ⟨_, rfl⟩
    have b4 : Below w3.heap.size w3 w4 := by rw [hw4]; exact (Below.refl _ _).alloc (by simp) _
    have s4 := carry b4 s3
    have s5 : row w4 w3.heap.size = some (ba 32 m) := by rw [hw4]; exact row_alloc_at _ _ _ _ rfl
    have HB := Lib.hid (show Bo (paint T3 w3.heap.size 0) t t' B B' (usK K o.id) w4 from ⟨hp3.fr (Fr.new (H := fun _ => False) b4 0) (fun _ _ e => e), hr3.fr (Fr.new (H := fun _ => False) b4 0) (fun _ _ e => e), H0.out.ap, H0.out.p1, H0.out.r1⟩)
    have W4 := Lib.hid ((W2.out.trans (Tw.snd (t := t) f3)).trans (Tw.new (t := t) (t' := t') b4))
    have heq := eqB_reflK 32 m
    clear hp3 hr3 f3 s2 s3 b4 r2
    rw [hw4] at s4 s5 HB W4
    clear hw4
    go_wp2_with fail
    go_ret
    exact ⟨rfl, _, _, HB.out, W4.out⟩
  · -- Material
    have c1 : w0.cell? ⟨Z, 1, none⟩ = some (.int .i64 o.id) := by rw [cell_row r0, opA_g1]
    have c2 : w0.cell? ⟨Z, 2, none⟩ = some (.int .i64 o.n) := by rw [cell_row r0, opA_g2]
    go_wp2_with fail
    clear c1 c2
    refine (pmt_any T0 t B K o.id o.n w0 H0.out.p).mono ?_
    rintro e w1 ⟨rfl, hb1⟩
    obtain ⟨m, hm⟩ : ∃ a, a = mtM K o.id o.n := ⟨_, rfl⟩
    obtain ⟨E, hE⟩ : ∃ a, a = mtE K o.id o.n := ⟨_, rfl⟩
    rw [← hm, ← hE]
    have HM := Lib.hid hm
    have HE := Lib.hid hE
    obtain ⟨w2, hw2⟩ : ∃ w2, w2 = w1.alloc (.cells (ba 32 m) 32) := ⟨_, rfl⟩
    have b2 : Below w0.heap.size w0 w2 := by rw [hw2]; exact hb1.alloc hb1.size _
    have s2 : row w2 w1.heap.size = some (ba 32 m) := by rw [hw2]; exact row_alloc_at _ _ _ _ rfl
    have r2 := carry b2 HR0.out
    have H2 := Lib.hid (H0.out.new b2)
    have W2 := Lib.hid (W0.out.trans (Tw.new (t := t) (t' := t') b2))
    have HW2 := Lib.hid hw2
    have c1' : (w1.alloc (.cells (ba 32 m) 32)).cell? ⟨Z, 1, none⟩ = some (.int .i64 o.id) := by rw [← HW2.out, cell_row r2, opA_g1]
    have c2' : (w1.alloc (.cells (ba 32 m) 32)).cell? ⟨Z, 2, none⟩ = some (.int .i64 o.n) := by rw [← HW2.out, cell_row r2, opA_g2]
    obtain ⟨S1, hS1⟩ : ∃ S1, S1 = w1.heap.size := ⟨_, rfl⟩
    rw [← hS1] at s2
    have HS1 := Lib.hid hS1
    clear r0 hm hE hS1 hw2 b2 hb1
    go_wp2_with fail
    rw [← HW2.out, ← HS1.out]
    clear c1' c2' HW2 HS1
    refine (rmt_any _ t' B' K o.id o.n w2 H2.out.r).mono ?_
    rintro e w3 ⟨rfl, hb3⟩
    rw [← HM.out, ← HE.out]
    have s3 := carry hb3 s2
    obtain ⟨w4, hw4⟩ : ∃ w4, w4 = w3.alloc (.cells (ba 32 m) 32) := ⟨_, rfl⟩
    have b4 : Below w2.heap.size w2 w4 := by rw [hw4]; exact hb3.alloc hb3.size _
    have s4 : row w4 S1 = some (ba 32 m) := by rw [hw4]; exact row_alloc s3 _
    have s5 : row w4 w3.heap.size = some (ba 32 m) := by rw [hw4]; exact row_alloc_at _ _ _ _ rfl
    have HB := Lib.hid (H2.out.new b4)
    have W4 := Lib.hid (W2.out.trans (Tw.new (t := t) (t' := t') b4))
    have heq := eqB_reflK 32 m
    clear s2 s3 b4 r2 hb3
    rw [hw4] at s4 s5 HB W4
    clear hw4
    go_wp2_with fail
    go_ret
    exact ⟨rfl, _, _, HB.out, W4.out⟩
  · -- a clone took its place
    go_wp2_with fail
    go_ret
    exact ⟨rfl, T0, K, H0.out, W0.out⟩
end Go.Proofs.Ytabchkcieddhpaa.Oct
