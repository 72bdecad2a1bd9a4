/- Contracts of the reference: Sync. -/
import Derived.Test.YthdhbjfenanbnaaDkZb
namespace Go.Proofs.Ythdhbjfenanbnaa.Oct
open Go.ChangeShapes Go.WideShapes Go.ChangeAt Go.RowKit
set_option linter.unusedVariables false

theorem rk_set2 {w : World} {B i : Nat} {V : Nat → Value} {off : Bool} {l n : Int} (h : row w B = some (rkC V off l n)) (hi : i < 4) (x y : Value) : (w.setCell ⟨B, i * 2, none⟩ x).setCell ⟨B, i * 2 + 1, none⟩ y = w.setRow B (rkC (updV (updV V (2 * i) x) (2 * i + 1) y) off l n) := by
  rw [setpair h, show i * 2 = 2 * i by omega, rk_set _ _ _ _ (by omega), rk_set _ _ _ _ (by omega)]
set_option maxHeartbeats 8000000 in
theorem rsync_any (T : Mk) (t B : Nat) (d : Dk) (f : Int) (w : World) (h : RkAt T w t B d) (hk : d.ok) (ht : 0 < t) (hn : d.n < 1000000000000) :
    Calls Try.prog 35 #[.pointer (some ⟨B, 0, none⟩), .int .i64 f] w fun e w' => e = .returned (.int .i64 ((onF f d fun i => d.sync i).1 : Int)) ∧ ∃ T', Fr T T' (Hs t) w w' ∧ RkAt T' w' t B (onF f d fun i => d.sync i).2 := by
  by_cases hf : 0 ≤ f ∧ f < 4
  · obtain ⟨F, rfl⟩ : ∃ F : Nat, f = (F : Int) := ⟨f.toNat, by omega⟩
    have hF : F < 4 := by omega
    have b1 : decide ((F : Int) < 4) = true := by simp; omega
    have hd0 : decide ((F : Int) < 0) = false := by simp
    have hd1 : decide (3 < (F : Int)) = false := by simp; omega
    rw [on_in F hF]
    have HST := Lib.hid (rstep_any T t B d w h ht hn)
    by_cases hd : d.dead
    · have HP := Lib.hid (show d.sync F = (5, d.dark) from if_pos hd)
      rw [show d.stp = (5, d.dark) from if_pos hd] at HST
      clear hd h hk
      go_enter Try.func35, Try.ntmps35
      go_wp2_with fail
      refine HST.out.mono ?_
      rintro e w5 ⟨rfl, f5, a5⟩
      have F5 := Lib.hid (RkAt.hs f5)
      have A5 := Lib.hid a5
      clear HST f5 a5
      go_wp2_with fail
      go_ret
      rw [HP.out]
      exact ⟨rfl, T, F5.out, A5.out⟩
    · have HP := Lib.hid (show d.sync F = (0, d.done F (d.f F).sync) from if_neg hd)
      rw [show d.stp = (0, d.tick) from if_neg hd] at HST
      have HK := Lib.hid hk
      have hlF := hk.few F hF
      clear hd h hk
      go_enter Try.func35, Try.ntmps35
      go_wp2_with fail
      refine HST.out.mono ?_
      rintro e w5 ⟨rfl, f5, a5⟩
      have F5 := Lib.hid (RkAt.hs f5)
      have HT5 := Lib.hid a5.tg
      obtain ⟨V, hr, hu, h3⟩ := a5.row
      obtain ⟨⟨A1, c1, hv1, hr1⟩, hp1, ok1⟩ := h3 F hF
      obtain ⟨A2, c2, hv2, hp2, -⟩ := hp1.sl
      have HC := Lib.hid (fun (y : World) (hy : Below w5.heap.size w5 y) => rhas_any (paint T w5.heap.size 0) (t + 1 + F) c1 c2 A1 A2 (d.f F).s (d.f F).l y (hr1.fr (Fr.new (H := fun _ => False) hy 0) (fun e => e)).sl (hp2.fr doE_ok (Fr.new (H := fun _ => False) hy 0) (fun e => e) (fun e => e)) ok1 (by omega))
      have g1 : w5.cell? ⟨B, F * 2, none⟩ = some (.slice A1 (d.f F).s.length c1) := by rw [cell_row hr, rk_get _ _ _ _ (by omega), show F * 2 = 2 * F by omega, hv1]; rfl
      have g2 : w5.cell? ⟨B, F * 2 + 1, none⟩ = some (.slice A2 (d.f F).l.length c2) := by rw [cell_row hr, rk_get _ _ _ _ (by omega), show F * 2 + 1 = 2 * F + 1 by omega, hv2]; rfl
      have hB := row_lt hr
      have G1 := Lib.hid g1
      have G2 := Lib.hid g2
      have R5 := Lib.hid hr
      have H3 := Lib.hid h3
      have HU := Lib.hid hu
      clear HST f5 a5 hr h3 hu hp1 hr1 hp2 hv1 hv2 g1 g2
      go_wp2_with fail
      refine flow_seen [([0, 1, 2, 3, 4, 5, 6, 7, 8, 9, 10, 11, 12, 13, 14, 15, 18, 19], 16, false), ([17, 20], 21, true)] [] (by kernel_rfl) (by kernel_rfl) (fun _ _ _ _ _ h => h) fun X => ?_
      have B6 := Lib.hid X.below
      obtain ⟨w6, hw6⟩ : ∃ w6, w6 = X.val := ⟨_, rfl⟩
      rw [← hw6] at B6 ⊢
      clear hw6 X
      have e1 : ∀ y : After w6, y.val.cell? ⟨B, F * 2, none⟩ = some (.slice A1 (d.f F).s.length c1) := fun y => ((onto B6.out B6.out.size y.below).cell (p := ⟨B, F * 2, none⟩) hB).trans G1.out
      have e2 : ∀ y : After w6, y.val.cell? ⟨B, F * 2 + 1, none⟩ = some (.slice A2 (d.f F).l.length c2) := fun y => ((onto B6.out B6.out.size y.below).cell (p := ⟨B, F * 2 + 1, none⟩) hB).trans G2.out
      simp only [wpFs, pk, List.getElem?_cons_zero, List.getElem?_cons_succ]
      repeat (go_big_quiet_step (fail))
      refine wpQuiet_nil ?_
      clear e1 e2
      go_wp2_with fail
      refine (HC.out w6 B6.out).mono ?_
      rintro e w7 ⟨v, rfl, o7, b7⟩
      have B7 := Lib.hid (onto B6.out B6.out.size b7)
      have B67 := Lib.hid b7
      have O7 := Lib.hid (OwB.of_new (l := has (d.f F).s (d.f F).l) (o7.base B6.out.size) rfl (fun _ _ => rfl) T 0)
      obtain ⟨A7, c7, rfl, r7, -⟩ := O7.out.rd
      obtain ⟨N, hN⟩ : ∃ N, N = (has (d.f F).s (d.f F).l).length := ⟨_, rfl⟩
      rw [← hN] at r7 ⊢
      have RD7 := Lib.hid r7
      have HN := Lib.hid hN
      clear o7 b7 HC B6 O7 hN r7
      go_wp2_with fail
      first | refine ⟨.inr B67.out, ?_⟩ | refine ⟨B67.out, ?_⟩
      have R7 := Lib.hid (carry B7.out R5.out)
      show wpQuiet _ _ _ _ _ _
      repeat (go_big_quiet_step (fail))
      refine wpQuiet_nil ?_
      have k0 : w7.cell? ⟨B, F * 2, none⟩ = some (.slice A1 (d.f F).s.length c1) := (B7.out.cell (p := ⟨B, F * 2, none⟩) hB).trans G1.out
      have k1 : w7.cell? ⟨B, F * 2 + 1, none⟩ = some (.slice A2 (d.f F).l.length c2) := (B7.out.cell (p := ⟨B, F * 2 + 1, none⟩) hB).trans G2.out
      have z0 := froz_row R7.out (F * 2)
      have z1 := froz_row R7.out (F * 2 + 1)
      have k2 := Lib.hid (rk_set2 R7.out hF (.slice A7 N c7) (.slice none 0 0))
      go_wp2_with fail
      rw [k2.out]
      have hT7 : paint T w5.heap.size 0 B = t := by rw [paint_old hB]; exact HT5.out
      have f8 := fun (H : Nat → Prop) h => Fr.row (T := paint T w5.heap.size 0) (w := w7) (H := H) (B := B) h (rkC (updV (updV V (2 * F) (.slice A7 N c7)) (2 * F + 1) (.slice none 0 0)) d.tick.off (leftI d.tick.u) d.tick.n)
      have F8 := Lib.hid ((F5.out.trans (Fr.new (H := Hs t) B7.out 0)).trans (f8 (Hs t) (by rw [hT7]; exact ⟨Nat.le_refl _, by omega⟩)))
      have G8 := Lib.hid ((Fr.new (T := T) (H := fun y => y = t) B7.out 0).trans (f8 (fun y => y = t) hT7))
      have D8 := Lib.hid (RD7.out.fr (f8 (fun y => y = t) hT7) (by omega))
      have R8 := Lib.hid (row_setRow R7.out (rkC (updV (updV V (2 * F) (.slice A7 N c7)) (2 * F + 1) (.slice none 0 0)) d.tick.off (leftI d.tick.u) d.tick.n))
      obtain ⟨w8, hw8⟩ : ∃ w8, w8 = w7.setRow B (rkC (updV (updV V (2 * F) (.slice A7 N c7)) (2 * F + 1) (.slice none 0 0)) d.tick.off (leftI d.tick.u) d.tick.n) := ⟨_, rfl⟩
      rw [← hw8] at F8 G8 D8 R8 ⊢
      clear hw8 f8 k0 k1 k2 z0 z1
      go_wp2_with fail
      first | refine ⟨.inl trivial, ?_⟩ | skip
      show wpQuiet _ _ _ _ _ _
      refine wpQuiet_nil ?_
      go_wp2_with fail
      go_ret
      rw [HP.out]
      refine ⟨rfl, _, F8.out, ?_⟩
      rw [← tick_done]
      refine rk_fil (V := V) (by rw [G8.out.tag B hB]; exact HT5.out) hF R8.out HU.out (fun j hj hne => (H3.out j hj).fr G8.out (by omega) (by omega)) ⟨⟨A7, c7, ?_, ?_⟩, ElOw.nil, ok1.sync⟩
      · show (Value.slice A7 N c7) = .slice A7 (has (d.f F).s (d.f F).l).length c7
        rw [HN.out]
      · have := D8.out
        rw [HN.out] at this
        exact this
  · have hd : decide (f < 0) = true ∨ (decide (f < 0) = false ∧ decide (3 < f) = true) := by
      by_cases h0 : f < 0
      · exact .inl (by simpa using h0)
      · exact .inr ⟨by simp; omega, by simp; omega⟩
    have HON := Lib.hid (show (onF f d fun i => d.sync i) = (1, d) from if_neg hf)
    have HH := Lib.hid h
    clear h hf
    rcases hd with hd | ⟨hd, hd1⟩
    all_goals
      go_enter Try.func35, Try.ntmps35
      go_wp2_with fail
      go_ret
      rw [HON.out]
      exact ⟨rfl, T, Fr.refl _ _ _, HH.out⟩
end Go.Proofs.Ythdhbjfenanbnaa.Oct
