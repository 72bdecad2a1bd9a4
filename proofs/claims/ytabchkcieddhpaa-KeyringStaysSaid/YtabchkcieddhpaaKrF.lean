/- Contract of the reference's Create. -/
import Derived.Test.YtabchkcieddhpaaKrE
namespace Go.Proofs.Ytabchkcieddhpaa.Oct
open Go.ChangeShapes Go.WideShapes Go.ChangeAt Go.RowKit
set_option linter.unusedVariables false

/-- a literal of one version -/
theorem VsAt.lit {T : Mk} {w : World} {t p : Nat} {e : TypeId} {x : Ve} (hp : w.heap[p]? = some (.cells (veA x) e)) (hT : T p = t) : VsAt T w t e (.slice (some ⟨p, 0, none⟩) 1 1) [x] := by
  refine ⟨⟨by rw [vsC_len], .inr ⟨p, 1, veA x, rfl, Nat.zero_le _, hp, Nat.le_refl _, by unfold maxLen; omega, by rw [veA_size], ?_⟩⟩, fun g hg => by cases hg; exact hT⟩
  rw [veA_list, vsC_one1]
  exact List.take_of_length_le (by rw [veC_len]; simp)
theorem ex_rinK (ρ : Operand → Value) {o : Oper} (t : Operand) (ho : o.op = .buildSlice 27 1 #[(0, t)]) (b : Bool) (A : Option Addr) (n c : Nat) (hx : ρ t = .agg (rgA b (.slice A n c))) (w : World) : (execOp ρ o).run Try.prog w = .ok (.value (.slice (some ⟨w.heap.size, 0, none⟩) 1 1)) (w.alloc (.cells (rgA b (.slice A n c)) 48)) := by
  unfold execOp
  simp only [ho, Sem.run_bind, List.map_toArray, List.map_cons, List.map_nil, hx]
  rw [rins_bs, rins_b1]
  rfl

set_option maxRecDepth 20000 in
set_option maxHeartbeats 4000000 in
theorem rcr_any (T : Mk) (t B : Nat) (K : Ks) (m : Bf) (w : World) (h : KAt T w t 48 50 B K) :
    Calls Try.prog 32 #[.pointer (some ⟨B, 0, none⟩), .agg (ba 32 m)] w fun e w' => e = .returned (.tuple #[.int .i64 (crN K), .int .i64 (crE K)]) ∧ ∃ T', KAt T' w' t 48 50 B (crK K m) ∧ Fk T T' t w w' := by
  obtain ⟨w0, hw0⟩ : ∃ w0, w0 = w.alloc (.cells (ba 32 m) 32) := ⟨_, rfl⟩
  have B0 := Lib.hid (show Below w.heap.size w w0 by rw [hw0]; exact (Below.refl w.heap.size w).alloc (by simp) _)
  have hz0 : w0.heap.size = w.heap.size + 1 := by rw [hw0]; simp
  have rm0 : row w0 w.heap.size = some (ba 32 m) := by rw [hw0]; exact row_alloc_at _ _ _ _ rfl
  have h0 := h.fr (Fr.same (H := fun _ => False) B0.out) (fun _ _ e => e)
  obtain ⟨A, c, hcw, hroww, hrsw⟩ := h.open_
  have hc := (B0.out.cell (p := ⟨B, 0, none⟩) (row_lt hroww)).trans hcw
  have hrow := carry B0.out hroww
  have hrs := hrsw.fr (Fr.same (H := fun _ => False) B0.out) (fun _ _ _ e => e)
  have zB : B < w.heap.size := row_lt hroww
  have hl8 := h.ok.1
  by_cases hfull : 8 ≤ K.length
  · have hd : decide ((8 : Int) ≤ (K.length : Int)) = true := by simp; omega
    rw [show crN K = 0 by unfold crN; rw [if_pos hfull], show crE K = 134 by unfold crE; rw [if_pos hfull], show crK K m = K by unfold crK; rw [if_pos hfull]]
    have HK0 := Lib.hid (show ∃ T', KAt T' w0 t 48 50 B K ∧ Fk T T' t w w0 from ⟨T, h0, .same (Fr.same B0.out)⟩)
    clear h h0 hrs hrsw hroww
    go_enter Try.func32, Try.ntmps32
    go_wp2_with fail
    rw [← hw0]
    exact bodyPost_ret (v := .tuple #[.int .i64 0, .int .i64 134]) (by simp [results, Try.results32, go_sem]) rfl ⟨rfl, HK0.out⟩
  · have hd : decide ((8 : Int) ≤ (K.length : Int)) = false := by simp; omega
    obtain ⟨n, hn⟩ : ∃ n, n = K.length := ⟨_, rfl⟩
    have hKK : crK K m = K ++ [(⟨false, [⟨m, 0, false⟩]⟩ : Rg)] := by unfold crK; rw [if_neg hfull]
    have hokK := hKK ▸ crK_ok h.ok m
    rw [show crN K = (n : Int) + 1 by unfold crN; rw [if_neg hfull, hn], show crE K = 0 by unfold crE; rw [if_neg hfull], hKK]
    have HRS := Lib.hid hrs
    have HRW := Lib.hid hrsw
    have HTB := Lib.hid h.tg
    have HROW := Lib.hid hrow
    have HOK := Lib.hid hokK
    rw [← hn] at hd hc hcw HROW HRS HRW hfull hl8
    have HN := Lib.hid hn
    clear h h0 hrs hrsw hroww hKK hokK hn hrow
    go_enter Try.func32, Try.ntmps32
    go_wp2_with fail
    rw [← hw0]
    clear hw0
    clear hcw
    refine flow_shut 13 [.inl [0, 1, 2, 3, 4, 5, 6], pS 7, pU 7, .inl [8], pS 9, pU 9, pE 10, .inl [11, 12], pE 13] (TwoK B #[.slice A n c] w.heap.size (ba 32 m)) (B :: (Value.slice A n c).ownBlock.toList) (by kernel_rfl) (by kernel_rfl) (fun _ _ _ _ _ h => h) (fun _ _ _ _ _ h => h) TwoK.alloc (TwoK.of HROW.out rm0 |>.drewN 1) (fun k hk => by
      rcases List.mem_cons.1 hk with rfl | hk
      · omega
      · obtain ⟨xs, hxs, -⟩ := HRS.out.own
        exact (World.ownsRow.lt hxs k (by simpa using hk)).2) ?_
    have hne : Nonempty (In (TwoK B #[.slice A n c] w.heap.size (ba 32 m))) := ⟨⟨w0, TwoK.of HROW.out rm0⟩⟩
    have B2 := Lib.hid (below_drewN (Below.refl w0.heap.size w0) 1)
    have z2 : (w0.drewN 1).heap.size = w0.heap.size := rfl
    obtain ⟨w2, hw2⟩ : ∃ w2, w2 = w0.drewN 1 := ⟨_, rfl⟩
    rw [← hw2] at B2 z2 ⊢
    clear hw2 hc
    have q1 : ∀ y : In (TwoK B #[.slice A n c] w.heap.size (ba 32 m)), y.val.cell? ⟨B, 0, none⟩ = some (.slice A n c) := fun y => by rw [cell_row (TwoK.fst y.ok)]; rfl
    have q2 : ∀ y : In (TwoK B #[.slice A n c] w.heap.size (ba 32 m)), row y.val w.heap.size = some (ba 32 m) := fun y => TwoK.snd y.ok
    refine wpM_q ?_
    simp only [pk, List.getElem?_cons_zero, List.getElem?_cons_succ]
    repeat (go_big_quiet_step (fail))
    refine wpQuiet_nil ?_
    clear q1 q2
    refine wpM_s (fun p => .slice (some ⟨p, 0, none⟩) 1 1) (.cells (veA ⟨m, 0, false⟩) 50) _ rfl rfl (fun w => ex_verK _ (.tmp 18) rfl _ rfl w) ?_
    refine wpM_u _ _ _ 19 (.head _) rfl rfl (fun y hy p hp1 hp2 hp3 hp4 => ?_)
    have B3 := Lib.hid (onto B2.out B2.out.size y.below)
    obtain ⟨w3, hw3⟩ : ∃ w3, w3 = y.val := ⟨_, rfl⟩
    rw [← hw3] at B3 hp2 hp4 ⊢
    have HP4 := Lib.hid hp4
    clear hw3 hy hp3 hp4 B2 y
    refine wpM_q ?_
    simp only [pk, List.getElem?_cons_zero, List.getElem?_cons_succ]
    simp only [Act.put, List.setIfInBounds_toArray, List.set_cons_succ, List.set_cons_zero]
    repeat (go_big_quiet_step (fail))
    refine wpQuiet_nil ?_
    refine wpM_s (fun p' => .slice (some ⟨p', 0, none⟩) 1 1) (.cells (rgA false (.slice (some ⟨p, 0, none⟩) 1 1)) 48) _ rfl rfl (fun w => ex_rinK _ (.tmp 20) rfl _ _ _ _ rfl w) ?_
    refine wpM_u _ _ _ 21 (.head _) rfl rfl (fun y hy p2 hp21 hp22 hp23 hp24 => ?_)
    refine wpM_e _ rfl (fun y2 hy2 => ?_)
    have b34 := onto y.below y.below.size y2.below
    have B4 := Lib.hid (onto B3.out (by have := B3.out.size; omega) b34)
    have R4 := Lib.hid (carry y2.below (row_of hp24))
    have C4 := Lib.hid hy2
    have HP5 := Lib.hid (show y2.val.heap[p]? = some (.cells (veA ⟨m, 0, false⟩) 50) by rw [b34.block p hp2]; exact HP4.out)
    obtain ⟨w4, hw4⟩ : ∃ w4, w4 = y2.val := ⟨_, rfl⟩
    rw [← hw4] at B4 R4 C4 HP5 ⊢
    clear hw4 hy2 hy hp23 hp24 hp22 b34 HP4 y2 y
    have F4 := Lib.hid (Fr.new (T := T) (H := fun c => c = t + 1) B4.out (t + 1 + 1 + n))
    have hrs4 := HRS.out.fr (Fr.new (T := T) (H := fun _ => False) B4.out (t + 1 + 1 + n)) (fun _ _ _ e => e)
    have hvs4 := VsAt.lit (T := paint T w0.heap.size (t + 1 + 1 + n)) HP5.out (paint_new (by omega))
    have HRS4 := Lib.hid hrs4
    have HVS4 := Lib.hid hvs4
    obtain ⟨xs, hxs, hel⟩ := hrs4.own
    have HEL := Lib.hid hel
    have HXS := Lib.hid hxs
    rw [← HN.out] at hxs
    have hrow4 : row w4 p2 = some ([.bool false, .slice (some ⟨p, 0, none⟩) 1 1] : List Value).toArray := by rw [R4.out]; unfold rgA; rfl
    have zA : ∀ k, (Value.slice A n c).ownBlock = some k → k < w.heap.size ∧ T k = t + 1 := fun k hk => by
      obtain ⟨ys, hys, -⟩ := HRW.out.own
      exact ⟨(World.ownsRow.lt hys k hk).2, HRW.out.tg k hk⟩
    have ZA := Lib.hid zA
    clear hel hrs4 hvs4 zA
    go_wp2_with (refine wpl_appK rfl (.tmp 16) (.tmp 21) rfl rins_u rin_info (rgA_size _ _) (by decide) (by decide) hxs hrow4 rfl (fun v hv => by simp at hv; rcases hv with rfl | rfl <;> rfl) (by omega) rfl rfl ?_; intro v5 w5 ho5 hg5 ht5)
    have ho5' := ho5
    rw [HN.out] at ho5'
    have hvs4 : VsAt (paint T w0.heap.size (t + 1 + 1 + n)) w4 (t + 1 + 1 + K.length) 50 (.slice (some ⟨p, 0, none⟩) 1 1) [⟨m, 0, false⟩] := by rw [← HN.out]; exact HVS4.out
    have V5 := Lib.hid (HRS4.out.app (r := ⟨false, [⟨m, 0, false⟩]⟩) HXS.out HEL.out ho5' hg5 ht5 hvs4)
    have R5 := Lib.hid (TwoK.of (grown_row hg5 (TwoK.fst C4.out) (fun e => by have := (ZA.out _ e).2; rw [HTB.out] at this; omega)) (grown_row hg5 (TwoK.snd C4.out) (fun e => by have := (ZA.out _ e).1; omega)))
    have F5 := Lib.hid (F4.out.trans (Fr.grown (H := fun c => c = t + 1) hg5 (fun k hk => by rw [paint_old (by have := (ZA.out _ hk).1; omega)]; exact (ZA.out _ hk).2) (t + 1)))
    refine same_class (C := TwoK B #[.slice A n c] w.heap.size _) [B] ((Frm.app hg5).more (fun k hk => by simp; right; right; right; simpa using hk)) (fun k hk => by simp at hk; subst hk; exact ⟨.inl (by simp), row_lt (TwoK.fst R5.out)⟩) R5.out TwoK.alloc ?_
    clear ho5 ho5' hg5 ht5 hvs4 R4 C4 hrow4 HXS HEL HVS4 HRS4 F4 hxs
    refine wpM_q ?_
    simp only [pk, List.getElem?_cons_zero, List.getElem?_cons_succ]
    repeat (go_big_quiet_step (fail))
    refine wpQuiet_nil ?_
    clear hne
    refine wpM_e _ rfl (fun y hy => ?_)
    have T6 := Lib.hid (TwoK.fst hy)
    have F6 := Lib.hid (F5.out.trans (Fr.same y.below))
    have V6 := Lib.hid (V5.out.fr (Fr.same (H := fun _ => False) y.below) (fun _ _ _ e => e))
    obtain ⟨w6, hw6⟩ : ∃ w6, w6 = y.val := ⟨_, rfl⟩
    obtain ⟨T9, hT9⟩ : ∃ T9, T9 = paint (paint T w0.heap.size (t + 1 + 1 + n)) w4.heap.size (t + 1) := ⟨_, rfl⟩
    have HM9 := Lib.hid (show ∀ k, T9 k = T k ∨ Hk t (T9 k) from fun k => by
      rw [hT9]
      by_cases hk : k < w4.heap.size
      · rw [paint_old hk]
        by_cases hk0 : k < w0.heap.size
        · exact .inl (paint_old hk0)
        · rw [paint_new (by omega)]; exact .inr ⟨by omega, by omega⟩
      · rw [paint_new (by omega)]; exact .inr ⟨by omega, by omega⟩)
    rw [← hw6] at T6 F6 V6 ⊢
    rw [← hT9] at F6 V6
    clear hw6 hT9 y hy R5 V5 F5
    obtain ⟨A7, c7, hv7, hle7, -⟩ := V6.out.form
    subst hv7
    obtain ⟨N7, hN7⟩ : ∃ N7, N7 = (K ++ [(⟨false, [⟨m, 0, false⟩]⟩ : Rg)]).length := ⟨_, rfl⟩
    have HN7 := Lib.hid (show N7 = n + 1 by rw [hN7, List.length_append, ← HN.out]; rfl)
    have V6' := V6.out
    rw [← hN7] at V6' ⊢
    have k0 : w6.cell? ⟨B, 0, none⟩ = some (.slice A n c) := by rw [cell_row T6.out]; rfl
    have k1 := froz_row T6.out 0
    have k2 := Lib.hid (setCell_row T6.out 0 (.slice A7 N7 c7))
    have hsb : (#[.slice A n c] : Array Value).setIfInBounds 0 (.slice A7 N7 c7) = #[.slice A7 N7 c7] := rfl
    rw [hsb] at k2
    have hT9B : T9 B = t := by rw [F6.out.tag B (by omega)]; exact HTB.out
    have hF7 := (F6.out.mono (H' := fun c => c = t ∨ c = t + 1) (fun c e => .inr e)).trans (Fr.row (T := T9) (w := w6) (H := fun c => c = t ∨ c = t + 1) (B := B) (.inl hT9B) #[.slice A7 N7 c7])
    have hV7 := V6'.fr (Fr.row (T := T9) (w := w6) (H := fun c => c = t) (B := B) hT9B #[.slice A7 N7 c7]) (fun c e1 e2 e3 => by omega)
    have hr7 := row_setRow T6.out #[.slice A7 N7 c7]
    have HK := Lib.hid (show KAt T9 (w6.setRow B #[.slice A7 N7 c7]) t 48 50 B (K ++ [⟨false, [⟨m, 0, false⟩]⟩]) from ⟨hT9B, ⟨_, hr7, hV7⟩, HOK.out⟩)
    have HF := Lib.hid ((Fr.same (T := T) (H := Hk t) B0.out).trans (hF7.mono (H' := Hk t) fun c e => by rcases e with rfl | rfl <;> exact ⟨by omega, by omega⟩))
    have hcN : (w6.setRow B #[.slice A7 N7 c7]).cell? ⟨B, 0, none⟩ = some (.slice A7 N7 c7) := by rw [cell_row hr7]; rfl
    have hfrm := Frm.row (hot := [B]) w6 #[.slice A7 N7 c7] (p := B) (by simp)
    clear hN7 V6 V6' hV7 hF7 F6 hr7 hT9B
    go_wp2_with fail
    rw [k2.out]
    refine end_class (fun _ => True) [] hfrm hot_none trivial (fun _ _ h => h) ?_
    obtain ⟨w7, hw7⟩ : ∃ w7, w7 = w6.setRow B #[.slice A7 N7 c7] := ⟨_, rfl⟩
    rw [← hw7] at HK HF hcN ⊢
    clear hw7 k0 k1 k2 hfrm T6
    refine wpM_nil (fun y => ?_)
    have HK8 := Lib.hid (HK.out.fr (Fr.same (H := fun _ => False) y.below) (fun _ _ e => e))
    have HF8 := Lib.hid (HF.out.trans (Fr.same (H := Hk t) y.below))
    have hc8 := (y.below.cell (p := ⟨B, 0, none⟩) (World.block_lt_of_cell? w7 _ hcN)).trans hcN
    go_wp2_with fail
    have e6 : (N7 : Int) = (n : Int) + 1 := by rw [HN7.out]; rfl
    rw [← e6]
    exact bodyPost_ret (v := .tuple #[.int .i64 N7, .int .i64 0]) (by simp [results, Try.results32, go_sem]) rfl ⟨rfl, T9, HK8.out, ⟨HF8.out, HM9.out⟩⟩
end Go.Proofs.Ytabchkcieddhpaa.Oct
