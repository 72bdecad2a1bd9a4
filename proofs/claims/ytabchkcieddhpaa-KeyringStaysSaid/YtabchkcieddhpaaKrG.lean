/- Contract of the reference's Copy. -/
import Derived.Test.YtabchkcieddhpaaKrF
import Derived.Deep.AppendSrc
namespace Go.Proofs.Ytabchkcieddhpaa.Oct
open Go.ChangeShapes Go.WideShapes Go.ChangeAt Go.RowKit
set_option linter.unusedVariables false

/-- versions that are read, laid behind an empty row of the call's own -/
theorem run_appRd {P : Program} {w : World} {tt ty u : TypeId} {z : Value} {bytes p : Nat} (ht : P.underlying tt = some (.slice u)) (hi : (P.info? u).map (fun i => (i.zero, i.size, i.bytes)) = some (some z, 34, bytes)) (hz : z.cells.size = 34) (hb : bytes ≤ 64)
    (hown : w.ownsRow 0 u 34 (.slice (some ⟨p, 0, none⟩) 0 0) 0 []) {s : Value} {l : List Ve} (hs : VRd w s l) (hl : l.length ≤ 1000000) :
    ∃ v' w', (Builtin.append_ #[tt, tt] ty #[.slice (some ⟨p, 0, none⟩) 0 0, s]).run P w = .ok v' w' ∧ w'.ownsRow 0 u 34 v' l.length (vsC l) ∧ w.grownBy w' (some p) ∧ (v'.ownBlock = some p ∨ v'.ownBlock = some w.heap.size) := by
  cases hq : P.info? u with
  | none => rw [hq] at hi; cases hi
  | some i =>
    rw [hq] at hi
    have h0 : (i.zero, i.size, i.bytes) = (some z, 34, bytes) := Option.some.inj hi
    simp only [Prod.mk.injEq] at h0
    obtain ⟨z0, z1, z2⟩ := h0
    obtain ⟨A, c, rfl, hle, hm, hnil, hat⟩ := hs.at_
    cases A with
    | none =>
      have hc0 := hnil rfl
      have hl0 : l = [] := List.length_eq_zero_iff.1 (by omega)
      subst hl0
      subst hc0
      have hr := run_append_room_src (P := P) w tt tt ty u i ht hq p 0 0 0 (.slice none 0 0) 0 [] (Src.ofNil (P := P) w (e' := u) ht 0) (by omega) (fun j hj => by cases hj) (fun j hj => by cases hj)
      exact ⟨_, _, hr, hown, ⟨rfl, rfl, rfl, Nat.le_refl _, fun k hk hne => rfl⟩, .inl rfl⟩
    | some a =>
      obtain ⟨v', w', a1, a2, a3, _, a5⟩ := run_append_own_at (P := P) w 0 tt ty u i z 34 bytes ht hq z0 z1 z2 hz (by omega) _ 0 [] hown a l.length c (vsC l) (vsC_len l)
        (fun j x hx => by
          have hj : j < l.length * 34 := by rw [← vsC_len]; exact (List.getElem?_eq_some_iff.1 hx).1
          obtain ⟨g, o, e, hg, hc⟩ := hat (by omega)
          cases e
          rw [add_mid]
          have h1 := hc (j / 34) (j % 34) (by omega) (by omega)
          rw [show o + j = o + j / 34 * 34 + j % 34 by omega, h1, ← vsC_get l (j / 34) (j % 34) (by omega) (by omega), show j / 34 * 34 + j % 34 = j by omega]
          exact hx) (vsC_one l) (by unfold maxLen; omega) (by have := Nat.mul_le_mul (show 0 + l.length ≤ 1000000 by omega) hb; omega) (Nat.zero_le _)
      rw [Nat.zero_add] at a2
      exact ⟨v', w', a1, a2, a3, a5⟩
theorem wpl_appRd {P : Program} {w : World} {ops : Array Oper} {rest : List Oper} {o : Oper} {a : Act} {Q : Exit → Act → World → Prop} (hgd : o.guard = none) (x y : Operand) {tt u : TypeId} {z : Value} {bytes p : Nat} (ho : o.op = .call { callee := .builtin .append, args := #[x, y], argTypes := #[tt, tt] })
    (ht : P.underlying tt = some (.slice u)) (hi : (P.info? u).map (fun i => (i.zero, i.size, i.bytes)) = some (some z, 34, bytes)) (hz : z.cells.size = 34) (hb : bytes ≤ 64)
    (hown : w.ownsRow 0 u 34 (.slice (some ⟨p, 0, none⟩) 0 0) 0 []) {s : Value} {l : List Ve} (hs : VRd w s l) (hl : l.length ≤ 1000000) (hv : a.eval x = .slice (some ⟨p, 0, none⟩) 0 0) (hy : a.eval y = s)
    (h : ∀ v' w', w'.ownsRow 0 u 34 v' l.length (vsC l) → w.grownBy w' (some p) → (v'.ownBlock = some p ∨ v'.ownBlock = some w.heap.size) → wpList P ops Q rest (a.put o.dst v') w') : wpList P ops Q (o :: rest) a w := by
  refine wpList_plain hgd fun K hK => ?_
  obtain ⟨v', w', a1, a2, a3, a5⟩ := run_appRd (ty := o.type) ht hi hz hb hown hs hl
  unfold Oper.wp execOp
  simp only [ho, resolve, invoke, builtin, Sem.run_bind, Sem.run_pure, Result.andThen_ok, List.map_toArray, List.map_cons, List.map_nil, hv, hy, a1]
  exact hK _ _ (h v' w' a2 a3 a5)
theorem ex_ver0 (ρ : Operand → Value) {o : Oper} (ho : o.op = .buildSlice 46 0 #[]) (w : World) : (execOp ρ o).run Try.prog w = .ok (.value (.slice (some ⟨w.heap.size, 0, none⟩) 0 0)) (w.alloc (.cells #[] 50)) := by
  unfold execOp
  simp only [ho, Sem.run_bind, List.map_toArray, List.map_nil]
  rw [vers_bs, vers_b0]
  rfl
theorem own_lit0 {w : World} {p : Nat} {e : TypeId} (h : w.heap[p]? = some (.cells #[] e)) (k : Nat) : w.ownsRow 0 e k (.slice (some ⟨p, 0, none⟩) 0 0) 0 [] :=
  ⟨by simp, .inr ⟨p, 0, #[], rfl, Nat.zero_le _, h, Nat.le_refl _, Nat.zero_le _, by simp, by simp⟩⟩

set_option maxRecDepth 20000 in
set_option maxHeartbeats 4000000 in
theorem rcopy_any (T : Mk) (t : Nat) (K : Ks) (v : Value) (w : World) (h : RRd w v K) (hK : K.length ≤ 1000) (hV : ∀ r ∈ K, r.l.length ≤ 1000) (hfr : ∀ k, k < w.heap.size → T k ≠ t) :
    Calls Try.prog 20 #[v] w fun e w' => ∃ v' T', e = .returned v' ∧ RsAt T' w' t 48 50 v' K ∧ (∀ k, k < w.heap.size → T' k = T k) ∧ (∀ k, T' k = T k ∨ (t ≤ T' k ∧ T' k ≤ t + K.length)) ∧ Below w.heap.size w w' := by
  obtain ⟨A, c, rfl, hle, hmx, hat⟩ := h.at_
  have HAT := Lib.hid hat
  have HV := Lib.hid hV
  have HFR := Lib.hid hfr
  obtain ⟨n, hn⟩ : ∃ n, n = K.length := ⟨_, rfl⟩
  have HN := Lib.hid hn
  rw [← hn] at hle hK ⊢
  clear h hat hV hn hfr
  go_enter Try.func20, Try.ntmps20
  go_wp2_with fail
  go_loopw [3, 4] (fun ov iv wr => ∃ (j : Nat) (T' : Mk), j ≤ n ∧ iv = .int .i64 j ∧ RsAt T' wr t 48 50 ov (K.take j) ∧ (∀ k, k < w.heap.size → T' k = T k) ∧ (∀ k, T' k = T k ∨ (t ≤ T' k ∧ T' k ≤ t + K.length)) ∧ Below w.heap.size w wr) (fun _ iv _ => n - (intOf iv).toNat)
  case atStart => exact ⟨0, T, by omega, rfl, RsAt.nil, fun _ _ => rfl, fun _ => .inl rfl, Below.refl _ _⟩
  case round =>
    obtain ⟨j, T1, hj, rfl, hrs, htg, hmk, hb⟩ := hrel
    have HMK := Lib.hid hmk
    clear hmk
    obtain ⟨w1, rfl⟩ : ∃ w1 : World, w1 = wr := ⟨_, rfl⟩
    have HRS := Lib.hid hrs
    have HTG := Lib.hid htg
    have HB := Lib.hid hb
    by_cases hlt : j < n
    · have hjK : j < K.length := by have := HN.out; omega
      have hlen : (K.take j).length = j := by rw [List.length_take]; omega
      obtain ⟨g, o, rfl, hg, hc⟩ := HAT.out (by omega)
      obtain ⟨h0, vi, h1, h2⟩ := hc j hjK
      obtain ⟨A2, c2, rfl, hle2, -, -, -⟩ := h2.at_
      obtain ⟨r, hr⟩ : ∃ r, r = K[j] := ⟨_, rfl⟩
      rw [← hr] at h0 h1 h2 hle2
      obtain ⟨Ao, co, rfl, hleo, hmo, -⟩ := hrs.form
      rw [hlen] at HRS ⊢
      have HL := Lib.hid hlen
      have HR := Lib.hid hr
      have H0 := Lib.hid h0
      have H1 := Lib.hid h1
      have H2 := Lib.hid h2
      have hr1 := HV.out r (by rw [hr]; exact List.getElem_mem _)
      obtain ⟨L, hL⟩ : ∃ L, L = r.l.length := ⟨_, rfl⟩
      rw [← hL] at H1 hr1 hle2
      have HLL := Lib.hid hL
      clear hc hrs htg hb hlen hr h0 h1 h2 hL
      have zO : ∀ k, (Value.slice Ao j co).ownBlock = some k → w.heap.size ≤ k ∧ k < w1.heap.size ∧ T1 k = t := fun k hk => by
        obtain ⟨ys, hys, -⟩ := HRS.out.own
        rw [HL.out] at hys
        refine ⟨?_, (World.ownsRow.lt hys k hk).2, HRS.out.tg k hk⟩
        rcases Nat.lt_or_ge k w.heap.size with h | h
        · exact absurd ((HTG.out k h).symm.trans (HRS.out.tg k hk)) (HFR.out k h)
        · exact h
      have ZO := Lib.hid zO
      have zw := HB.out.size
      clear zO
      go_wp2_with fail
      refine flow_many [.inl [0, 1, 2, 3, 4, 5, 7, 8, 9, 10, 11], pS 6, pU 6, pE 12, .inl [13], pS 14, pU 14, pE 15, .inl [16]] (fun y => Below w.heap.size w y) (Value.slice Ao j co).ownBlock.toList (by kernel_rfl) (by kernel_rfl) (fun _ _ _ _ _ h => h) (fun _ _ _ _ _ h => h) (fun y z h => h.alloc h.size z) (below_drewN HB.out 1) (fun k hk => (ZO.out k (by simpa using hk)).2.1) ?_
      have hne : Nonempty (In (fun y => Below w.heap.size w y)) := ⟨⟨w1, HB.out⟩⟩
      have B2 := Lib.hid (below_drewN (Below.refl w1.heap.size w1) 1)
      have z2 : (w1.drewN 1).heap.size = w1.heap.size := rfl
      obtain ⟨w2, hw2⟩ : ∃ w2, w2 = w1.drewN 1 := ⟨_, rfl⟩
      rw [← hw2] at B2 z2 ⊢
      clear hw2
      have q1 : ∀ y : In (fun y => Below w.heap.size w y), y.val.cell? ⟨g, o + j * 2, none⟩ = some (.bool r.off) := fun y => (y.ok.cell (p := ⟨g, o + j * 2, none⟩) hg).trans H0.out
      have q2 : ∀ y : In (fun y => Below w.heap.size w y), y.val.cell? ⟨g, o + j * 2 + 1, none⟩ = some (.slice A2 L c2) := fun y => (y.ok.cell (p := ⟨g, o + j * 2 + 1, none⟩) hg).trans H1.out
      refine wpM_q ?_
      simp only [pk, List.getElem?_cons_zero, List.getElem?_cons_succ]
      repeat (go_big_quiet_step (fail))
      refine wpQuiet_nil ?_
      clear q1 q2
      refine wpM_s (fun p => .slice (some ⟨p, 0, none⟩) 0 0) (.cells #[] 50) _ rfl rfl (fun w => ex_ver0 _ rfl w) ?_
      refine wpM_u _ _ _ 17 (.head _) rfl rfl (fun y hy p hp1 hp2 hp3 hp4 => ?_)
      refine wpM_e _ rfl (fun y2 hy2 => ?_)
      have B3 := Lib.hid (onto (onto B2.out B2.out.size y.below) (by have := B2.out.size; have := y.below.size; omega) y2.below)
      have own3 : y2.val.ownsRow 0 50 34 (.slice (some ⟨p, 0, none⟩) 0 0) 0 [] := own_lit0 (by rw [y2.below.block p hp2]; exact hp4) 34
      have C3 := Lib.hid hy2
      have hp5 : p < y2.val.heap.size := by have := y2.below.size; omega
      obtain ⟨w3, hw3⟩ : ∃ w3, w3 = y2.val := ⟨_, rfl⟩
      rw [← hw3] at B3 own3 C3 hp5 ⊢
      clear hw3 hy2 hy hp3 hp4 hp2 B2 y2 y
      have hs3 : VRd w3 (.slice A2 L c2) r.l := by
        have := H2.out.below C3.out
        rw [← HLL.out] at this
        exact this
      go_wp2_with (refine wpl_appRd rfl (.tmp 17) (.tmp 22) rfl vers_u ver_info (veA_size _) (by decide) own3 hs3 (by rw [← HLL.out]; omega) rfl rfl ?_; intro v4 w4 ho4 hg4 ht4)
      have B4 := Lib.hid (B3.out.grown hg4 B3.out.size (fun k e => by cases e; exact hp1))
      have C4 := Lib.hid (C3.out.grown hg4 C3.out.size (fun k e => by cases e; omega))
      have htg4 : ∀ k, v4.ownBlock = some k → w1.heap.size ≤ k := fun k hk => by
        rcases ht4 with e | e <;> rw [e] at hk <;> cases hk
        · exact hp1
        · have := B3.out.size; omega
      have V4 := Lib.hid (show VsAt (paint T1 w1.heap.size (t + 1 + j)) w4 (t + 1 + j) 50 v4 r.l from ⟨ho4, fun k hk => paint_new (htg4 k hk)⟩)
      refine same_class (C := fun y => Below w.heap.size w y) (Value.slice Ao j co).ownBlock.toList (⟨hg4.size, fun k hk hn => hg4.block k hk (fun e => hn (by cases e; simp))⟩) (fun k hk => ⟨.inl (by simp; right; simpa using hk), by have h1 := (ZO.out k (by simpa using hk)).2.1; have h2 := B4.out.size; omega⟩) C4.out (fun y z h => h.alloc h.size z) ?_
      clear ho4 hg4 ht4 htg4 own3 hs3 C3 B3
      obtain ⟨A5, c5, hv5, -⟩ := V4.out.form
      subst hv5
      rw [← HLL.out] at V4 ⊢
      refine wpM_q ?_
      simp only [pk, List.getElem?_cons_zero, List.getElem?_cons_succ]
      repeat (go_big_quiet_step (fail))
      refine wpQuiet_nil ?_
      clear hne
      refine wpM_s (fun p' => .slice (some ⟨p', 0, none⟩) 1 1) (.cells (rgA r.off (.slice A5 L c5)) 48) _ rfl rfl (fun w => ex_rinK _ (.tmp 24) rfl _ _ _ _ rfl w) ?_
      refine wpM_u _ _ _ 25 (.head _) rfl rfl (fun y hy p2 hp21 hp22 hp23 hp24 => ?_)
      refine wpM_e _ rfl (fun y2 hy2 => ?_)
      have b46 := onto y.below y.below.size y2.below
      have B6 := Lib.hid (onto B4.out B4.out.size b46)
      have V6 := Lib.hid (V4.out.fr (Fr.same (H := fun _ => False) b46) (fun e => e))
      have R6 := Lib.hid (carry y2.below (row_of hp24))
      have C6 := Lib.hid hy2
      obtain ⟨w6, hw6⟩ : ∃ w6, w6 = y2.val := ⟨_, rfl⟩
      rw [← hw6] at B6 V6 R6 C6 ⊢
      clear hw6 hy2 hy hp23 hp24 hp22 b46 B4 V4 C4 y2 y
      have hrs6 := HRS.out.fr (Fr.new (T := T1) (H := fun _ => False) B6.out (t + 1 + j)) (fun _ _ _ e => e)
      have HRS6 := Lib.hid hrs6
      obtain ⟨xs, hxs, hel⟩ := hrs6.own
      have HEL := Lib.hid hel
      have HXS := Lib.hid hxs
      rw [HL.out] at hxs
      have hrow6 : row w6 p2 = some ([.bool r.off, .slice A5 L c5] : List Value).toArray := by rw [R6.out]; unfold rgA; rfl
      clear hel hrs6
      go_wp2_with (refine wpl_appK rfl (.tmp 11) (.tmp 25) rfl rins_u rin_info (rgA_size _ _) (by decide) (by decide) hxs hrow6 rfl (fun v hv => by simp at hv; rcases hv with rfl | rfl <;> rfl) (by omega) rfl rfl ?_; intro v7 w7 ho7 hg7 ht7)
      have ho7' := ho7
      rw [← HL.out] at ho7'
      have hvs6 : VsAt (paint T1 w1.heap.size (t + 1 + j)) w6 (t + 1 + (K.take j).length) 50 (.slice A5 L c5) r.l := by rw [HL.out]; exact V6.out
      have V7 := HRS6.out.app (r := r) HXS.out HEL.out ho7' hg7 ht7 hvs6
      rw [show K.take j ++ [r] = K.take (j + 1) by rw [HR.out, List.take_append_getElem]] at V7
      have B7 := Lib.hid (C6.out.grown hg7 C6.out.size (fun k e => (ZO.out k e).1))
      have HV7 := Lib.hid V7
      have HT7 := Lib.hid (show ∀ k, k < w.heap.size → paint (paint T1 w1.heap.size (t + 1 + j)) w6.heap.size t k = T k from fun k hk => by
        rw [paint_old (by have := B6.out.size; omega), paint_old (by omega)]; exact HTG.out k hk)
      have hs7 := hg7.size
      have HM7 := Lib.hid (show ∀ k, paint (paint T1 w1.heap.size (t + 1 + j)) w6.heap.size t k = T k ∨ (t ≤ paint (paint T1 w1.heap.size (t + 1 + j)) w6.heap.size t k ∧ paint (paint T1 w1.heap.size (t + 1 + j)) w6.heap.size t k ≤ t + K.length) from fun k => by
        by_cases hk : k < w6.heap.size
        · rw [paint_old hk]
          by_cases hk1 : k < w1.heap.size
          · rw [paint_old hk1]; exact HMK.out k
          · rw [paint_new (by omega)]; exact .inr ⟨by omega, by omega⟩
        · rw [paint_new (by omega)]; exact .inr ⟨by omega, by omega⟩)
      refine same_class (C := fun y => Below w.heap.size w y) [] ((Frm.app hg7).more (fun k hk => by simp; right; simpa using hk)) hot_none B7.out (fun y z h => h.alloc h.size z) ?_
      clear ho7 ho7' hg7 ht7 hvs6 R6 C6 hrow6 HXS HEL HRS6 hxs V7 V6
      have hne : Nonempty (In (fun y => Below w.heap.size w y)) := ⟨⟨w1, HB.out⟩⟩
      refine wpM_q ?_
      simp only [pk, List.getElem?_cons_zero, List.getElem?_cons_succ]
      repeat (go_big_quiet_step (fail))
      refine wpQuiet_nil ?_
      clear hne
      refine wpM_nil (fun y => ?_)
      have HV8 := Lib.hid (HV7.out.fr (Fr.same (H := fun _ => False) y.below) (fun _ _ _ e => e))
      have HB8 := Lib.hid (onto B7.out B7.out.size y.below)
      go_wp2_with fail
      go_roundw
      case rel => exact ⟨j + 1, _, by omega, by go_num, HV8.out, HT7.out, HM7.out, HB8.out⟩
      case measure => simp [intOf]; omega
    · obtain rfl : j = n := by omega
      have HRS' := HRS.out
      rw [List.take_of_length_le (by rw [← HN.out]; exact Nat.le_refl _)] at HRS'
      have HQ := Lib.hid HRS'
      clear HRS' HRS hrs
      go_wp2_with fail
      go_ret
      exact ⟨_, T1, rfl, HQ.out, HTG.out, by have := HMK.out; rw [← HN.out] at this; exact this, HB.out⟩
end Go.Proofs.Ytabchkcieddhpaa.Oct
