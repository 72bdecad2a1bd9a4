/- Contract of the reference's Rotate. -/
import Derived.Test.YtabchkcieddhpaaKrC
import Derived.Test.YtabchkcieddhpaaFlowE
namespace Go.Proofs.Ytabchkcieddhpaa.Oct
open Go.ChangeShapes Go.WideShapes Go.ChangeAt Go.RowKit
set_option linter.unusedVariables false

theorem ownsRow_calmK {w w' : World} {b n k : Nat} {u : TypeId} {v : Value} {xs : List Value} (h : w.ownsRow b u k v n xs) (hb : Below w.heap.size w w') : w'.ownsRow b u k v n xs := by
  refine ⟨h.1, ?_⟩
  rcases h.2 with hn | ⟨g, cap, cur, e, hbg, hg, rest⟩
  · exact .inl hn
  · exact .inr ⟨g, cap, cur, e, hbg, by rw [hb.block g (Array.getElem?_eq_some_iff.1 hg).1]; exact hg, rest⟩
theorem wpl_appK {P : Program} {w : World} {ops : Array Oper} {rest : List Oper} {o : Oper} {a : Act} {Q : Exit → Act → World → Prop} (hgd : o.guard = none) (s y : Operand) {t u : TypeId} {z : Value} {k bytes : Nat} (ho : o.op = .call { callee := .builtin .append, args := #[s, y], argTypes := #[t, t] })
    (ht : P.underlying t = some (.slice u)) (hi : (P.info? u).map (fun i => (i.zero, i.size, i.bytes)) = some (some z, k, bytes)) (hz : z.cells.size = k) (hk : 0 < k) (hb : bytes ≤ 64)
    {v : Value} {n : Nat} {xs : List Value} (hown : w.ownsRow 0 u k v n xs) {p : Nat} {vs : List Value} (hr : row w p = some vs.toArray) (hl : vs.length = k) (h1 : ∀ x ∈ vs, x.oneCell' = true) (hn : n ≤ 1000000000000)
    (hv : a.eval s = v) (hy : a.eval y = .slice (some ⟨p, 0, none⟩) 1 1)
    (h : ∀ v' w', w'.ownsRow 0 u k v' (n + 1) (xs ++ vs) → w.grownBy w' v.ownBlock → (v'.ownBlock = v.ownBlock ∨ v'.ownBlock = some w.heap.size) → wpList P ops Q rest (a.put o.dst v') w') : wpList P ops Q (o :: rest) a w := by
  refine wpList_plain hgd fun K hK => ?_
  cases hq : P.info? u with
  | none => rw [hq] at hi; cases hi
  | some i =>
    rw [hq] at hi
    have h0 : (i.zero, i.size, i.bytes) = (some z, k, bytes) := Option.some.inj hi
    simp only [Prod.mk.injEq] at h0
    obtain ⟨z0, z1, z2⟩ := h0
    obtain ⟨v', w', a1, a2, a3, _, a5⟩ := run_append_own_at (P := P) w 0 t o.type u i z k bytes ht hq z0 z1 z2 hz hk v n xs hown ⟨p, 0, none⟩ 1 1 vs (by omega)
      (fun j x hx => by rw [add_mid, Nat.zero_add, cell_row hr, List.getElem?_toArray]; exact hx) h1 (by unfold maxLen; omega) (by have := Nat.mul_le_mul (show n + 1 ≤ 1000000000001 by omega) hb; omega) (Nat.zero_le _)
    unfold Oper.wp execOp
    simp only [ho, resolve, invoke, builtin, Sem.run_bind, Sem.run_pure, Result.andThen_ok, List.map_toArray, List.map_cons, List.map_nil, hv, hy, a1]
    exact hK _ _ (h v' w' a2 a3 a5)
/-- two blocks are known -/
def TwoK (a : Nat) (x : Array Value) (b : Nat) (y : Array Value) (w : World) : Prop := row w a = some x ∧ row w b = some y
section
variable {a b : Nat} {x y : Array Value} {w : World}
theorem TwoK.of (h1 : row w a = some x) (h2 : row w b = some y) : TwoK a x b y w := ⟨h1, h2⟩
theorem TwoK.fst (h : TwoK a x b y w) : row w a = some x := h.1
theorem TwoK.snd (h : TwoK a x b y w) : row w b = some y := h.2
theorem TwoK.alloc (w : World) (z : Obj) (h : TwoK a x b y w) : TwoK a x b y (w.alloc z) := ⟨row_alloc h.1 z, row_alloc h.2 z⟩
theorem TwoK.drewN (h : TwoK a x b y w) (n : Nat) : TwoK a x b y (w.drewN n) := ⟨by rw [row_drewN]; exact h.1, by rw [row_drewN]; exact h.2⟩
end
theorem RsAt.row_ {T : Mk} {w : World} {t : Nat} {eR eV : TypeId} {K : Ks} {g n c : Nat} (h : RsAt T w t eR eV (.slice (some ⟨g, 0, none⟩) n c) K) (hn : 0 < n) : ∃ cur, Oct.row w g = some cur := by
  obtain ⟨A, c', e1, -, -, h3⟩ := h.form
  simp only [Value.slice.injEq] at e1
  obtain ⟨rfl, rfl, rfl⟩ := e1
  obtain ⟨g', cur, e2, -, hr, -⟩ := h3 hn
  cases e2
  exact ⟨cur, hr⟩
theorem ex_verK (ρ : Operand → Value) {o : Oper} (t : Operand) (ho : o.op = .buildSlice 46 1 #[(0, t)]) (v : Ve) (hx : ρ t = .agg (veA v)) (w : World) : (execOp ρ o).run Try.prog w = .ok (.value (.slice (some ⟨w.heap.size, 0, none⟩) 1 1)) (w.alloc (.cells (veA v) 50)) := by
  unfold execOp
  simp only [ho, Sem.run_bind, List.map_toArray, List.map_cons, List.map_nil, hx]
  rw [vers_bs, vers_b1]
  rfl

set_option maxRecDepth 20000 in
set_option maxHeartbeats 4000000 in
theorem rrt_any (T : Mk) (t B : Nat) (K : Ks) (id : Int) (m : Bf) (w : World) (h : KAt T w t 48 50 B K) :
    Calls Try.prog 33 #[.pointer (some ⟨B, 0, none⟩), .int .i64 id, .agg (ba 32 m)] w fun e w' => e = .returned (.tuple #[.int .i64 (rtN K id), .int .i64 (rtE K id)]) ∧ ∃ T', KAt T' w' t 48 50 B (rtK K id m) ∧ Fk T T' t w w' := by
  obtain ⟨w0, hw0⟩ : ∃ w0, w0 = w.alloc (.cells (ba 32 m) 32) := ⟨_, rfl⟩
  have B0 := Lib.hid (show Below w.heap.size w w0 by rw [hw0]; exact (Below.refl w.heap.size w).alloc (by simp) _)
  have hz0 : w0.heap.size = w.heap.size + 1 := by rw [hw0]; simp
  have rm0 : row w0 w.heap.size = some (ba 32 m) := by rw [hw0]; exact row_alloc_at _ _ _ _ rfl
  have h0 := h.fr (Fr.same (H := fun _ => False) B0.out) (fun _ _ e => e)
  have HK0 := Lib.hid (show ∃ T', KAt T' w0 t 48 50 B K ∧ Fk T T' t w w0 from ⟨T, h0, .same (Fr.same B0.out)⟩)
  cases hok : hasK K id
  · obtain ⟨A, c, hc, hrow, hrs⟩ := h0.open_
    have hE : rtE K id = 130 := by unfold rtE; rw [hok]; rfl
    rw [show rtN K id = 0 by unfold rtN; rw [hE]; rfl, show rtK K id m = K by unfold rtK; rw [hE]; rfl, hE]
    have HIS := Lib.hid (ris_any B A K.length c id w0 hc)
    clear h h0 hrs
    go_enter Try.func33, Try.ntmps33
    go_wp2_with fail
    rw [← hw0]
    refine HIS.out.mono ?_
    rintro e w1 ⟨rfl, rfl⟩
    rw [show (decide (1 ≤ id) && decide (id ≤ (K.length : Int))) = false from hok]
    clear hw0
    go_wp2_with fail
    exact bodyPost_ret (v := .tuple #[.int .i64 0, .int .i64 130]) (by simp [results, Try.results33, go_sem]) rfl ⟨rfl, HK0.out⟩
  · obtain ⟨i, hi, g, c, vi, rfl, hi8, hl8, hrg, hg, hcw, hroww, hrsw, hle, hfrw, hcellw, hcell2w, hvsw, hput⟩ := h.ring hok
    have hR := h.ok.ring hok
    rw [hrg] at hR
    obtain ⟨g2, c2, cur2, rfl, hle2, hm2, hg2, hr2w, -, -⟩ := hvsw.open_ (by have := hR.1.1; omega)
    have zgw : g < w.heap.size := World.block_lt_of_cell? w _ hcellw
    have zg2w : g2 < w.heap.size := row_lt hr2w
    have hc := (B0.out.cell (p := ⟨B, 0, none⟩) (row_lt hroww)).trans hcw
    have hrow := carry B0.out hroww
    have hrs := hrsw.fr (Fr.same (H := fun _ => False) B0.out) (fun _ _ _ e => e)
    have hvs := hvsw.fr (Fr.same (H := fun _ => False) B0.out) (fun e => e)
    have hcell2 := (B0.out.cell (p := ⟨g, i * 2 + 1, none⟩) zgw).trans hcell2w
    have hr2 := carry B0.out hr2w
    clear hcw hroww hrsw hfrw hcellw hcell2w hvsw hr2w
    have hl4 := hR.1.2
    have hl1 := hR.1.1
    have e1 : (i : Int) + 1 - 1 = (i : Int) := by omega
    have HIS := Lib.hid (ris_any B _ K.length c ((i : Int) + 1) w0 hc)
    by_cases hfull : 4 ≤ K[i].l.length
    · have hE : rtE K ((i : Int) + 1) = 134 := by unfold rtE; rw [if_pos hok, hrg, if_pos hfull]
      rw [show rtN K ((i : Int) + 1) = 0 by unfold rtN; rw [hE]; rfl, show rtK K ((i : Int) + 1) m = K by unfold rtK; rw [hE]; rfl, hE]
      have hd : decide ((4 : Int) ≤ (K[i].l.length : Int)) = true := by simp; omega
      clear h h0 hrs hput hvs hR hE hr2
      go_enter Try.func33, Try.ntmps33
      go_wp2_with fail
      rw [← hw0]
      refine HIS.out.mono ?_
      rintro e w1 ⟨rfl, rfl⟩
      rw [show (decide (1 ≤ (i : Int) + 1) && decide ((i : Int) + 1 ≤ (K.length : Int))) = true from hok]
      clear hw0
      go_wp2_with fail
      exact bodyPost_ret (v := .tuple #[.int .i64 0, .int .i64 134]) (by simp [results, Try.results33, go_sem]) rfl ⟨rfl, HK0.out⟩
    · have hE : rtE K ((i : Int) + 1) = 0 := by unfold rtE; rw [if_pos hok, hrg, if_neg hfull]
      have hd : decide ((4 : Int) ≤ (K[i].l.length : Int)) = false := by simp; omega
      obtain ⟨n, hn⟩ : ∃ n, n = K[i].l.length := ⟨_, rfl⟩
      have hKK : rtK K ((i : Int) + 1) m = K.set i ⟨K[i].off, K[i].l ++ [⟨m, 0, false⟩]⟩ := by unfold rtK; rw [if_pos hE, hput, hrg]
      have hokK := hKK ▸ rtK_ok (id := (i : Int) + 1) h.ok m
      rw [show rtN K ((i : Int) + 1) = (n : Int) + 1 by unfold rtN; rw [if_pos hE, hrg, hn], hKK, hE]
      obtain ⟨curG, hrG⟩ := hrs.row_ (by omega)
      have hcG : curG[i * 2 + 1]? = some (.slice (some ⟨g2, 0, none⟩) K[i].l.length c2) := by rw [← cell_row hrG]; exact hcell2
      have HVS := Lib.hid hvs
      have HRS := Lib.hid hrs
      have HCG := Lib.hid hcG
      have HG2 := Lib.hid hg2
      have HGG := Lib.hid hg
      have HTB := Lib.hid h0.tg
      have HROW := Lib.hid hrow
      have HOK := Lib.hid hokK
      have zg2 : g2 < w0.heap.size := row_lt hr2
      have zg : g < w0.heap.size := row_lt hrG
      rw [← hn] at hd hcell2 HVS HCG
      have HN := Lib.hid hn
      rw [← hn] at hl4 hl1 hfull hle2
      clear hn
      have hn4 : n < 4 := by omega
      clear h h0 hrs hput hvs hR hE hr2 hKK hokK hcG hrow
      go_enter Try.func33, Try.ntmps33
      go_wp2_with fail
      rw [← hw0]
      refine HIS.out.mono ?_
      rintro e w1 ⟨rfl, rfl⟩
      rw [show (decide (1 ≤ (i : Int) + 1) && decide ((i : Int) + 1 ≤ (K.length : Int))) = true from hok]
      clear hw0
      go_wp2_with fail
      refine flow_shut 11 [.inl [0, 1, 2, 3, 4, 5, 6], pS 7, pU 7, pE 8, .inl [9, 10], pE 11] (TwoK g curG w.heap.size (ba 32 m)) [g, g2] (by kernel_rfl) (by kernel_rfl) (fun _ _ _ _ _ h => h) (fun _ _ _ _ _ h => h) TwoK.alloc (TwoK.of hrG rm0 |>.drewN 1) (fun k hk => by
        simp only [List.mem_cons, List.not_mem_nil, or_false] at hk
        rcases hk with rfl | rfl
        · exact zg
        · exact zg2) ?_
      have hne : Nonempty (In (TwoK g curG w.heap.size (ba 32 m))) := ⟨⟨w0, TwoK.of hrG rm0⟩⟩
      have B2 := Lib.hid (below_drewN (Below.refl w0.heap.size w0) 1)
      have z2 : (w0.drewN 1).heap.size = w0.heap.size := rfl
      obtain ⟨w2, hw2⟩ : ∃ w2, w2 = w0.drewN 1 := ⟨_, rfl⟩
      rw [← hw2] at B2 z2 ⊢
      clear hw2 hc hcell2
      have q1 : ∀ y : In (TwoK g curG w.heap.size (ba 32 m)), y.val.cell? ⟨g, i * 2 + 1, none⟩ = some (.slice (some ⟨g2, 0, none⟩) n c2) := fun y => by rw [cell_row (TwoK.fst y.ok)]; exact HCG.out
      have q2 : ∀ y : In (TwoK g curG w.heap.size (ba 32 m)), row y.val w.heap.size = some (ba 32 m) := fun y => TwoK.snd y.ok
      refine wpM_q ?_
      simp only [pk, List.getElem?_cons_zero, List.getElem?_cons_succ]
      repeat (go_big_quiet_step (fail))
      refine wpQuiet_nil ?_
      clear q1 q2
      refine wpM_s (fun p => .slice (some ⟨p, 0, none⟩) 1 1) (.cells (veA ⟨m, 0, false⟩) 50) _ rfl rfl (fun w => ex_verK _ (.tmp 32) rfl _ rfl w) ?_
      refine wpM_u _ _ _ 33 (.head _) rfl rfl (fun y hy p hp1 hp2 hp3 hp4 => ?_)
      refine wpM_e _ rfl (fun y2 hy2 => ?_)
      have B3 := Lib.hid (onto (onto B2.out B2.out.size y.below) (by have := B2.out.size; have := y.below.size; omega) y2.below)
      have R3 := Lib.hid (carry y2.below (row_of hp4))
      have C3 := Lib.hid hy2
      obtain ⟨w3, hw3⟩ : ∃ w3, w3 = y2.val := ⟨_, rfl⟩
      rw [← hw3] at B3 R3 C3 ⊢
      clear hw3 hy2 hy hp3 hp4 hp2 B2 y2 y
      have V3 := Lib.hid (HVS.out.fr (Fr.same (H := fun _ => False) B3.out) (fun e => e))
      have hrow3 : row w3 p = some (veC ⟨m, 0, false⟩).toArray := by rw [R3.out]; unfold veA; rfl
      have own3 := V3.out.own
      rw [← HN.out] at own3
      go_wp2_with (refine wpl_appK rfl (.tmp 30) (.tmp 33) rfl vers_u ver_info (veA_size _) (by decide) (by decide) own3 hrow3 (veC_len _) (veC_one _) (by omega) rfl rfl ?_; intro v4 w4 ho4 hg4 ht4)
      have ho4' : w4.ownsRow 0 50 34 v4 (K[i].l.length + [(⟨m, 0, false⟩ : Ve)].length) (vsC K[i].l ++ vsC [⟨m, 0, false⟩]) := by rw [vsC_one1, ← HN.out]; exact ho4
      have V4 := Lib.hid (V3.out.app ho4' hg4 ht4)
      have hgo : (Value.slice (some ⟨g2, 0, none⟩ : Option Addr) n c2).ownBlock = some g2 := rfl
      have hne2 : g ≠ g2 := fun e => by have h1 := HG2.out; have h2 := HGG.out; rw [← e, h2] at h1; omega
      have R4 := Lib.hid (TwoK.of (grown_row hg4 (TwoK.fst C3.out) (fun e => by rw [hgo] at e; exact hne2 (Option.some.inj e).symm)) (grown_row hg4 (TwoK.snd C3.out) (fun e => by rw [hgo] at e; have := Option.some.inj e; omega)))
      have F4 := Lib.hid ((Fr.same (T := T) (H := fun c => c = t + 1 + 1 + i) B3.out).trans (Fr.grown (H := fun c => c = t + 1 + 1 + i) hg4 (fun k hk => by rw [hgo] at hk; cases hk; exact HG2.out) (t + 1 + 1 + i)))
      refine same_class (C := TwoK g curG w.heap.size _) [g] ((Frm.app hg4).more (fun k hk => by rw [hgo] at hk; simp at hk; rw [hk]; simp)) (fun k hk => by simp at hk; subst hk; exact ⟨.inl (by simp), row_lt (TwoK.fst R4.out)⟩) R4.out TwoK.alloc ?_
      clear ho4 ho4' hg4 ht4 R3 C3 V3 hrow3 own3
      refine wpM_q ?_
      simp only [pk, List.getElem?_cons_zero, List.getElem?_cons_succ]
      repeat (go_big_quiet_step (fail))
      refine wpQuiet_nil ?_
      clear hne
      refine wpM_e _ rfl (fun y hy => ?_)
      have T5 := Lib.hid (TwoK.fst hy)
      have F5 := Lib.hid (F4.out.trans (Fr.same y.below))
      have V5 := Lib.hid (V4.out.fr (Fr.same (H := fun _ => False) y.below) (fun e => e))
      obtain ⟨w5, hw5⟩ : ∃ w5, w5 = y.val := ⟨_, rfl⟩
      obtain ⟨T9, hT9⟩ : ∃ T9, T9 = paint T w3.heap.size (t + 1 + 1 + i) := ⟨_, rfl⟩
      have HM9 := Lib.hid (show ∀ k, T9 k = T k ∨ Hk t (T9 k) from fun k => by
        rw [hT9]
        by_cases hk : k < w3.heap.size
        · exact .inl (paint_old hk)
        · rw [paint_new (by omega)]; exact .inr ⟨by omega, by omega⟩)
      rw [← hw5] at T5 F5 V5 ⊢
      rw [← hT9] at F5 V5
      clear hw5 hT9 y hy R4 V4 F4
      obtain ⟨A6, c6, hv6, hle6, -⟩ := V5.out.form
      subst hv6
      obtain ⟨N6, hN6⟩ : ∃ N6, N6 = (K[i].l ++ [(⟨m, 0, false⟩ : Ve)]).length := ⟨_, rfl⟩
      have HN6 := Lib.hid (show N6 = n + 1 by rw [hN6, List.length_append, ← HN.out]; rfl)
      have V5' := V5.out
      rw [← hN6] at V5' ⊢
      have k0 : w5.cell? ⟨g, i * 2 + 1, none⟩ = some (.slice (some ⟨g2, 0, none⟩) n c2) := by rw [cell_row T5.out]; exact HCG.out
      have k1 := froz_row T5.out (i * 2 + 1)
      have hRS := HRS.out.setL hi F5.out V5'
      have hF6 := F5.out.mono (H' := fun c => c = t + 1 ∨ c = t + 1 + 1 + i) (fun c e => .inr e)
      have hF7 := hF6.trans (Fr.cell (T := T9) (w := w5) (H := fun c => c = t + 1 ∨ c = t + 1 + 1 + i) (a := ⟨g, i * 2 + 1, none⟩) (.inl (by show T9 g = t + 1; rw [F5.out.tag g zg]; exact HGG.out)) (.slice A6 N6 c6))
      have HK := Lib.hid (KAt.back HTB.out HROW.out hF7 (by omega) hRS HOK.out)
      have HF := Lib.hid ((Fr.same (T := T) (H := Hk t) B0.out).trans (hF7.mono (H' := Hk t) fun c e => by rcases e with rfl | rfl <;> exact ⟨by omega, by omega⟩))
      have hcN : (w5.setCell ⟨g, i * 2 + 1, none⟩ (.slice A6 N6 c6)).cell? ⟨g, i * 2 + 1, none⟩ = some (.slice A6 N6 c6) := by
        rw [setCell_row T5.out, cell_row (row_setRow T5.out _)]
        exact Array.getElem?_setIfInBounds_self_of_lt (Array.getElem?_eq_some_iff.1 HCG.out).1
      have hfrm := Frm.row (hot := [g]) w5 (curG.setIfInBounds (i * 2 + 1) (.slice A6 N6 c6)) (p := g) (by simp)
      rw [← setCell_row T5.out] at hfrm
      clear hN6 V5 V5' hRS hF6 hF7 F5
      go_wp2_with fail
      refine end_class (fun _ => True) [] hfrm hot_none trivial (fun _ _ h => h) ?_
      obtain ⟨w6, hw6⟩ : ∃ w6, w6 = w5.setCell ⟨g, i * 2 + 1, none⟩ (.slice A6 N6 c6) := ⟨_, rfl⟩
      rw [← hw6] at HK HF hcN ⊢
      clear hw6 k0 k1 hfrm T5
      refine wpM_nil (fun y => ?_)
      have HK7 := Lib.hid (HK.out.fr (Fr.same (H := fun _ => False) y.below) (fun _ _ e => e))
      have HF7 := Lib.hid (HF.out.trans (Fr.same (H := Hk t) y.below))
      have hc7 := (y.below.cell (p := ⟨g, i * 2 + 1, none⟩) (World.block_lt_of_cell? w6 _ hcN)).trans hcN
      go_wp2_with fail
      have e6 : (N6 : Int) = (n : Int) + 1 := by rw [HN6.out]; rfl
      rw [← e6]
      exact bodyPost_ret (v := .tuple #[.int .i64 N6, .int .i64 0]) (by simp [results, Try.results33, go_sem]) rfl ⟨rfl, T9, HK7.out, ⟨HF7.out, HM9.out⟩⟩
end Go.Proofs.Ytabchkcieddhpaa.Oct
