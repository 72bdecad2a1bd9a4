/- Contract of keyring's Use. -/
import Derived.Test.YtabchkcieddhpaaKpG
namespace Go.Proofs.Ytabchkcieddhpaa.Oct
open Go.ChangeShapes Go.WideShapes Go.ChangeAt Go.RowKit
set_option linter.unusedVariables false

/-- the worlds in which three rows read so -/
structure RwT (V : Nat) (a : Array Value) (N : Nat) (b : Array Value) (M : Nat) (c : Array Value) where
  val : World
  r1 : row val V = some a
  r2 : row val N = some b
  r3 : row val M = some c
theorem row_self {w : World} {b : Nat} {c : Array Value} (h : row w b = some c) : w.setRow b c = w := setRow_self h
/-- results: two ints' cells, a row's, and one that lies in none -/
theorem res_iict {P : Program} {fn : Func} {p q r u : Tmp} {ti ty : TypeId} (h : fn.results = #[.cell p ti, .cell q ti, .cell r ty, .tmp u]) (tmps : Array Value) (w : World) (b1 b2 b3 : Nat) (x y : Int) (c : Array Value) (d : TypeDesc)
    (h1 : tmps.getD p undef = .pointer (some ⟨b1, 0, none⟩)) (h2 : tmps.getD q undef = .pointer (some ⟨b2, 0, none⟩)) (h3 : tmps.getD r undef = .pointer (some ⟨b3, 0, none⟩))
    (hx : (loadVar ti ⟨b1, 0, none⟩).run P w = .ok (.int .i64 x) w) (hy : (loadVar ti ⟨b2, 0, none⟩).run P w = .ok (.int .i64 y) w) (hr : row w b3 = some c) (hu : P.underlying ty = some d) (hd : d.isRow = true) (hi : (P.info? ty).map (·.size) = some c.size) :
    (results fn tmps).run P w = .ok (.tuple #[.int .i64 x, .int .i64 y, .agg c, tmps.getD u undef]) w := by
  have e1 : tmps[p]?.getD undef = .pointer (some ⟨b1, 0, none⟩) := by simpa using h1
  have e2 : tmps[q]?.getD undef = .pointer (some ⟨b2, 0, none⟩) := by simpa using h2
  have e3 : tmps[r]?.getD undef = .pointer (some ⟨b3, 0, none⟩) := by simpa using h3
  simp only [results, h]
  simp [e1, e2, e3, asAddr, ld_rowK hr hu hd hi, hx, hy]
/-- a use's error by its parts -/
theorem usE_at {K : Ks} {i : Nat} {v : Nat} (hi : i < K.length) (hv : v < K[i].l.length) (hl : K[i].l.length = v + 1) (hok : hasK K ((i : Int) + 1) = true) (hrg : rgAt K ((i : Int) + 1) = K[i]) : lastV K[i] = K[i].l[v] ∧ usE K ((i : Int) + 1) = u1E K[i].off K[i].l[v] := by
  have e1 : lastV K[i] = K[i].l[v] := veAt_get v hv (by omega)
  refine ⟨e1, ?_⟩
  unfold usE u1E rfE
  rw [if_pos hok, hrg, e1]
  by_cases h1 : K[i].off = true
  · rw [if_pos h1, if_pos h1]; rfl
  · rw [if_neg h1, if_neg h1]
    by_cases h2 : K[i].l[v].g = true
    · rw [if_pos h2, if_pos h2]; rfl
    · rw [if_neg h2, if_neg h2, if_pos rfl]
set_option maxRecDepth 20000 in
set_option maxHeartbeats 4000000 in
theorem pus_any (T : Mk) (t B : Nat) (K : Ks) (id : Int) (w : World) (h : KpAt T w t B K) :
    Calls Try.prog 14 #[.pointer (some ⟨B, 0, none⟩), .int .i64 id] w fun e w' => e = .returned (.tuple #[.int .i64 (usV K id), .int .i64 (usC K id), .agg (ba 32 (usM K id)), .int .i64 (usE K id)]) ∧ ∃ T', KpAt T' w' t B (usK K id) ∧ Fk T T' t w w' := by
  obtain ⟨c, hr, hc⟩ := h.at_
  have h8 := h.ok.1
  obtain ⟨w1, hw1⟩ : ∃ w1, w1 = w.alloc (.cells #[.int .i64 0] 3) := ⟨_, rfl⟩
  obtain ⟨w2, hw2⟩ : ∃ w2, w2 = w1.alloc (.cells #[.int .i64 0] 3) := ⟨_, rfl⟩
  obtain ⟨w3, hw3⟩ : ∃ w3, w3 = w2.alloc (.cells (ba 32 fun _ => 0#8) 32) := ⟨_, rfl⟩
  have b1 : Below w.heap.size w w1 := by rw [hw1]; exact (Below.refl w.heap.size w).alloc (by simp) _
  have b2 : Below w1.heap.size w1 w2 := by rw [hw2]; exact (Below.refl _ _).alloc (by simp) _
  have b3 : Below w2.heap.size w2 w3 := by rw [hw3]; exact (Below.refl _ _).alloc (by simp) _
  have hs1 : w1.heap.size = w.heap.size + 1 := by rw [hw1]; simp
  have hs2 : w2.heap.size = w.heap.size + 1 + 1 := by rw [hw2]; simp [hs1]
  have rV : row w3 w.heap.size = some #[.int .i64 0] := carry b3 (carry b2 (by rw [hw1]; exact row_alloc_at _ _ _ _ rfl))
  have rN : row w3 (w.heap.size + 1) = some #[.int .i64 0] := carry b3 (by rw [hw2, ← hs1]; exact row_alloc_at _ _ _ _ rfl)
  have rM : row w3 (w.heap.size + 1 + 1) = some (ba 32 fun _ => 0#8) := by rw [hw3, ← hs2]; exact row_alloc_at _ _ _ _ rfl
  have rb : row w3 B = some c := carry b3 (carry b2 (carry b1 hr))
  have b4 : Below w.heap.size w w3 := onto (onto b1 b1.size b2) (Nat.le_trans b1.size b2.size) b3
  have hlt := row_lt hr
  obtain ⟨V, hV⟩ : ∃ V, V = w.heap.size := ⟨_, rfl⟩
  obtain ⟨N, hN⟩ : ∃ N, N = w.heap.size + 1 := ⟨_, rfl⟩
  obtain ⟨M, hM⟩ : ∃ M, M = w.heap.size + 1 + 1 := ⟨_, rfl⟩
  rw [← hV] at rV
  rw [← hN] at rN
  rw [← hM] at rM
  have hd : V ≠ B ∧ N ≠ B ∧ M ≠ B ∧ V ≠ N ∧ V ≠ M ∧ N ≠ M := by omega
  have hVs : w.heap.size ≤ V := by omega
  have hNs : w.heap.size ≤ N := by omega
  have hMs : w.heap.size ≤ M := by omega
  have hcall : Calls Try.prog 25 #[.pointer (some ⟨B, 0, none⟩), .int .i64 id, .func (.func 27) #[] #[.pointer (some ⟨V, 0, none⟩), .pointer (some ⟨N, 0, none⟩), .pointer (some ⟨M, 0, none⟩)]] w3
      (Num fun E w' => E = usE K id ∧ row w' V = some #[.int .i64 (usV K id)] ∧ row w' N = some #[.int .i64 (usC K id)] ∧ row w' M = some (ba 32 (usM K id)) ∧ ∃ T', KpAt T' w' t B (usK K id) ∧ Fk T T' t w w') := by
    have hno : usE K id ≠ 0 → usV K id = 0 ∧ usC K id = 0 ∧ (usM K id = fun _ => 0#8) ∧ usK K id = K := fun e => ⟨by unfold usV; rw [if_neg e], by unfold usC; rw [if_neg e], by unfold usM; rw [if_neg e], by unfold usK; rw [if_neg e]⟩
    cases hok : hasK K id
    · have hE : usE K id = 130 := by unfold usE; rw [hok]; rfl
      obtain ⟨e1, e2, e3, e4⟩ := hno (by rw [hE]; decide)
      rw [hE, e1, e2, e3, e4]
      exact (pat_no B K id _ w3 (hc.cell B rb) hok).mono fun e w' he => ⟨130, he.1, rfl, he.2 ▸ rV, he.2 ▸ rN, he.2 ▸ rM, he.2 ▸ h.calm b4⟩
    · have hring := h.ok.ring hok
      obtain ⟨i, hi, rfl, hrg, hput⟩ := key_num hok
      rw [hrg] at hring
      have hky := hc.key i (by omega)
      rw [rgI_lt hi] at hky
      have hs : i * 138 + 138 ≤ c.size := by rw [hc.size]; omega
      obtain ⟨v, hl⟩ : ∃ v, K[i].l.length = v + 1 := ⟨K[i].l.length - 1, by have := hring.1.1; omega⟩
      have hv : v < K[i].l.length := by omega
      obtain ⟨hla, hE⟩ := usE_at hi hv hl hok hrg
      have hou := (hring.2 _ (List.getElem_mem hv)).1
      refine pat_yes B K i _ #[.pointer (some ⟨V, 0, none⟩), .pointer (some ⟨N, 0, none⟩), .pointer (some ⟨M, 0, none⟩)] w3 _ (hc.cell B rb) hi (by omega) ent_us ?_
      refine (pus1_any B (i * 138) V N M v K[i] c 0 0 _ w3 rb hky hs hl rV rN rM hd hou).mono fun e w' he => ?_
      obtain ⟨rfl, hne, heq⟩ := he
      refine ⟨_, rfl, hE.symm, ?_⟩
      by_cases h0 : usE K ((i : Int) + 1) = 0
      · obtain ⟨w4, hb4, hw'⟩ := (heq (hE ▸ h0)).at_
        have e1 : usV K ((i : Int) + 1) = (v : Int) + 1 := by unfold usV; rw [if_pos h0, hrg, hl]; rfl
        have e2 : usC K ((i : Int) + 1) = K[i].l[v].u := by unfold usC; rw [if_pos h0, hrg, hla]
        have e3 : usM K ((i : Int) + 1) = K[i].l[v].m := by unfold usM; rw [if_pos h0, hrg, hla]
        have e4 : usK K ((i : Int) + 1) = K.set i ⟨K[i].off, K[i].l.set v ⟨K[i].l[v].m, K[i].l[v].u + 1, K[i].l[v].g⟩⟩ := by
          unfold usK
          rw [if_pos h0, hput, hrg, hla]
          unfold putV
          rw [show ((K[i].l.length : Int) - 1).toNat = v by omega]
        have hok2 : okK (usK K ((i : Int) + 1)) := usK_ok h.ok
        rw [e1, e2, e3]
        rw [e4] at hok2 ⊢
        have qV := carry hb4 rV
        have qN := carry hb4 rN
        have qM := carry hb4 rM
        have qB := carry hb4 rb
        have b5 := onto b4 b4.size hb4
        obtain ⟨n1, n2, n3, n4, n5, n6⟩ := hd
        have f1 : w4.setCell ⟨V, 0, none⟩ (.int .i64 ((v : Int) + 1)) = w4.setRow V #[.int .i64 ((v : Int) + 1)] := setCell_row qV _ _
        have qN2 : row (w4.setRow V #[.int .i64 ((v : Int) + 1)]) N = some #[.int .i64 0] := by rw [row_setRow_other _ _ _ _ (Ne.symm n4)]; exact qN
        have f2 : (w4.setRow V #[.int .i64 ((v : Int) + 1)]).setCell ⟨N, 0, none⟩ (.int .i64 K[i].l[v].u) = (w4.setRow V #[.int .i64 ((v : Int) + 1)]).setRow N #[.int .i64 K[i].l[v].u] := setCell_row qN2 _ _
        rw [f1, f2] at hw'
        obtain ⟨w5, hw5⟩ : ∃ w5, w5 = ((w4.setRow V #[.int .i64 ((v : Int) + 1)]).setRow N #[.int .i64 K[i].l[v].u]).setRow M (ba 32 K[i].l[v].m) := ⟨_, rfl⟩
        rw [← hw5] at hw'
        have b6 : Below w.heap.size w w5 := by rw [hw5]; exact below_setRow (below_setRow (below_setRow b5 hVs _) hNs _) hMs _
        have pV : row w5 V = some #[.int .i64 ((v : Int) + 1)] := by rw [hw5, row_setRow_other _ _ _ _ n5, row_setRow_other _ _ _ _ n4]; exact row_setRow qV _
        have pN : row w5 N = some #[.int .i64 K[i].l[v].u] := by rw [hw5, row_setRow_other _ _ _ _ n6]; exact row_setRow qN2 _
        have pM : row w5 M = some (ba 32 K[i].l[v].m) := by rw [hw5]; exact row_setRow (by rw [row_setRow_other _ _ _ _ (Ne.symm n6), row_setRow_other _ _ _ _ (Ne.symm n5)]; exact qM) _
        have pB : row w5 B = some c := by rw [hw5, row_setRow_other _ _ _ _ (Ne.symm n3), row_setRow_other _ _ _ _ (Ne.symm n2), row_setRow_other _ _ _ _ (Ne.symm n1)]; exact qB
        rw [setCell_row pB] at hw'
        have hP := Put.of b6 hlt (c.setIfInBounds (i * 138 + 1 + v * 34 + 32) (.int .i64 (K[i].l[v].u + 1)))
        rw [← hw'] at hP
        rw [hw']
        refine ⟨by rw [row_setRow_other _ _ _ _ n1]; exact pV, by rw [row_setRow_other _ _ _ _ n2]; exact pN, by rw [row_setRow_other _ _ _ _ n3]; exact pM, ?_⟩
        rw [← hw']
        exact h.put hr hP (hc.use hi (by omega) hv _) hok2
      · obtain ⟨e1, e2, e3, e4⟩ := hno h0
        rw [e1, e2, e3, e4]
        have hb := hne (by rw [← hE]; exact h0)
        exact ⟨carry hb rV, carry hb rN, carry hb rM, h.calm (onto b4 b4.size hb)⟩
  have HC := Lib.hid hcall
  have HW1 := Lib.hid hw1
  have HW2 := Lib.hid hw2
  have HW3 := Lib.hid hw3
  have HV := Lib.hid hV
  have HN := Lib.hid hN
  have HM := Lib.hid hM
  have HD := Lib.hid hd
  have HZ := Lib.hid (And.intro hVs (And.intro hNs hMs))
  clear hcall h hc rV rN rM rb b1 b2 b3 b4 hw1 hw2 hw3 hV hN hM hlt hr hs1 hs2 hd hVs hNs hMs
  go_enter Try.func14, Try.ntmps14
  go_wp2_with fail
  rw [← HW1.out, ← HW2.out, ← HW3.out, ← HM.out, ← HN.out, ← HV.out]
  refine HC.out.mono ?_
  rintro e w4 ⟨E, rfl, rfl, rV, rN, rM, hT⟩
  obtain ⟨n1, n2, n3, n4, n5, n6⟩ := HD.out
  obtain ⟨z1, hz1⟩ : ∃ z, z = usV K id := ⟨_, rfl⟩
  obtain ⟨z2, hz2⟩ : ∃ z, z = usC K id := ⟨_, rfl⟩
  obtain ⟨z3, hz3⟩ : ∃ z, z = usM K id := ⟨_, rfl⟩
  obtain ⟨z4, hz4⟩ : ∃ z, z = usE K id := ⟨_, rfl⟩
  rw [← hz1] at rV
  rw [← hz2] at rN
  rw [← hz3] at rM
  rw [← hz4]
  have H1 := Lib.hid hz1
  have H2 := Lib.hid hz2
  have H3 := Lib.hid hz3
  have H4 := Lib.hid hz4
  have HT := Lib.hid hT
  clear hz1 hz2 hz3 hz4 hT
  go_wp2_with fail
  refine flow_region [([0, 1, 2, 3], 4, false), ([], 5, false), ([], 6, false)] [7] (fun w' => ∃ x : RwT V #[.int .i64 z1] N #[.int .i64 z2] M (ba 32 z3), w' = x.val) (by kernel_rfl) (by kernel_rfl) (fun _ _ _ _ _ h => h) ⟨⟨w4.drewN 1, by rw [row_drewN]; exact rV, by rw [row_drewN]; exact rN, by rw [row_drewN]; exact rM⟩, rfl⟩ ?_
  have b1 : Below w4.heap.size w4 (w4.drewN 1) := below_drewN (Below.refl _ _) 1
  obtain ⟨w5, hw5⟩ : ∃ w5, w5 = w4.drewN 1 := ⟨_, rfl⟩
  rw [← hw5] at b1 ⊢
  have rV5 := carry b1 rV
  have rN5 := carry b1 rN
  have rM5 := carry b1 rM
  have B5 := Lib.hid b1
  clear hw5 b1 rV rN rM
  have hne : Nonempty (RwT V #[.int .i64 z1] N #[.int .i64 z2] M (ba 32 z3)) := ⟨⟨w5, rV5, rN5, rM5⟩⟩
  have k1 : ∀ x : RwT V #[.int .i64 z1] N #[.int .i64 z2] M (ba 32 z3), x.val.cell? ⟨V, 0, none⟩ = some (.int .i64 z1) := fun x => by rw [cell_row x.r1]; rfl
  have k2 : ∀ x : RwT V #[.int .i64 z1] N #[.int .i64 z2] M (ba 32 z3), x.val.cell? ⟨N, 0, none⟩ = some (.int .i64 z2) := fun x => by rw [cell_row x.r2]; rfl
  have k3 : ∀ x : RwT V #[.int .i64 z1] N #[.int .i64 z2] M (ba 32 z3), row x.val M = some (ba 32 z3) := fun x => x.r3
  simp only [wpFl, pk, List.getElem?_cons_zero, List.getElem?_cons_succ]
  repeat (go_big_quiet_step (fail))
  refine wpQuiet_nil ?_
  have c1 : w5.cell? ⟨V, 0, none⟩ = some (.int .i64 z1) := by rw [cell_row rV5]; rfl
  have f1 : w5.frozen? ⟨V, 0, none⟩ = false := froz_row rV5 _
  have e1 : w5.setCell ⟨V, 0, none⟩ (.int .i64 z1) = w5 := by rw [setCell_row rV5]; exact setRow_self rV5
  clear k1 k2 k3
  go_wp2_with fail
  clear c1 f1 e1
  refine ⟨_, ⟨⟨w5, rV5, rN5, rM5⟩, rfl⟩, .inr ⟨⟨⟨w5, rV5, rN5, rM5⟩, rfl⟩, fun _ h => h⟩, ?_⟩
  show wpQuiet _ _ _ _ _ _
  refine wpQuiet_nil ?_
  have c1 : w5.cell? ⟨N, 0, none⟩ = some (.int .i64 z2) := by rw [cell_row rN5]; rfl
  have f1 : w5.frozen? ⟨N, 0, none⟩ = false := froz_row rN5 _
  have e1 : w5.setCell ⟨N, 0, none⟩ (.int .i64 z2) = w5 := by rw [setCell_row rN5]; exact setRow_self rN5
  go_wp2_with fail
  clear c1 f1 e1
  refine ⟨_, ⟨⟨w5, rV5, rN5, rM5⟩, rfl⟩, .inr ⟨⟨⟨w5, rV5, rN5, rM5⟩, rfl⟩, fun _ h => h⟩, ?_⟩
  show wpQuiet _ _ _ _ _ _
  refine wpQuiet_nil ?_
  have e1 : w5.setRow M (ba 32 z3) = w5 := setRow_self rM5
  go_wp2_with fail
  clear e1
  refine ⟨_, ⟨⟨w5, rV5, rN5, rM5⟩, rfl⟩, .inr ⟨⟨⟨w5, rV5, rN5, rM5⟩, rfl⟩, fun _ h => h⟩, ?_⟩
  show wpQuiet _ _ _ _ _ _
  repeat (go_big_quiet_step (fail))
  refine wpQuiet_nil ?_
  have c1 : w5.cell? ⟨V, 0, none⟩ = some (.int .i64 z1) := by rw [cell_row rV5]; rfl
  have c2 : w5.cell? ⟨N, 0, none⟩ = some (.int .i64 z2) := by rw [cell_row rN5]; rfl
  go_wp2_with fail
  refine bodyPost_ret (v := .tuple #[.int .i64 z1, .int .i64 z2, .agg (ba 32 z3), .int .i64 z4]) (res_iict (u := 7) rfl _ _ V N M z1 z2 _ _ rfl rfl rfl (by simp [loadVar, go_sem, c1]) (by simp [loadVar, go_sem, c2]) rM5 kk_u rfl (by rw [ba_size]; exact kk_i)) rfl ⟨by rw [H1.out, H2.out, H3.out, H4.out], ?_⟩
  obtain ⟨T', hk, hf⟩ := HT.out
  obtain ⟨T2, hk2, hf2⟩ := hk.calm B5.out
  exact ⟨T2, hk2, hf.trans hf2⟩
end Go.Proofs.Ytabchkcieddhpaa.Oct
