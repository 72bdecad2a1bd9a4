/- Contracts of keyring's New, Clone, Create, Rotate, Switch. -/
import Derived.Test.YtabchkcieddhpaaKpE
namespace Go.Proofs.Ytabchkcieddhpaa.Oct
open Go.ChangeShapes Go.WideShapes Go.ChangeAt Go.RowKit
set_option linter.unusedVariables false

theorem pnew_any (T : Mk) (t : Nat) (w : World) :
    Calls Try.prog 9 #[] w fun e w' => ∃ B T', e = .returned (.pointer (some ⟨B, 0, none⟩)) ∧ KpAt T' w' t B [] ∧ Nk T T' t w w' := by
  go_enter Try.func9, Try.ntmps9
  go_wp2_with fail
  go_ret
  exact ⟨w.heap.size, paint T w.heap.size t, rfl, ⟨paint_new (Nat.le_refl _), ⟨ksZ, row_alloc_at _ _ _ _ rfl, ksZ_ok⟩, ok_nil⟩, .of ((Below.refl _ _).alloc (Nat.le_refl _) _)⟩
theorem pcl_any (T : Mk) (t t' B : Nat) (K : Ks) (w : World) (h : KpAt T w t B K) (hfr : ∀ k, k < w.heap.size → ¬ Hk t' (T k)) :
    Calls Try.prog 11 #[.pointer (some ⟨B, 0, none⟩)] w fun e w' => ∃ B' T', e = .returned (.pointer (some ⟨B', 0, none⟩)) ∧ KpAt T' w' t' B' K ∧ Nk T T' t' w w' := by
  obtain ⟨c, hr, hc⟩ := h.at_
  have hld : ∀ x : World, ldR Try.prog 68 1105 x B 0 (some c) = .ok (.agg c) x := fun x => ldR_whole _ _ _ _ _ _ hc.size.symm
  have hst : ∀ x : World, stR Try.prog 68 1105 x w.heap.size 0 (.agg c) (some ksZ) = .ok () (x.setRow w.heap.size c) := fun x => stR_whole _ _ _ _ _ _ _ ksZ_size.symm (by rw [hc.size, ksZ_size]) hc.ones
  have HC := Lib.hid hc
  have HOK := Lib.hid h.ok
  clear hc h
  go_enter Try.func11, Try.ntmps11
  go_wp2_with fail
  go_ret
  exact ⟨w.heap.size, paint T w.heap.size t', rfl, ⟨paint_new (Nat.le_refl _), ⟨c, row_alloc_at _ _ _ _ rfl, HC.out⟩, HOK.out⟩, .of ((Below.refl _ _).alloc (Nat.le_refl _) _)⟩
set_option maxRecDepth 20000 in
set_option maxHeartbeats 4000000 in
theorem pcr_any (T : Mk) (t B : Nat) (K : Ks) (m : Bf) (w : World) (h : KpAt T w t B K) :
    Calls Try.prog 12 #[.pointer (some ⟨B, 0, none⟩), .agg (ba 32 m)] w fun e w' => e = .returned (.tuple #[.int .i64 (crN K), .int .i64 (crE K)]) ∧ ∃ T', KpAt T' w' t B (crK K m) ∧ Fk T T' t w w' := by
  obtain ⟨c, hr, hc⟩ := h.at_
  have h8 := h.ok.1
  have H := Lib.hid h
  have HC := Lib.hid hc
  obtain ⟨w1, hw1⟩ : ∃ w1, w1 = w.alloc (.cells (ba 32 m) 32) := ⟨_, rfl⟩
  have b1 : Below w.heap.size w w1 := by rw [hw1]; exact (Below.refl w.heap.size w).alloc (by simp) _
  have rm : row w1 w.heap.size = some (ba 32 m) := by rw [hw1]; exact row_alloc_at _ _ _ _ rfl
  have rb := carry b1 hr
  have k1 : w1.cell? ⟨B, 1104, none⟩ = some (.int .i64 (K.length : Int)) := hc.cell B rb
  have k0 : (w.alloc (.cells (ba 32 m) 32)).cell? ⟨B, 1104, none⟩ = some (.int .i64 (K.length : Int)) := by rw [← hw1]; exact k1
  have B1 := Lib.hid b1
  have HW1 := Lib.hid hw1
  obtain ⟨Z, hZ⟩ : ∃ Z, Z = w.heap.size := ⟨_, rfl⟩
  rw [← hZ] at rm
  have HZ := Lib.hid hZ
  by_cases hf : 8 ≤ K.length
  · rw [show crN K = 0 by unfold crN; rw [if_pos hf], show crE K = 134 by unfold crE; rw [if_pos hf], show crK K m = K by unfold crK; rw [if_pos hf]]
    have d1 : ((K.length : Int) == 8) = true := by simp; omega
    have d2 : decide ((K.length : Int) = 8) = true := by simp; omega
    clear hc h hw1 b1 hZ k1
    go_enter Try.func12, Try.ntmps12
    go_wp2_with fail
    rw [← HW1.out]
    exact bodyPost_ret (v := .tuple #[.int .i64 0, .int .i64 134]) (by simp [results, Try.results12, go_sem]) rfl ⟨rfl, H.out.calm B1.out⟩
  · have hE : crE K = 0 := by unfold crE; rw [if_neg hf]
    have hN : crN K = (K.length : Int) + 1 := by unfold crN; rw [if_neg hf]
    have hK : crK K m = K ++ [⟨false, [⟨m, 0, false⟩]⟩] := by unfold crK; rw [if_neg hf]
    have hok : okK (crK K m) := crK_ok h.ok m
    rw [hE, hN]
    rw [hK] at hok ⊢
    have d1 : ((K.length : Int) == 8) = false := by simp; omega
    have d2 : decide ((K.length : Int) = 8) = false := by simp; omega
    have hkey := hc.key K.length (by omega)
    rw [rgI_ge (Nat.le_refl _)] at hkey
    have hs : K.length * 138 + 138 ≤ c.size := by rw [hc.size]; omega
    have HKEY := Lib.hid hkey
    have HOK := Lib.hid hok
    have HS := Lib.hid hs
    have hl8 : K.length < 8 := by omega
    have c1 : ∀ x : After w1, x.val.cell? ⟨B, 1104, none⟩ = some (.int .i64 (K.length : Int)) := fun x => hc.cell B (carry x.below rb)
    have q1 := After.row rm
    have RB := Lib.hid rb
    clear hc h hw1 b1 hZ k1 hE hN hK hok hkey hs rm rb hf
    go_enter Try.func12, Try.ntmps12
    go_wp2_with fail
    rw [← HW1.out, ← HZ.out]
    refine seen_tail 0 9 (by kernel_rfl) (by kernel_rfl) (fun _ _ _ _ _ h => h) ?_
    simp only [List.take_succ_cons, List.take_zero, List.drop_succ_cons, List.drop_zero]
    repeat (go_big_quiet_step (fail))
    refine wpQuiet_nil ?_
    rintro _ ⟨x, rfl⟩
    obtain ⟨wx, hwx⟩ : ∃ wx, wx = x.val := ⟨_, rfl⟩
    have bx := x.below
    rw [← hwx] at bx ⊢
    have rx := carry bx RB.out
    have BX := Lib.hid (onto B1.out B1.out.size bx)
    clear hwx c1 q1 bx k0
    go_wp2_with fail
    refine (padd_any B (K.length * 138) c rg0 m wx rx HKEY.out (by decide) HS.out).mono ?_
    rintro e w2 ⟨rfl, hp⟩
    have r2 := hp.row rx
    have k2 : w2.cell? ⟨B, 1104, none⟩ = some (.int .i64 (K.length : Int)) := by rw [cell_row r2, addC_else (by decide) HS.out (.inr (by omega))]; exact HC.out.cnt
    have f2 : w2.frozen? ⟨B, 1104, none⟩ = false := froz_row r2 _
    have e3 : w2.setCell ⟨B, 1104, none⟩ (.int .i64 ((K.length : Int) + 1)) = w2.setRow B (newC c K.length m) := setCell_row r2 _ _
    have k3 : (w2.setCell ⟨B, 1104, none⟩ (.int .i64 ((K.length : Int) + 1))).cell? ⟨B, 1104, none⟩ = some (.int .i64 ((K.length : Int) + 1)) := by
      have := (HC.out.new (m := m) hl8).cnt
      rw [e3, cell_row (row_setRow r2 _), this, List.length_append]; rfl
    have HP := Lib.hid (show Put B (newC c K.length m) w (w2.setRow B (newC c K.length m)) from Put.behind BX.out (row_lt hr) (hp.then rx (Put.of (Below.refl _ _) (row_lt r2) _)))
    have E3 := Lib.hid e3
    clear hp r2 rx e3
    go_wp2_with fail
    rw [E3.out]
    exact bodyPost_ret (v := .tuple #[.int .i64 ((K.length : Int) + 1), .int .i64 0]) (by simp [results, Try.results12, go_sem]) rfl ⟨rfl, H.out.put hr HP.out (HC.out.new hl8) HOK.out⟩
theorem ent_rt : EntrK 26 := entrK Try.func26 (by kernel_rfl) (by kernel_rfl)
theorem ent_sw : EntrK 31 := entrK Try.func31 (by kernel_rfl) (by kernel_rfl)
/-- a key's number -/
theorem key_num {K : Ks} {id : Int} (h : hasK K id = true) : ∃ (i : Nat) (hi : i < K.length), id = (i : Int) + 1 ∧ rgAt K id = K[i] ∧ ∀ r, putR K id r = K.set i r := by
  obtain ⟨h1, h2⟩ := hasK_iff.1 h
  have e : (id - 1).toNat < K.length := by omega
  exact ⟨(id - 1).toNat, e, by omega, rgAt_get _ e rfl, fun r => rfl⟩
set_option maxRecDepth 20000 in
set_option maxHeartbeats 4000000 in
theorem prt_any (T : Mk) (t B : Nat) (K : Ks) (id : Int) (m : Bf) (w : World) (h : KpAt T w t B K) :
    Calls Try.prog 13 #[.pointer (some ⟨B, 0, none⟩), .int .i64 id, .agg (ba 32 m)] w fun e w' => e = .returned (.tuple #[.int .i64 (rtN K id), .int .i64 (rtE K id)]) ∧ ∃ T', KpAt T' w' t B (rtK K id m) ∧ Fk T T' t w w' := by
  obtain ⟨c, hr, hc⟩ := h.at_
  have h8 := h.ok.1
  obtain ⟨w1, hw1⟩ : ∃ w1, w1 = w.alloc (.cells (ba 32 m) 32) := ⟨_, rfl⟩
  obtain ⟨w2, hw2⟩ : ∃ w2, w2 = w1.alloc (.cells #[.int .i64 0] 3) := ⟨_, rfl⟩
  have b1 : Below w.heap.size w w1 := by rw [hw1]; exact (Below.refl w.heap.size w).alloc (by simp) _
  have b2 : Below w1.heap.size w1 w2 := by rw [hw2]; exact (Below.refl _ _).alloc (by simp) _
  have rm : row w2 w.heap.size = some (ba 32 m) := carry b2 (by rw [hw1]; exact row_alloc_at _ _ _ _ rfl)
  have hs1 : w1.heap.size = w.heap.size + 1 := by rw [hw1]; simp
  have rv : row w2 (w.heap.size + 1) = some #[.int .i64 0] := by rw [hw2, ← hs1]; exact row_alloc_at _ _ _ _ rfl
  have rb : row w2 B = some c := carry b2 (carry b1 hr)
  have b3 := onto b1 b1.size b2
  have hlt := row_lt hr
  obtain ⟨V, hV⟩ : ∃ V, V = w.heap.size + 1 := ⟨_, rfl⟩
  obtain ⟨M, hM⟩ : ∃ M, M = w.heap.size := ⟨_, rfl⟩
  have hVs : w.heap.size ≤ V := by omega
  have hVB : V ≠ B := by omega
  rw [← hV] at rv
  rw [← hM] at rm
  have hcall : Calls Try.prog 25 #[.pointer (some ⟨B, 0, none⟩), .int .i64 id, .func (.func 26) #[] #[.pointer (some ⟨M, 0, none⟩), .pointer (some ⟨V, 0, none⟩)]] w2
      (Num fun E w' => E = rtE K id ∧ row w' V = some #[.int .i64 (rtN K id)] ∧ ∃ T', KpAt T' w' t B (rtK K id m) ∧ Fk T T' t w w') := by
    cases hok : hasK K id
    · have hE : rtE K id = 130 := by unfold rtE; rw [hok]; rfl
      have hN : rtN K id = 0 := by unfold rtN; rw [hE]; rfl
      have hK : rtK K id m = K := by unfold rtK; rw [hE]; rfl
      rw [hE, hN, hK]
      exact (pat_no B K id _ w2 (hc.cell B rb) hok).mono fun e w' he => ⟨130, he.1, rfl, he.2 ▸ rv, he.2 ▸ h.calm b3⟩
    · obtain ⟨i, hi, rfl, hrg, hput⟩ := key_num hok
      have hky := hc.key i (by omega)
      rw [rgI_lt hi] at hky
      have hs : i * 138 + 138 ≤ c.size := by rw [hc.size]; omega
      refine pat_yes B K i _ #[.pointer (some ⟨M, 0, none⟩), .pointer (some ⟨V, 0, none⟩)] w2 _ (hc.cell B rb) hi (by omega) ent_rt ?_
      refine (prt1_any B (i * 138) M V K[i] c m 0 w2 rb hky hs rm rv hVB).mono fun e w' he => ?_
      rcases he with ⟨h4, rfl, rfl⟩ | ⟨h4, rfl, w3, hp, rfl⟩
      · have hE : rtE K ((i : Int) + 1) = 134 := by unfold rtE; rw [if_pos hok, hrg, if_pos h4]
        have hN : rtN K ((i : Int) + 1) = 0 := by unfold rtN; rw [hE]; rfl
        have hK : rtK K ((i : Int) + 1) m = K := by unfold rtK; rw [hE]; rfl
        rw [hE, hN, hK]
        exact ⟨134, rfl, rfl, rv, h.calm b3⟩
      · have hE : rtE K ((i : Int) + 1) = 0 := by unfold rtE; rw [if_pos hok, hrg, if_neg (by omega)]
        have hN : rtN K ((i : Int) + 1) = (K[i].l.length : Int) + 1 := by unfold rtN; rw [hE, hrg]; rfl
        have hK : rtK K ((i : Int) + 1) m = K.set i ⟨K[i].off, K[i].l ++ [⟨m, 0, false⟩]⟩ := by unfold rtK; rw [if_pos hE, hput, hrg]
        have hok2 : okK (rtK K ((i : Int) + 1) m) := rtK_ok h.ok m
        rw [hE, hN]
        rw [hK] at hok2 ⊢
        have rv3 := hp.other hVB rv
        have e3 : w3.setCell ⟨V, 0, none⟩ (.int .i64 ((K[i].l.length : Int) + 1)) = w3.setRow V #[.int .i64 ((K[i].l.length : Int) + 1)] := setCell_row rv3 _ _
        rw [e3]
        have hP : Put B (addC c (i * 138) K[i] m) w (w3.setRow V #[.int .i64 ((K[i].l.length : Int) + 1)]) := below_setRow (Put.behind b3 hlt hp) hVs _
        exact ⟨0, rfl, rfl, row_setRow rv3 _, h.put hr hP (hc.add hi (by omega) (by omega)) hok2⟩
  have HC := Lib.hid hcall
  have HW1 := Lib.hid hw1
  have HW2 := Lib.hid hw2
  have HV := Lib.hid hV
  have HM := Lib.hid hM
  clear hcall h hc rm rv rb b1 b2 b3 hw1 hw2 hV hM hlt hr hs1
  go_enter Try.func13, Try.ntmps13
  go_wp2_with fail
  rw [← HW1.out, ← HW2.out, ← HV.out, ← HM.out]
  refine HC.out.mono ?_
  rintro e w3 ⟨E, rfl, rfl, rv, hT⟩
  have kv : w3.cell? ⟨V, 0, none⟩ = some (.int .i64 (rtN K id)) := by rw [cell_row rv]; rfl
  obtain ⟨x, hx⟩ : ∃ x, x = rtN K id := ⟨_, rfl⟩
  obtain ⟨y, hy⟩ : ∃ x, x = rtE K id := ⟨_, rfl⟩
  rw [← hx] at kv
  rw [← hy]
  have HX := Lib.hid hx
  have HY := Lib.hid hy
  clear rv hx hy
  have HT := Lib.hid hT
  clear hT
  go_wp2_with fail
  exact bodyPost_ret (v := .tuple #[.int .i64 x, .int .i64 y]) (by simp [results, Try.results13, go_sem]) rfl ⟨by rw [HX.out, HY.out], HT.out⟩
set_option maxRecDepth 20000 in
set_option maxHeartbeats 4000000 in
theorem psw_any (T : Mk) (t B : Nat) (K : Ks) (id : Int) (on : Bool) (w : World) (h : KpAt T w t B K) :
    Calls Try.prog 16 #[.pointer (some ⟨B, 0, none⟩), .int .i64 id, .bool on] w fun e w' => e = .returned (.int .i64 (swE K id)) ∧ ∃ T', KpAt T' w' t B (swK K id on) ∧ Fk T T' t w w' := by
  obtain ⟨c, hr, hc⟩ := h.at_
  have h8 := h.ok.1
  obtain ⟨w1, hw1⟩ : ∃ w1, w1 = w.alloc (.cells #[.bool on] 4) := ⟨_, rfl⟩
  have b1 : Below w.heap.size w w1 := by rw [hw1]; exact (Below.refl w.heap.size w).alloc (by simp) _
  have ro : row w1 w.heap.size = some #[.bool on] := by rw [hw1]; exact row_alloc_at _ _ _ _ rfl
  have rb : row w1 B = some c := carry b1 hr
  have hlt := row_lt hr
  obtain ⟨M, hM⟩ : ∃ M, M = w.heap.size := ⟨_, rfl⟩
  rw [← hM] at ro
  have hcall : Calls Try.prog 25 #[.pointer (some ⟨B, 0, none⟩), .int .i64 id, .func (.func 31) #[] #[.pointer (some ⟨M, 0, none⟩)]] w1
      (Num fun E w' => E = swE K id ∧ ∃ T', KpAt T' w' t B (swK K id on) ∧ Fk T T' t w w') := by
    cases hok : hasK K id
    · rw [show swE K id = 130 by unfold swE; rw [hok]; rfl, show swK K id on = K by unfold swK; rw [hok]; rfl]
      exact (pat_no B K id _ w1 (hc.cell B rb) hok).mono fun e w' he => ⟨130, he.1, rfl, he.2 ▸ h.calm b1⟩
    · obtain ⟨i, hi, rfl, hrg, hput⟩ := key_num hok
      have hky := hc.key i (by omega)
      rw [rgI_lt hi] at hky
      refine pat_yes B K i _ #[.pointer (some ⟨M, 0, none⟩)] w1 _ (hc.cell B rb) hi (by omega) ent_sw ?_
      refine (psw1_any B (i * 138) M on K[i].off w1 (by rw [cell_row rb]; exact hky.off) (by rw [cell_row ro]; rfl) (froz_row rb _)).mono fun e w' he => ?_
      obtain ⟨rfl, rfl⟩ := he
      have hK : swK K ((i : Int) + 1) on = K.set i ⟨!on, K[i].l⟩ := by unfold swK; rw [if_pos hok, hput, hrg]
      have hok2 : okK (swK K ((i : Int) + 1) on) := swK_ok h.ok on
      rw [show swE K ((i : Int) + 1) = 0 by unfold swE; rw [hok]; rfl]
      rw [hK] at hok2 ⊢
      rw [setCell_row rb]
      exact ⟨0, rfl, rfl, h.put hr (Put.of b1 hlt _) (hc.off hi (by omega) _) hok2⟩
  have HC := Lib.hid hcall
  have HW1 := Lib.hid hw1
  have HM := Lib.hid hM
  clear hcall h hc ro rb b1 hw1 hM hlt hr
  go_enter Try.func16, Try.ntmps16
  go_wp2_with fail
  rw [← HW1.out, ← HM.out]
  refine HC.out.mono ?_
  rintro e w3 ⟨E, rfl, rfl, hT⟩
  have HT := Lib.hid hT
  clear hT
  go_wp2_with fail
  go_ret
  exact ⟨rfl, HT.out⟩
end Go.Proofs.Ytabchkcieddhpaa.Oct
