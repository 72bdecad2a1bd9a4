/- Contracts: disk's Append, Cut, Sync. -/
import Derived.Test.YthdhbjfenanbnaaDkM
namespace Go.Proofs.Ythdhbjfenanbnaa.Oct
open Go.ChangeShapes Go.WideShapes Go.ChangeAt Go.RowKit
set_option linter.unusedVariables false

theorem stepped_app (d : Dk) (i : Nat) (b : By) : d.stepped (if maxF < (d.f i).all.length + b.length then 2 else 0) (if maxF < (d.f i).all.length + b.length then d else { d with f := updD d.f i ((d.f i).app b) }) = d.app i b := by
  unfold Dk.stepped Dk.app
  by_cases h : d.dead
  · rw [if_pos h, if_pos h]
  · rw [if_neg h, if_neg h]
    by_cases h2 : maxF < (d.f i).all.length + b.length
    · simp only [if_pos h2]; rfl
    · simp only [if_neg h2]; rfl
theorem stepped_cut (d : Dk) (i K : Nat) (hK : K ≤ (d.f i).all.length) : d.stepped 0 { d with f := updD d.f i ((d.f i).cut K) } = d.cut i (K : Int) := by
  unfold Dk.stepped Dk.cut
  rw [if_neg (show ¬ ((K : Int) < 0 ∨ ((d.f i).all.length : Int) < (K : Int)) by omega)]
  by_cases h : d.dead
  · rw [if_pos h, if_pos h]
  · rw [if_neg h, if_neg h]; rfl
theorem stepped_sync (d : Dk) (i : Nat) : d.stepped 0 { d with f := updD d.f i (d.f i).sync } = d.sync i := by
  unfold Dk.stepped Dk.sync
  by_cases h : d.dead
  · rw [if_pos h, if_pos h]
  · rw [if_neg h, if_neg h]; rfl
theorem ent_app : Entr 27 := entr Try.func27 (by kernel_rfl) (by kernel_rfl)
theorem ent_cut : Entr 42 := entr Try.func42 (by kernel_rfl) (by kernel_rfl)
theorem ent_sync : Entr 40 := entr Try.func40 (by kernel_rfl) (by kernel_rfl)
theorem boxes3 (w : World) (a b c : Value) (t u v : TypeId) : ∃ w3, w3 = ((w.alloc (.cells #[a] t)).alloc (.cells #[b] u)).alloc (.cells #[c] v) ∧ Below w.heap.size w w3 ∧ Bx w3 w.heap.size a ∧ Bx w3 (w.heap.size + 1) b ∧ Bx w3 (w.heap.size + 1 + 1) c := by
  have b1 : Below w.heap.size w (w.alloc (.cells #[a] t)) := (Below.refl _ _).alloc (Nat.le_refl _) _
  have b2 := (Below.refl (w.alloc (.cells #[a] t)).heap.size (w.alloc (.cells #[a] t))).alloc (Nat.le_refl _) (.cells #[b] u)
  have b3 := (Below.refl ((w.alloc (.cells #[a] t)).alloc (.cells #[b] u)).heap.size ((w.alloc (.cells #[a] t)).alloc (.cells #[b] u))).alloc (Nat.le_refl _) (.cells #[c] v)
  have z1 : (w.alloc (.cells #[a] t)).heap.size = w.heap.size + 1 := by simp
  have z2 : ((w.alloc (.cells #[a] t)).alloc (.cells #[b] u)).heap.size = w.heap.size + 1 + 1 := by simp
  have x1 := Bx.new w a t
  have x2 := Bx.new (w.alloc (.cells #[a] t)) b u
  have x3 := Bx.new ((w.alloc (.cells #[a] t)).alloc (.cells #[b] u)) c v
  rw [z1] at x2
  rw [z2] at x3
  exact ⟨_, rfl, onto (onto b1 b1.size b2) (by rw [z2]; omega) b3, (x1.calm b2).calm b3, x2.calm b3, x3⟩
theorem boxes2 (w : World) (a b : Value) (t u : TypeId) : ∃ w3, w3 = (w.alloc (.cells #[a] t)).alloc (.cells #[b] u) ∧ Below w.heap.size w w3 ∧ Bx w3 w.heap.size a ∧ Bx w3 (w.heap.size + 1) b := by
  have b1 : Below w.heap.size w (w.alloc (.cells #[a] t)) := (Below.refl _ _).alloc (Nat.le_refl _) _
  have b2 := (Below.refl (w.alloc (.cells #[a] t)).heap.size (w.alloc (.cells #[a] t))).alloc (Nat.le_refl _) (.cells #[b] u)
  have z1 : (w.alloc (.cells #[a] t)).heap.size = w.heap.size + 1 := by simp
  have x1 := Bx.new w a t
  have x2 := Bx.new (w.alloc (.cells #[a] t)) b u
  rw [z1] at x2
  exact ⟨_, rfl, onto b1 b1.size b2, x1.calm b2, x2⟩
set_option maxHeartbeats 4000000 in
theorem append_any (T : Mk) (t B n c : Nat) (A : Option Addr) (b : By) (d : Dk) (f : Int) (w : World) (h : DkAt T w t B d) (hk : d.ok) (ht : 0 < t) (hn : d.n < 1000000000000) (hnb : n = b.length) (hs : Sl w w.heap.size A n c (lf b)) (hn2 : n ≤ 140737488355328) :
    Calls Try.prog 13 #[.pointer (some ⟨B, 0, none⟩), .int .i64 f, .slice A n c] w fun e w' => e = .returned (.int .i64 ((onF f d fun i => d.app i b).1 : Int)) ∧ ∃ T', Fr T T' (Hs t) w w' ∧ DkAt T' w' t B (onF f d fun i => d.app i b).2 := by
  have H := Lib.hid h
  have HS := Lib.hid hs
  have HK := Lib.hid hk
  clear h hs hk
  subst hnb
  obtain ⟨r, hr⟩ : ∃ r, r = onF f d fun i => d.app i b := ⟨_, rfl⟩
  rw [← hr]
  have HRR := Lib.hid hr
  clear hr
  go_enter Try.func13, Try.ntmps13
  go_wp2_with fail
  obtain ⟨w3, hw3, B3, X0, X1, X2⟩ := boxes3 w (.pointer (some ⟨B, 0, none⟩)) (.int .i64 f) (.slice A b.length c) 24 3 29
  rw [← hw3]
  have q0 := X0.cell
  have BB := Lib.hid B3
  have XX0 := Lib.hid X0
  have XX1 := Lib.hid X1
  have XX2 := Lib.hid X2
  clear hw3 X0 X1 X2 B3
  refine (isFile_any f w3).mono ?_
  rintro e w4 ⟨rfl, rfl⟩
  have F3 := Lib.hid (Fr.new (T := T) (H := Hs t) BB.out 0)
  have D3 := Lib.hid (H.out.fr (Fr.new (T := T) (H := fun _ => False) BB.out 0) (fun _ _ e => e) (fun e => e))
  by_cases hf : 0 ≤ f ∧ f < 4
  · have hd : decide (0 ≤ f ∧ f < 4) = true := by simpa using hf
    obtain ⟨F, rfl⟩ : ∃ F : Nat, f = (F : Int) := ⟨f.toNat, by omega⟩
    have hF : F < 4 := by omega
    rw [hd]
    have HRE := Lib.hid (show r = d.app F b by rw [HRR.out]; unfold onF; rw [if_pos hf, Int.toNat_natCast])
    have hl : ∀ i, i < 4 → (d.f i).l.length ≤ 1000000000000 := fun i hi => by have := HK.out.few i hi; omega
    have HST := Lib.hid (step_any _ t B d 27 (.int .i64 0) (.int .i64 0) (.int .i64 0) #[.pointer (some ⟨w.heap.size, 0, none⟩), .pointer (some ⟨w.heap.size + 1, 0, none⟩), .pointer (some ⟨w.heap.size + 1 + 1, 0, none⟩)]
      (if maxF < (d.f F).all.length + b.length then 2 else 0) (if maxF < (d.f F).all.length + b.length then d else { d with f := updD d.f F ((d.f F).app b) }) w3 D3.out ht hn ent_app (by split <;> exact ⟨rfl, rfl, rfl⟩) (by split <;> omega)
      (fun _ => appc_any _ t B F b.length c _ _ _ A b d w3 D3.out ht hF hl XX0.out XX1.out XX2.out rfl ((HS.out.below BB.out).more BB.out.size) hn2))
    rw [stepped_app] at HST
    clear hd hl
    go_wp2_with fail
    refine HST.out.mono ?_
    rintro e w5 ⟨rfl, T5, f5, d5⟩
    have F5 := Lib.hid (F3.out.trans f5)
    have D5 := Lib.hid d5
    clear f5 d5 HST q0
    go_wp2_with fail
    go_ret
    rw [HRE.out]
    exact ⟨rfl, T5, F5.out, D5.out⟩
  · have hd : decide (0 ≤ f ∧ f < 4) = false := by simpa using hf
    rw [hd]
    have HRE := Lib.hid (show r = (1, d) by rw [HRR.out]; unfold onF; rw [if_neg hf])
    clear hd
    go_wp2_with fail
    go_ret
    rw [HRE.out]
    exact ⟨rfl, _, F3.out, D3.out⟩
set_option maxHeartbeats 4000000 in
theorem sync_any (T : Mk) (t B : Nat) (d : Dk) (f : Int) (w : World) (h : DkAt T w t B d) (hk : d.ok) (ht : 0 < t) (hn : d.n < 1000000000000) :
    Calls Try.prog 21 #[.pointer (some ⟨B, 0, none⟩), .int .i64 f] w fun e w' => e = .returned (.int .i64 ((onF f d fun i => d.sync i).1 : Int)) ∧ ∃ T', Fr T T' (Hs t) w w' ∧ DkAt T' w' t B (onF f d fun i => d.sync i).2 := by
  have H := Lib.hid h
  have HK := Lib.hid hk
  clear h hk
  obtain ⟨r, hr⟩ : ∃ r, r = onF f d fun i => d.sync i := ⟨_, rfl⟩
  rw [← hr]
  have HRR := Lib.hid hr
  clear hr
  go_enter Try.func21, Try.ntmps21
  go_wp2_with fail
  obtain ⟨w3, hw3, B3, X0, X1⟩ := boxes2 w (.pointer (some ⟨B, 0, none⟩)) (.int .i64 f) 24 3
  rw [← hw3]
  have q0 := X0.cell
  have BB := Lib.hid B3
  have XX0 := Lib.hid X0
  have XX1 := Lib.hid X1
  clear hw3 X0 X1 B3
  refine (isFile_any f w3).mono ?_
  rintro e w4 ⟨rfl, rfl⟩
  have F3 := Lib.hid (Fr.new (T := T) (H := Hs t) BB.out 0)
  have D3 := Lib.hid (H.out.fr (Fr.new (T := T) (H := fun _ => False) BB.out 0) (fun _ _ e => e) (fun e => e))
  by_cases hf : 0 ≤ f ∧ f < 4
  · have hd : decide (0 ≤ f ∧ f < 4) = true := by simpa using hf
    obtain ⟨F, rfl⟩ : ∃ F : Nat, f = (F : Int) := ⟨f.toNat, by omega⟩
    have hF : F < 4 := by omega
    rw [hd]
    have HRE := Lib.hid (show r = d.sync F by rw [HRR.out]; unfold onF; rw [if_pos hf, Int.toNat_natCast])
    have hl : ∀ i, i < 4 → (d.f i).l.length ≤ 1000000000000 := fun i hi => by have := HK.out.few i hi; omega
    have HST := Lib.hid (step_any _ t B d 40 (.int .i64 0) (.int .i64 0) (.int .i64 0) #[.pointer (some ⟨w.heap.size, 0, none⟩), .pointer (some ⟨w.heap.size + 1, 0, none⟩)]
      0 { d with f := updD d.f F (d.f F).sync } w3 D3.out ht hn ent_sync ⟨rfl, rfl, rfl⟩ (by omega)
      (fun _ => syncc_any _ t B F _ _ d w3 D3.out ht hF hl XX0.out XX1.out))
    rw [stepped_sync] at HST
    clear hd hl
    go_wp2_with fail
    refine HST.out.mono ?_
    rintro e w5 ⟨rfl, T5, f5, d5⟩
    have F5 := Lib.hid (F3.out.trans f5)
    have D5 := Lib.hid d5
    clear f5 d5 HST q0
    go_wp2_with fail
    go_ret
    rw [HRE.out]
    exact ⟨rfl, T5, F5.out, D5.out⟩
  · have hd : decide (0 ≤ f ∧ f < 4) = false := by simpa using hf
    rw [hd]
    have HRE := Lib.hid (show r = (1, d) by rw [HRR.out]; unfold onF; rw [if_neg hf])
    clear hd
    go_wp2_with fail
    go_ret
    rw [HRE.out]
    exact ⟨rfl, _, F3.out, D3.out⟩
set_option maxHeartbeats 4000000 in
theorem cut_any (T : Mk) (t B : Nat) (d : Dk) (f z : Int) (w : World) (h : DkAt T w t B d) (hk : d.ok) (ht : 0 < t) (hn : d.n < 1000000000000) :
    Calls Try.prog 23 #[.pointer (some ⟨B, 0, none⟩), .int .i64 f, .int .i64 z] w fun e w' => e = .returned (.int .i64 ((onF f d fun i => d.cut i z).1 : Int)) ∧ ∃ T', Fr T T' (Hs t) w w' ∧ DkAt T' w' t B (onF f d fun i => d.cut i z).2 := by
  have H := Lib.hid h
  have HK := Lib.hid hk
  clear h hk
  obtain ⟨r, hr⟩ : ∃ r, r = onF f d fun i => d.cut i z := ⟨_, rfl⟩
  rw [← hr]
  have HRR := Lib.hid hr
  clear hr
  go_enter Try.func23, Try.ntmps23
  go_wp2_with fail
  obtain ⟨w3, hw3, B3, X0, X1, X2⟩ := boxes3 w (.pointer (some ⟨B, 0, none⟩)) (.int .i64 f) (.int .i64 z) 24 3 3
  rw [← hw3]
  have BB := Lib.hid B3
  have XX0 := Lib.hid X0
  have XX1 := Lib.hid X1
  have XX2 := Lib.hid X2
  clear hw3 X0 X1 X2 B3
  refine flow_seen [([0], 1, true), ([2, 3, 4, 5, 6, 7, 8, 9, 10, 11, 12, 13], 14, false)] [15, 16] (by kernel_rfl) (by kernel_rfl) (fun _ _ _ _ _ h => h) fun X => ?_
  have B4 := Lib.hid (onto BB.out BB.out.size X.below)
  have Y0 := Lib.hid (XX0.out.calm X.below)
  have Y1 := Lib.hid (XX1.out.calm X.below)
  have Y2 := Lib.hid (XX2.out.calm X.below)
  obtain ⟨w4, hw4⟩ : ∃ w4, w4 = X.val := ⟨_, rfl⟩
  rw [← hw4] at B4 Y0 Y1 Y2 ⊢
  clear hw4 X BB XX0 XX1 XX2
  have e1 : ∀ y : After w4, y.val.cell? ⟨w.heap.size + 1, 0, none⟩ = some (.int .i64 f) := fun y => (Y1.out.calm y.below).cell
  simp only [wpFs, pk, List.getElem?_cons_zero, List.getElem?_cons_succ]
  repeat (go_big_quiet_step (fail))
  refine wpQuiet_nil ?_
  clear e1
  go_wp2_with fail
  refine (isFile_any f w4).mono ?_
  rintro e w5 ⟨rfl, rfl⟩
  have F4 := Lib.hid (Fr.new (T := T) (H := Hs t) B4.out 0)
  have D4 := Lib.hid (H.out.fr (Fr.new (T := T) (H := fun _ => False) B4.out 0) (fun _ _ e => e) (fun e => e))
  clear H
  by_cases hf : 0 ≤ f ∧ f < 4
  · have hd : decide (0 ≤ f ∧ f < 4) = true := by simpa using hf
    obtain ⟨F, rfl⟩ : ∃ F : Nat, f = (F : Int) := ⟨f.toNat, by omega⟩
    have hF : F < 4 := by omega
    have HRE := Lib.hid (show r = d.cut F z by rw [HRR.out]; unfold onF; rw [if_pos hf, Int.toNat_natCast])
    have hl : ∀ i, i < 4 → (d.f i).l.length ≤ 1000000000000 := fun i hi => by have := HK.out.few i hi; omega
    have HL := Lib.hid hl
    rw [hd]
    clear hd hl hf
    go_wp2_with fail
    first | refine ⟨.inl trivial, ?_⟩ | skip
    show wpQuiet _ _ _ _ _ _
    have e0 : ∀ y : After w4, y.val.cell? ⟨w.heap.size, 0, none⟩ = some (.pointer (some ⟨B, 0, none⟩)) := fun y => (Y0.out.calm y.below).cell
    have e1 : ∀ y : After w4, y.val.cell? ⟨w.heap.size + 1, 0, none⟩ = some (.int .i64 (F : Int)) := fun y => (Y1.out.calm y.below).cell
    have e2 : ∀ y : After w4, y.val.cell? ⟨w.heap.size + 1 + 1, 0, none⟩ = some (.int .i64 z) := fun y => (Y2.out.calm y.below).cell
    have b1 : decide ((F : Int) < 4) = true := by simp; omega
    by_cases hz : z < 0
    · have hd : decide (z < 0) = true := by simpa using hz
      have HZ := Lib.hid hz
      clear hz
      repeat (go_big_quiet_step (fail))
      refine wpQuiet_nil ?_
      clear e0 e1 e2
      go_wp2_with fail
      first | refine ⟨.inr (Below.refl _ _), ?_⟩ | refine ⟨Below.refl _ _, ?_⟩
      show wpQuiet _ _ _ _ _ _
      repeat (go_big_quiet_step (fail))
      refine wpQuiet_nil ?_
      go_wp2_with fail
      go_ret
      rw [show r = (1, d) by rw [HRE.out]; unfold Dk.cut; rw [if_pos (.inl HZ.out)]]
      exact ⟨rfl, _, F4.out, D4.out⟩
    · have hd : decide (z < 0) = false := by simpa using hz
      obtain ⟨K, rfl⟩ : ∃ K : Nat, z = (K : Int) := ⟨z.toNat, by omega⟩
      clear hz
      repeat (go_big_quiet_step (fail))
      refine wpQuiet_nil ?_
      clear e0 e1 e2
      obtain ⟨V, l, hr, -, -, h3⟩ := D4.out.row
      obtain ⟨hd1, hp1, ok1⟩ := h3 F hF
      obtain ⟨A1, c1, hv1, hr1, -⟩ := hd1.rd
      obtain ⟨A2, c2, hv2, hp2, -⟩ := hp1.sl
      have HC := Lib.hid (size_any _ 0 _ c1 c2 B (F * 2) A1 A2 _ _ _ w4 hr (by rw [dk_get _ _ _ _ _ (by omega), show F * 2 = 2 * F by omega, hv1]) (by rw [dk_get _ _ _ _ _ (by omega), show F * 2 + 1 = 2 * F + 1 by omega, hv2]) hr1.sl.le hp2 ok1 (HL.out F hF))
      obtain ⟨N, hN⟩ : ∃ N, N = (d.f F).all.length := ⟨_, rfl⟩
      have HN := Lib.hid hN
      have hNm : N ≤ 1048576 := by have := ok1.len; rw [maxF_eq] at this; rw [hN]; exact this
      rw [show (has (d.f F).s (d.f F).l).length = N from hN.symm] at HC
      clear hr h3 hd1 hp1 ok1 hv1 hr1 hv2 hp2 hN
      go_wp2_with fail
      refine HC.out.mono ?_
      rintro e w5 ⟨rfl, b5⟩
      have F5 := Lib.hid (F4.out.trans (Fr.new b5 0))
      have D5 := Lib.hid (D4.out.fr (Fr.new (H := fun _ => False) b5 0) (fun _ _ e => e) (fun e => e))
      have Z0 := Lib.hid (Y0.out.calm b5)
      have Z1 := Lib.hid (Y1.out.calm b5)
      have Z2 := Lib.hid (Y2.out.calm b5)
      clear HC
      go_wp2_with fail
      first | refine ⟨.inr b5, ?_⟩ | refine ⟨b5, ?_⟩
      clear b5 D4 F4 Y0 Y1 Y2
      show wpQuiet _ _ _ _ _ _
      have q0 := Z0.out.cell
      by_cases hlong : N < K
      · have hd : decide ((N : Int) < (K : Int)) = true := by simp; omega
        have HLG := Lib.hid hlong
        clear hlong
        repeat (go_big_quiet_step (fail))
        refine wpQuiet_nil ?_
        go_wp2_with fail
        go_ret
        rw [show r = (1, d) by rw [HRE.out]; unfold Dk.cut; rw [if_pos (.inr (by have := HLG.out; have := HN.out; omega))]]
        exact ⟨rfl, _, F5.out, D5.out⟩
      · have hd : decide ((N : Int) < (K : Int)) = false := by simp; omega
        have HLG := Lib.hid hlong
        clear hlong
        repeat (go_big_quiet_step (fail))
        refine wpQuiet_nil ?_
        have hK : K ≤ (d.f F).all.length := by have := HLG.out; have := HN.out; omega
        have HST := Lib.hid (step_any _ t B d 42 (.int .i64 0) (.int .i64 0) (.int .i64 0) #[.pointer (some ⟨w.heap.size, 0, none⟩), .pointer (some ⟨w.heap.size + 1, 0, none⟩), .pointer (some ⟨w.heap.size + 1 + 1, 0, none⟩)]
          0 { d with f := updD d.f F ((d.f F).cut K) } w5 D5.out ht hn ent_cut ⟨rfl, rfl, rfl⟩ (by omega)
          (fun _ => cutc_any _ t B F K _ _ _ d w5 D5.out ht hF HL.out Z0.out Z1.out Z2.out hK))
        rw [stepped_cut d F K hK] at HST
        clear hK hd
        go_wp2_with fail
        refine HST.out.mono ?_
        rintro e w6 ⟨rfl, T6, f6, d6⟩
        have F6 := Lib.hid (F5.out.trans f6)
        have D6 := Lib.hid d6
        clear f6 d6 HST q0
        go_wp2_with fail
        go_ret
        rw [HRE.out]
        exact ⟨rfl, T6, F6.out, D6.out⟩
  · have hd : decide (0 ≤ f ∧ f < 4) = false := by simpa using hf
    have HRE := Lib.hid (show r = (1, d) by rw [HRR.out]; unfold onF; rw [if_neg hf])
    rw [hd]
    clear hd
    go_wp2_with fail
    first | refine ⟨.inl trivial, ?_⟩ | skip
    show wpQuiet _ _ _ _ _ _
    repeat (go_big_quiet_step (fail))
    refine wpQuiet_nil ?_
    go_wp2_with fail
    first | refine ⟨.inr (Below.refl _ _), ?_⟩ | refine ⟨Below.refl _ _, ?_⟩
    show wpQuiet _ _ _ _ _ _
    repeat (go_big_quiet_step (fail))
    refine wpQuiet_nil ?_
    go_wp2_with fail
    go_ret
    rw [HRE.out]
    exact ⟨rfl, _, F4.out, D4.out⟩
end Go.Proofs.Ythdhbjfenanbnaa.Oct
