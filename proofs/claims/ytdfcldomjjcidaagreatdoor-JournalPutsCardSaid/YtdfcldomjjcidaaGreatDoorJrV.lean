/- Contract: law 11's shown. -/
import Derived.Test.YtdfcldomjjcidaaGreatDoorJrU
namespace Go.Proofs.YtdfcldomjjcidaaGreatDoor.Oct
open Go.ChangeShapes Go.WideShapes Go.ChangeAt Go.RowKit
set_option linter.unusedVariables false

theorem pcL_le {r : Rc} (h : pcE r = 0) : pcL r ≤ 4103 := by
  obtain ⟨-, -, h3⟩ := pc_ok h
  have := enc_small h3
  unfold pcL frL txL
  omega
theorem pcE_rH : pcE (rHard 3 1) = 0 := by kernel_rfl
theorem pcE_rE : pcE (rEnt 1 1) = 0 := by kernel_rfl
theorem enB_rE (i t : Int) (h : -9223372036854775808 ≤ t ∧ t < 9223372036854775808) : EnB (rEnt i t).e := ⟨h, by change (-9223372036854775808 : Int) ≤ 0 ∧ (0 : Int) < 9223372036854775808; decide, fun i hi => absurd hi (by show ¬ i < 0; omega), Nat.zero_le _⟩
abbrev eN (t : Int) : En := ⟨t, 0, 0, nF, 0, fun _ => 0⟩
theorem fd_1 : fdS (gt [rEnt 1 1, rEnt 2 1, rEnt 2 2]) 3 = some ⟨0, 0, 0, 0, 0, [eN 1, eN 2]⟩ := by kernel_rfl
theorem fd_2 : fdS (gt [rEnt 2 1]) 1 = none := by kernel_rfl
theorem fd_3 : fdS (gt [rEnt 1 1, rEnt 2 1, rBase 1 1 0]) 3 = some ⟨0, 0, 1, 1, 0, [eN 1]⟩ := by kernel_rfl
theorem litC_1 (r : Rc) : (litC [r]).toArray = rcC r nilS nilS := by simp [litC]
set_option maxRecDepth 20000 in
set_option maxHeartbeats 4000000 in
theorem shown11_any (w : World) (ht : Tab w) : Calls Tryz.prog 5 #[] w fun e w' => e = .returned (.bool true) ∧ Below w.heap.size w w' := by
  have HC1 := Lib.hid (put_rec (rHard 3 1) none none 0 0 w ht (enR_none w _ rfl rfl) (fun h => absurd h (by decide)))
  have HT := Lib.hid ht
  clear ht
  go_enter Tryz.func5, Tryz.ntmps5
  go_wp2_with fail
  refine HC1.out.mono ?_
  rintro e w1 (⟨h, -, -⟩ | ⟨-, v1, rfl, ho1, hb1⟩)
  · exact absurd pcE_rH h
  obtain ⟨A1, c1, rfl, s1, -, -⟩ := ho1.sl
  have S1 := Lib.hid s1
  have B1 := Lib.hid hb1
  have hz1 := hb1.size
  have T1 := Lib.hid (HT.out.below hb1 HT.out.pos)
  obtain ⟨n1, hn1⟩ : ∃ n, n = pcL (rHard 3 1) := ⟨_, rfl⟩
  have hn1a : 5 ≤ n1 := by rw [hn1]; exact pcL_pos _
  have hn1b : n1 ≤ 4103 := by rw [hn1]; exact pcL_le pcE_rH
  rw [← hn1] at s1
  have HN1 := Lib.hid hn1
  have E2 := Lib.hid (ent11_any 1 1 w1)
  clear HC1 ho1 hb1 s1
  go_upto_region 2 with fail
  go_wp2_with fail
  refine E2.out.mono ?_
  rintro e w2 ⟨rfl, hb2⟩
  have HC2 := Lib.hid (put_rec (rEnt 1 1) none none 0 0 w2 (T1.out.below hb2 T1.out.pos) (enR_none w2 _ rfl rfl) (fun _ => enB_rE 1 1 (by decide)))
  have B2 := Lib.hid (onto B1.out B1.out.size hb2)
  have S2 := Lib.hid ((S1.out.below hb2).more hb2.size)
  have T2 := Lib.hid (T1.out.below hb2 T1.out.pos)
  clear E2 hb2 S1 B1 T1
  go_wp2_with fail
  refine HC2.out.mono ?_
  rintro e w3 (⟨h, -, -⟩ | ⟨-, v2, rfl, ho2, hb3⟩)
  · exact absurd pcE_rE h
  obtain ⟨A2, c2, rfl, s2, -, -⟩ := ho2.sl
  have T3 := Lib.hid (T2.out.below hb3 T2.out.pos)
  have B3 := Lib.hid (onto B2.out B2.out.size hb3)
  obtain ⟨n2, hn2⟩ : ∃ n, n = pcL (rEnt 1 1) := ⟨_, rfl⟩
  have hn2a : 5 ≤ n2 := by rw [hn2]; exact pcL_pos _
  have hn2b : n2 ≤ 4103 := by rw [hn2]; exact pcL_le pcE_rE
  have HN2 := Lib.hid hn2
  have e1 : ((n1 : Int) == 0) = false := by simp; omega
  have e2 : ((n2 : Int) == 0) = false := by simp; omega
  rw [← hn1, ← hn2]
  have S3 := Lib.hid (show Sl w3 w3.heap.size A1 n1 c1 (pcF (rHard 3 1)) by rw [hn1]; exact (S2.out.below hb3).more hb3.size)
  have Q3 := Lib.hid (show Sl w3 w3.heap.size A2 n2 c2 (pcF (rEnt 1 1)) by rw [hn2]; exact s2)
  clear HC2 ho2 hb3 s2 S2 T2 B2 hn1 hn2
  go_upto_region 5 with fail
  have hdec : IntKind.i64.wrap ((n2 : Int) - 1) = ((n2 - 1 : Nat) : Int) := by rw [IntKind.wrap_i64]; omega
  have qu := fun w => run_upto (P := Tryz.prog) sli_u u8_i A2 n2 c2 (n2 - 1) (by have := Q3.out.le; omega) w
  refine flow_frees [1, 3, 4, 5, 6, 7] [([], 0, false), ([], 2, true), ([], 8, true), ([], 9, true)] [10, 11, 12, 13, 14] (by kernel_rfl) (by kernel_rfl) (fun _ _ _ _ _ h => h) ?_
  have hne : Nonempty (In (fun _ => True)) := ⟨⟨w3, trivial⟩⟩
  simp only [pk, List.getElem?_cons_zero, List.getElem?_cons_succ]
  repeat (go_big_quiet_step (fail))
  refine wpQuiet_nil ?_
  clear hne
  intro Z
  have S4 := Lib.hid ((S3.out.below Z.below).more Z.below.size)
  have Q4 := Lib.hid ((Q3.out.below Z.below).more Z.below.size)
  have T4 := Lib.hid (T3.out.below Z.below T3.out.pos)
  have B4 := Lib.hid (onto B3.out B3.out.size Z.below)
  obtain ⟨w4, hw4⟩ : ∃ w4, w4 = Z.val := ⟨_, rfl⟩
  rw [← hw4] at S4 Q4 T4 B4 ⊢
  clear hw4 Z S3 Q3 T3 B3
  simp only [wpFs, pk, List.getElem?_cons_zero, List.getElem?_cons_succ]
  repeat (go_big_quiet_step (fail))
  refine wpQuiet_nil ?_
  go_wp2_with fail
  have bx := (Below.refl w4.heap.size w4).alloc (Nat.le_refl _) (.cells #[] 5)
  refine ⟨.inr bx, ?_⟩
  have hz5 : w4.heap.size ≤ (w4.alloc (.cells #[] 5)).heap.size := by simp
  have O5 := Lib.hid (Own.empty w4 w4.heap.size 5 nF (Nat.le_refl _))
  have S5 := Lib.hid ((S4.out.below bx).more hz5)
  have Q5 := Lib.hid ((Q4.out.below bx).more hz5)
  have T5 := Lib.hid (T4.out.below bx T4.out.pos)
  have B5 := Lib.hid (onto B4.out B4.out.size bx)
  obtain ⟨w5, hw5⟩ : ∃ w5, w5 = w4.alloc (.cells #[] 5) := ⟨_, rfl⟩
  rw [← hw5] at O5 S5 Q5 T5 B5 hz5 bx ⊢
  have BX := Lib.hid bx
  clear hw5 bx S4
  show wpQuiet _ _ _ _ _ _
  refine wpQuiet_nil ?_
  refine wpl_appB rfl (.tmp 33) (.tmp 34) rfl sli_u u8_info O5.out S5.out (by omega) hz5 rfl rfl ?_
  intro v6 w6 ho6 hg6 ht6
  go_wp2_with fail
  have b6 : Below w4.heap.size w4 w6 := O5.out.after hg6 BX.out hz5 (Nat.le_refl _)
  have hz6 := b6.size
  have O6 := Lib.hid ho6
  have Q6 := Lib.hid (((Q4.out.below b6).more hz6).upto (n2 - 1) (by omega))
  have T6 := Lib.hid (T4.out.below b6 T4.out.pos)
  have BX6 := Lib.hid b6
  clear ho6 hg6 ht6 b6 O5 S5 Q5 T5 B5 BX
  show wpQuiet _ _ _ _ _ _
  refine wpQuiet_nil ?_
  refine wpl_appB rfl (.tmp 35) (.tmp 40) rfl sli_u u8_info O6.out Q6.out (by omega) hz6 rfl rfl ?_
  intro v7 w7 ho7 hg7 ht7
  go_wp2_with fail
  have b7 : Below w4.heap.size w4 w7 := O6.out.after hg7 BX6.out hz6 (Nat.le_refl _)
  obtain ⟨m, hm⟩ : ∃ m, m = n1 + (n2 - 1) := ⟨_, rfl⟩
  obtain ⟨F, hF⟩ : ∃ F : Bf, F = catF (0 + n1) (catF 0 nF (pcF (rHard 3 1))) (pcF (rEnt 1 1)) := ⟨_, rfl⟩
  rw [show 0 + n1 + (n2 - 1) = m by omega, ← hF] at ho7
  obtain ⟨A7, c7, rfl, s7, hc7, -⟩ := ho7.sl
  have T7 := T4.out.below b7 T4.out.pos
  have B7 := Lib.hid (onto B4.out B4.out.size b7)
  have HM := Lib.hid hm
  have HF := Lib.hid hF
  have HS := Lib.hid (scan_any m c7 A7 F w7 T7 s7 (by omega) hc7)
  have T7' := Lib.hid T7
  clear ho7 hg7 ht7 s7 b7 O6 Q6 T6 BX6 T4 B4 Q4 T7 hm hF
  show wpQuiet _ _ _ _ _ _
  refine wpQuiet_nil ?_
  go_wp2_with fail
  refine HS.out.mono ?_
  rintro e w8 ⟨hb8, l, A8, c8, rfl, hsc, hrs⟩
  have hsc1 : ScR m F [rHard 3 1] := by
    have hm := HM.out
    have hw : ScR (n1 + n2) F [rHard 3 1, rEnt 1 1] := scr_whole (fun r hr => by
      simp only [List.mem_cons, List.not_mem_nil, or_false] at hr
      rcases hr with rfl | rfl
      · exact ⟨fun h => absurd h (by decide), pcE_rH⟩
      · exact ⟨fun _ => enB_rE 1 1 (by decide), pcE_rE⟩) (by simp only [lnS, ← HN1.out, ← HN2.out, Nat.add_zero]) fun i hi => by
        rw [HF.out, Nat.zero_add, catF_zero]
        simp only [allF, ← HN1.out]
        unfold catF
        split
        · rfl
        · rw [if_pos (by rw [← HN2.out]; omega)]
    exact scr_cut hw (by simp only [lnS, ← HN1.out, ← HN2.out, Nat.add_zero]) 1 m (by simp) (by simp [lnS, ← HN1.out]; omega) (fun _ => by simp [lnS, ← HN1.out, ← HN2.out]; omega) (by omega)
  obtain ⟨hl, hle⟩ := hsc.one hsc1
  have hl1 : lnS l = n1 := by rw [hl]; simp only [lnS, ← HN1.out, Nat.add_zero]
  have hlen : l.length = 1 := hle.1
  have ha0 : (gt l 0).a = 3 := (hle.2 0 (by omega)).a
  obtain ⟨g, o, D, k, D', k', hA8, hg8, hc8, -⟩ := hrs.at_ 0 (by omega)
  subst hA8
  have hc4 := hc8 4 (by omega)
  rw [Nat.zero_mul, Nat.add_zero, show (rcC (gt l 0) (.slice D (gt l 0).e.T k) (.slice D' (gt l 0).e.n k'))[4]? = some (.int .i64 3) by unfold rcC; rw [ha0]; rfl] at hc4
  rw [hl1, hlen]
  have HC4 := Lib.hid hc4
  have T8 := Lib.hid (T7'.out.below hb8 T7'.out.pos)
  have B8 := Lib.hid (onto B7.out B7.out.size hb8)
  clear HS hsc hrs hsc1 hle hl hl1 ha0 hc8 hc4 T7' B7 hb8
  go_wp2_with fail
  show wpQuiet _ _ _ _ _ _
  repeat (go_big_quiet_step (fail))
  refine wpQuiet_nil ?_
  have G1 := Lib.hid (ent11_any 1 1 w8)
  go_upto_region 6 with fail
  go_wp2_with fail
  refine G1.out.mono ?_
  rintro e w9 ⟨rfl, hb9⟩
  have G2 := Lib.hid (ent11_any 2 1 w9)
  have B9 := Lib.hid (onto B8.out B8.out.size hb9)
  have T9 := Lib.hid (T8.out.below hb9 T8.out.pos)
  have HC9 := Lib.hid ((hb9.cell (p := ⟨g, o + 4, none⟩) hg8).trans HC4.out)
  have hg9 : g < w9.heap.size := Nat.lt_of_lt_of_le hg8 hb9.size
  clear G1 hb9 B8 T8 HC4 hg8
  go_wp2_with fail
  refine G2.out.mono ?_
  rintro e w10 ⟨rfl, hb10⟩
  have G3 := Lib.hid (ent11_any 2 2 w10)
  have B10 := Lib.hid (onto B9.out B9.out.size hb10)
  have T10 := Lib.hid (T9.out.below hb10 T9.out.pos)
  have HC10 := Lib.hid ((hb10.cell (p := ⟨g, o + 4, none⟩) hg9).trans HC9.out)
  have hg10 : g < w10.heap.size := Nat.lt_of_lt_of_le hg9 hb10.size
  clear G2 hb10 B9 T9 HC9 hg9
  go_wp2_with fail
  refine G3.out.mono ?_
  rintro e w11 ⟨rfl, hb11⟩
  have B11 := Lib.hid (onto B10.out B10.out.size hb11)
  have T11 := Lib.hid (T10.out.below hb11 T10.out.pos)
  have HC11 := Lib.hid ((hb11.cell (p := ⟨g, o + 4, none⟩) hg10).trans HC10.out)
  have hg11 : g < w11.heap.size := Nat.lt_of_lt_of_le hg10 hb11.size
  clear G3 hb11 B10 T10 HC10 hg10
  obtain ⟨w12, hw12⟩ : ∃ w12, w12 = w11.alloc (.cells (litC [rEnt 1 1, rEnt 2 1, rEnt 2 2]).toArray 29) := ⟨_, rfl⟩
  have hb12 : Below w11.heap.size w11 w12 := by rw [hw12]; exact (Below.refl _ _).alloc (Nat.le_refl _) _
  have r12 : row w12 w11.heap.size = some (litC [rEnt 1 1, rEnt 2 1, rEnt 2 2]).toArray := by rw [hw12]; exact row_alloc_at _ _ _ _ rfl
  have bare3 : ∀ r, r ∈ [rEnt 1 1, rEnt 2 1, rEnt 2 2] → bare r := fun r hr => by
    simp only [List.mem_cons, List.not_mem_nil, or_false] at hr
    rcases hr with rfl | rfl | rfl <;> exact ⟨rfl, rfl⟩
  have F12 := Lib.hid (fold_any 3 3 (some ⟨w11.heap.size, 0, none⟩) (gt [rEnt 1 1, rEnt 2 1, rEnt 2 2]) w12 (litC_rcs r12 bare3) (fun i hi => by
    rcases ahead3 i hi with rfl | rfl | rfl <;> exact ⟨by decide, by decide, by decide⟩) (by omega))
  have B12 := Lib.hid (onto B11.out B11.out.size hb12)
  have HC12 := Lib.hid ((hb12.cell (p := ⟨g, o + 4, none⟩) hg11).trans HC11.out)
  have hg12 : g < w12.heap.size := Nat.lt_of_lt_of_le hg11 hb12.size
  clear hb12 r12 bare3 B11 T11 HC11 hg11
  go_wp2_with fail
  simp only [← hw12]
  clear hw12
  refine F12.out.mono ?_
  rintro e w13 ⟨hb13, ⟨s, A13, c13, ho, rfl, hE⟩ | ⟨ho, rfl⟩⟩
  rotate_left
  · rw [fd_1] at ho; cases ho
  rw [fd_1] at ho
  cases ho
  obtain ⟨g2, o2, D2, k2, D3, k3, hA13, hg13, hc13, -⟩ := hE.at_ 1 (by decide)
  subst hA13
  have hc0 := hc13 0 (by omega)
  rw [show o2 + 1 * 4 + 0 = o2 + 4 by omega, show (#[.int .i64 (ge [eN 1, eN 2] 1).t, .int .i64 (ge [eN 1, eN 2] 1).k, .slice D2 (ge [eN 1, eN 2] 1).T k2, .slice D3 (ge [eN 1, eN 2] 1).n k3] : Array Value)[0]? = some (.int .i64 2) from rfl] at hc0
  obtain ⟨w14, hw14⟩ : ∃ w14, w14 = w13.alloc (.cells (stC ⟨0, 0, 0, 0, 0, [eN 1, eN 2]⟩ (.slice (some ⟨g2, o2, none⟩) 2 c13)) 51) := ⟨_, rfl⟩
  have hb14 : Below w13.heap.size w13 w14 := by rw [hw14]; exact (Below.refl _ _).alloc (Nat.le_refl _) _
  have r14 : row w14 w13.heap.size = some (stC ⟨0, 0, 0, 0, 0, [eN 1, eN 2]⟩ (.slice (some ⟨g2, o2, none⟩) 2 c13)) := by rw [hw14]; exact row_alloc_at _ _ _ _ rfl
  have hz13 := hb13.size
  have hz14 := hb14.size
  have hgg : g < w13.heap.size := by omega
  have B14 := Lib.hid (onto B12.out B12.out.size (onto hb13 hb13.size hb14))
  have HC14 := Lib.hid ((hb14.cell (p := ⟨g, o + 4, none⟩) hgg).trans ((hb13.cell (p := ⟨g, o + 4, none⟩) hg12).trans HC12.out))
  have HD14 := Lib.hid ((hb14.cell (p := ⟨g2, o2 + 4, none⟩) hg13).trans hc0)
  have R14 := Lib.hid r14
  have hg14 : g < w14.heap.size := by omega
  have hh14 : g2 < w14.heap.size := by omega
  have hr14 := row_lt r14
  have G4 := Lib.hid (ent11_any 2 1 w14)
  clear F12 hb13 hE hc13 hc0 hb14 r14 B12 HC12
  go_upto_region 7 with fail
  simp only [← hw14]
  clear hw14
  go_wp2_with fail
  refine G4.out.mono ?_
  rintro e w15 ⟨rfl, hb15⟩
  obtain ⟨w16, hw16⟩ : ∃ w16, w16 = w15.alloc (.cells (rcC (rEnt 2 1) nilS nilS) 29) := ⟨_, rfl⟩
  have hb16 : Below w15.heap.size w15 w16 := by rw [hw16]; exact (Below.refl _ _).alloc (Nat.le_refl _) _
  have r16 : row w16 w15.heap.size = some (litC [rEnt 2 1]).toArray := by rw [hw16, litC_1]; exact row_alloc_at _ _ _ _ rfl
  have bx16 := onto hb15 hb15.size hb16
  have F16 := Lib.hid (fold_any 1 1 (some ⟨w15.heap.size, 0, none⟩) (gt [rEnt 2 1]) w16 (litC_rcs r16 fun r hr => by
    simp only [List.mem_cons, List.not_mem_nil, or_false] at hr
    subst hr
    exact ⟨rfl, rfl⟩) (fun i hi => by
    obtain rfl : i = 0 := by omega
    exact ⟨by decide, by decide, by decide⟩) (by omega))
  have B16 := Lib.hid (onto B14.out B14.out.size bx16)
  have HC16 := Lib.hid ((bx16.cell (p := ⟨g, o + 4, none⟩) hg14).trans HC14.out)
  have HD16 := Lib.hid ((bx16.cell (p := ⟨g2, o2 + 4, none⟩) hh14).trans HD14.out)
  have R16 := Lib.hid (carry bx16 R14.out)
  have hz16 := bx16.size
  clear G4 hb15 hb16 r16 bx16 B14 HC14 HD14 R14
  go_wp2_with fail
  simp only [← hw16]
  clear hw16
  refine F16.out.mono ?_
  rintro e w17 ⟨hb17, ⟨s, A17, c17, ho, rfl, hE⟩ | ⟨ho, rfl⟩⟩
  · rw [fd_2] at ho; cases ho
  obtain ⟨w18, hw18⟩ : ∃ w18, w18 = w17.alloc (.cells (stC .zero nilS) 51) := ⟨_, rfl⟩
  have hb18 : Below w17.heap.size w17 w18 := by rw [hw18]; exact (Below.refl _ _).alloc (Nat.le_refl _) _
  have bx18 := onto hb17 hb17.size hb18
  have B18 := Lib.hid (onto B16.out B16.out.size bx18)
  have hg16 : g < w16.heap.size := by omega
  have hh16 : g2 < w16.heap.size := by omega
  have HC18 := Lib.hid ((bx18.cell (p := ⟨g, o + 4, none⟩) hg16).trans HC16.out)
  have HD18 := Lib.hid ((bx18.cell (p := ⟨g2, o2 + 4, none⟩) hh16).trans HD16.out)
  have R18 := Lib.hid (carry bx18 R16.out)
  have hz18 := bx18.size
  have G5 := Lib.hid (ent11_any 1 1 w18)
  clear F16 hb17 hb18 bx18 B16 HC16 HD16 R16 ho
  go_upto_region 8 with fail
  simp only [← hw18]
  clear hw18
  go_wp2_with fail
  refine G5.out.mono ?_
  rintro e w19 ⟨rfl, hb19⟩
  have G6 := Lib.hid (ent11_any 2 1 w19)
  have HB19 := Lib.hid hb19
  clear G5 hb19
  go_wp2_with fail
  refine G6.out.mono ?_
  rintro e w20 ⟨rfl, hb20⟩
  obtain ⟨w21, hw21⟩ : ∃ w21, w21 = w20.alloc (.cells (litC [rEnt 1 1, rEnt 2 1, rBase 1 1 0]).toArray 29) := ⟨_, rfl⟩
  have hb21 : Below w20.heap.size w20 w21 := by rw [hw21]; exact (Below.refl _ _).alloc (Nat.le_refl _) _
  have r21 : row w21 w20.heap.size = some (litC [rEnt 1 1, rEnt 2 1, rBase 1 1 0]).toArray := by rw [hw21]; exact row_alloc_at _ _ _ _ rfl
  have bx21 := onto HB19.out HB19.out.size (onto hb20 hb20.size hb21)
  have F21 := Lib.hid (fold_any 3 3 (some ⟨w20.heap.size, 0, none⟩) (gt [rEnt 1 1, rEnt 2 1, rBase 1 1 0]) w21 (litC_rcs r21 fun r hr => by
    simp only [List.mem_cons, List.not_mem_nil, or_false] at hr
    rcases hr with rfl | rfl | rfl <;> exact ⟨rfl, rfl⟩) (fun i hi => by
    rcases ahead3 i hi with rfl | rfl | rfl <;> exact ⟨by decide, by decide, by decide⟩) (by omega))
  have B21 := Lib.hid (onto B18.out B18.out.size bx21)
  have hg18 : g < w18.heap.size := by omega
  have hh18 : g2 < w18.heap.size := by omega
  have HC21 := Lib.hid ((bx21.cell (p := ⟨g, o + 4, none⟩) hg18).trans HC18.out)
  have HD21 := Lib.hid ((bx21.cell (p := ⟨g2, o2 + 4, none⟩) hh18).trans HD18.out)
  have R21 := Lib.hid (carry bx21 R18.out)
  have hz21 := bx21.size
  clear G6 HB19 hb20 hb21 bx21 B18 HC18 HD18 R18 r21
  go_wp2_with fail
  simp only [← hw21]
  clear hw21
  refine F21.out.mono ?_
  rintro e w22 ⟨hb22, ⟨s, A22, c22, ho, rfl, hE⟩ | ⟨ho, rfl⟩⟩
  rotate_left
  · rw [fd_3] at ho; cases ho
  rw [fd_3] at ho
  cases ho
  obtain ⟨w23, hw23⟩ : ∃ w23, w23 = w22.alloc (.cells (stC ⟨0, 0, 1, 1, 0, [eN 1]⟩ (.slice A22 1 c22)) 51) := ⟨_, rfl⟩
  have hb23 : Below w22.heap.size w22 w23 := by rw [hw23]; exact (Below.refl _ _).alloc (Nat.le_refl _) _
  have r23 : row w23 w22.heap.size = some (stC ⟨0, 0, 1, 1, 0, [eN 1]⟩ (.slice A22 1 c22)) := by rw [hw23]; exact row_alloc_at _ _ _ _ rfl
  have bx23 := onto hb22 hb22.size hb23
  have B23 := Lib.hid (onto B21.out B21.out.size bx23)
  have hg21 : g < w21.heap.size := by omega
  have hh21 : g2 < w21.heap.size := by omega
  have j1 : w23.cell? ⟨g, o + 4, none⟩ = some (.int .i64 3) := (bx23.cell (p := ⟨g, o + 4, none⟩) hg21).trans HC21.out
  have j2 : w23.cell? ⟨g2, o2 + 4, none⟩ = some (.int .i64 2) := (bx23.cell (p := ⟨g2, o2 + 4, none⟩) hh21).trans HD21.out
  obtain ⟨-, -, -, -, -, k5⟩ := st_cells (carry bx23 R21.out)
  obtain ⟨-, -, l2, l3, -, l5⟩ := st_cells r23
  clear F21 hb22 hb23 hE bx23 B21 HC21 HD21 R21 r23
  go_upto_region 9 with fail
  simp only [← hw23]
  clear hw23
  go_wp2_with fail
  exact bodyPost_ret (v := .bool true) (by simp [results, Tryz.results5, go_sem]) rfl ⟨rfl, B23.out⟩
end Go.Proofs.YtdfcldomjjcidaaGreatDoor.Oct
