/- Contracts: the reference's Scan; law 11's JournalScans, JournalPuts. -/
import Derived.Test.YtdfcldomjjcidaaGreatDoorJsF
namespace Go.Proofs.YtdfcldomjjcidaaGreatDoor.Oct
open Go.ChangeShapes Go.WideShapes Go.ChangeAt Go.RowKit
set_option linter.unusedVariables false

set_option maxRecDepth 20000 in
set_option maxHeartbeats 4000000 in
theorem rscan_any (n c : Nat) (A : Option Addr) (f : Bf) (w : World) (hs : Sl w w.heap.size A n c f) (hn : n ≤ 1000000) (hc : c ≤ maxLen) :
    Calls Tryz.prog 12 #[.slice A n c] w (scP n f w) := by
  have HM := Lib.hid (make_any w)
  have HS := Lib.hid hs
  clear hs
  go_enter Tryz.func12, Tryz.ntmps12
  go_wp2_with fail
  refine HM.out.mono ?_
  rintro e w1 ⟨AK, cK, rfl, hK, hb1⟩
  have B1 := Lib.hid hb1
  have HC := Lib.hid (rscans_any n c cK A AK f w1 hK ((HS.out.below hb1).more hb1.size) hn hc)
  clear hK hb1 HM
  go_wp2_with fail
  refine HC.out.mono ?_
  rintro e w2 ⟨hb2, l, A2, c2, rfl, hS, hR⟩
  have B2 := Lib.hid (onto B1.out B1.out.size hb2)
  have HSS := Lib.hid hS
  have HR := Lib.hid hR
  clear hb2 hS hR HC
  go_wp2_with fail
  exact bodyPost_ret (v := .tuple #[.slice A2 l.length c2, .int .i64 (lnS l : Nat)]) (by simp [results, Tryz.results12, go_sem]) rfl ⟨B2.out, l, A2, c2, rfl, HSS.out, HR.out⟩
/-- members of what was read are few -/
theorem stl_few : ∀ {l : List Rc} {n : Nat} {f : Bf}, StL n f l → ∀ i, i < l.length → (gt l i).e.n ≤ 140737488355328
  | [], _, _, _, i, hi => absurd hi (by simp)
  | r :: l, n, f, h, i, hi => by
    cases i with
    | zero =>
      show r.e.n ≤ _
      have hs := h.1
      obtain ⟨h1, h2, -⟩ := pc_ok hs.ok
      by_cases hk : r.k = 2
      · have := (ent_ok (rcE_ok h2 hk).1).2.2.2.2
        omega
      · have h3 := h1.2.2
        unfold zrE at h3
        rw [if_neg hk] at h3
        have : fdB (zr r (nCn r.k)) = true := h3
        unfold fdB zr at this
        simp only [Bool.and_eq_true, beq_iff_eq] at this
        split at this
        · have := this.2.2.2.2.2.2.2; simp at this; omega
        · have := this.2.2.2.2.2.2.2; simp at this; omega
    | succ i => exact stl_few h.2 i (by simpa using hi)
set_option maxRecDepth 20000 in
set_option maxHeartbeats 4000000 in
theorem scans11_any (n c : Nat) (A : Option Addr) (f : Bf) (w : World) (ht : Tab w) (hs : Sl w w.heap.size A n c f) (hc : c ≤ maxLen) :
    Calls Tryz.prog 4 #[.slice A n c] w fun e w' => e = .returned (.bool true) ∧ Below w.heap.size w w' := by
  have H0 := Lib.hid (shown11_any w ht)
  have HT := Lib.hid ht
  have HS := Lib.hid hs
  have hnc := hs.le
  obtain ⟨m, hm, hm3⟩ : ∃ m, ((decide ((3000 : Int) < (n : Int)) = true ∧ decide (3000 < n) = true ∧ 3000 < n ∧ m = 3000) ∨ (decide ((3000 : Int) < (n : Int)) = false ∧ decide (3000 < n) = false ∧ ¬ 3000 < n ∧ m = n)) ∧ m ≤ 3000 := by
    by_cases h : 3000 < n
    · exact ⟨3000, .inl ⟨decide_eq_true (by omega), decide_eq_true h, h, rfl⟩, Nat.le_refl _⟩
    · exact ⟨n, .inr ⟨decide_eq_false (by omega), decide_eq_false h, h, rfl⟩, by omega⟩
  have hmn : m ≤ n := by omega
  have S0 := Lib.hid (hs.upto m hmn)
  have HM := Lib.hid hm
  have qu := fun (h : 3000 < n) w => run_upto (P := Tryz.prog) sli_u u8_i A n c 3000 (by omega) w
  have QU := Lib.hid qu
  clear ht hs hm qu
  go_enter Tryz.func4, Tryz.ntmps4
  go_wp2_with fail
  refine H0.out.mono ?_
  rintro e w1 ⟨rfl, hb1⟩
  have B1 := Lib.hid hb1
  have S1 := Lib.hid ((S0.out.below hb1).more hb1.size)
  have T1 := Lib.hid (HT.out.below hb1 HT.out.pos)
  have H1 := Lib.hid (scan_any m c A f w1 T1.out S1.out (by omega) hc)
  clear hb1 H0 S0
  go_upto_if 12 with fail
  go_cut [0] (fun v wx => v = .slice A m c ∧ wx = w1)
  case first =>
    rcases HM.out with ⟨e1, e2, e3, e4⟩ | ⟨e1, e2, e3, e4⟩
    · have q := QU.out e3
      have q' : ∀ w, (Instr.slice 22 (.slice A n c) none (some (.int .i64 3000)) none).run Tryz.prog w = .ok (.slice A 3000 c) w := q
      subst e4
      clear q
      go_wp2_with fail
      go_meet
      exact ⟨rfl, rfl⟩
    · have E4 := Lib.hid e4
      clear e4
      go_wp2_with fail
      go_meet
      exact ⟨by rw [E4.out], rfl⟩
  case rest =>
  obtain ⟨rfl, hwc⟩ := hcut
  rw [hwc]
  clear hwc wc HM QU
  go_wp2_with fail
  refine H1.out.mono ?_
  rintro e w2 ⟨hb2, l, A2, c2, rfl, hS2, hR2⟩
  have B2 := Lib.hid (onto B1.out B1.out.size hb2)
  have HS2 := Lib.hid hS2
  have HR2 := Lib.hid hR2
  have H2 := Lib.hid (rscan_any m c A f w2 ((S1.out.below hb2).more hb2.size) (by omega) hc)
  clear hb2 hS2 hR2 H1 S1 T1
  go_wp2_with fail
  refine H2.out.mono ?_
  rintro e w3 ⟨hb3, l', A3, c3, rfl, hS3, hR3⟩
  obtain ⟨e1, e2, e3⟩ := ScR.one HS2.out hS3
  have B3 := Lib.hid (onto B2.out B2.out.size hb3)
  have hlen : l.length ≤ 1000000000 := by have := len_le l; have := HS2.out.1.le; omega
  have H3 := Lib.hid (same11_any l.length c2 c3 A2 A3 (gt l) (gt l') w3 (HR2.out.below hb3) (by rw [e2]; exact hR3) e3 (stl_few HS2.out.1) hlen)
  rw [← e1, ← e2]
  clear hb3 hS3 hR3 e1 e2 e3 H2 hlen
  obtain ⟨N, hN⟩ : ∃ N, N = lnS l := ⟨_, rfl⟩
  rw [← hN]
  clear hN
  have hNN : ((N : Int) == (N : Int)) = true := by simp
  go_wp2_with fail
  refine H3.out.mono ?_
  rintro e w4 ⟨rfl, hb4⟩
  have B4 := Lib.hid (onto B3.out B3.out.size hb4)
  clear hb4 H3
  go_wp2_with fail
  go_ret
  exact ⟨rfl, B4.out⟩
set_option maxRecDepth 20000 in
set_option maxHeartbeats 4000000 in
theorem puts11_any (n c : Nat) (A : Option Addr) (f : Bf) (r : Rc) (D D' : Option Addr) (k k' : Nat) (w : World) (ht : Tab w) (hs : Sl w w.heap.size A n c f) (hn : n ≤ 140737488355328) (hr : EnR w r.e D k D' k') (hb : EnB r.e) :
    Calls Tryz.prog 3 #[.slice A n c, .agg (rcC r (.slice D r.e.T k) (.slice D' r.e.n k'))] w fun e w' => e = .returned (.bool true) ∧ Below w.heap.size w w' := by
  obtain ⟨w1, hw1⟩ : ∃ w1, w1 = w.alloc (.cells (rcC r (.slice D r.e.T k) (.slice D' r.e.n k')) 29) := ⟨_, rfl⟩
  have b1 : Below w.heap.size w w1 := by rw [hw1]; exact (Below.refl _ _).alloc (Nat.le_refl _) _
  have R1 := Lib.hid (show row w1 w.heap.size = some (rcC r (.slice D r.e.T k) (.slice D' r.e.n k')) by rw [hw1]; exact row_alloc_at _ _ _ _ rfl)
  have B1 := Lib.hid b1
  have T1 := Lib.hid (ht.below b1 ht.pos)
  have S1 := Lib.hid ((hs.below b1).more b1.size)
  have E1 := Lib.hid (hr.below b1)
  have HB := Lib.hid hb
  have H0 := Lib.hid (shown11_any w1 T1.out)
  clear ht hs hr hb b1
  go_enter Tryz.func3, Tryz.ntmps3
  go_upto_region 1 with fail
  simp only [← hw1]
  clear hw1
  go_wp2_with fail
  refine H0.out.mono ?_
  rintro e w2 ⟨rfl, hb2⟩
  have R2 := Lib.hid (carry hb2 R1.out)
  have B2 := Lib.hid (onto B1.out B1.out.size hb2)
  have T2 := Lib.hid (T1.out.below hb2 T1.out.pos)
  have S2 := Lib.hid ((S1.out.below hb2).more hb2.size)
  have E2 := Lib.hid (E1.out.below hb2)
  have H1 := Lib.hid (frame_any n c A f w2 T2.out S2.out hn)
  obtain ⟨E, hE⟩ : ∃ E, E = frE n := ⟨_, rfl⟩
  obtain ⟨G, hG⟩ : ∃ E, E = pcE r := ⟨_, rfl⟩
  obtain ⟨SX, hSX⟩ : ∃ S, S = wrS (frE n) (frL n) (frF n f) := ⟨_, rfl⟩
  obtain ⟨SY, hSY⟩ : ∃ S, S = wrS (pcE r) (pcL r) (pcF r) := ⟨_, rfl⟩
  have HE := Lib.hid hE
  have HG := Lib.hid hG
  have HSX := Lib.hid hSX
  have HSY := Lib.hid hSY
  clear hb2 H0 R1 B1 T1 S1 E1 hE hG hSX hSY
  go_wp2_with fail
  refine H1.out.mono ?_
  intro e w3 h3
  obtain ⟨v3, rfl, hc3, hb3⟩ := h3.uni
  rw [← HE.out]
  rw [← HSX.out] at hc3
  have R3 := Lib.hid (carry hb3 R2.out)
  have B3 := Lib.hid (onto B2.out B2.out.size hb3)
  have T3 := Lib.hid (T2.out.below hb3 T2.out.pos)
  have S3 := Lib.hid ((S2.out.below hb3).more hb3.size)
  have E3 := Lib.hid (E2.out.below hb3)
  have C3 := Lib.hid hc3
  have H2 := Lib.hid (make_any w3)
  clear h3 hc3 hb3 H1 R2 B2 T2 S2 E2
  go_wp2_with fail
  refine H2.out.mono ?_
  rintro e w4 ⟨AK, cK, rfl, hK, hb4⟩
  have R4 := Lib.hid (carry hb4 R3.out)
  have B4 := Lib.hid (onto B3.out B3.out.size hb4)
  have T4 := Lib.hid (T3.out.below hb4 T3.out.pos)
  have S4 := Lib.hid ((S3.out.below hb4).more hb4.size)
  have E4 := Lib.hid (E3.out.below hb4)
  have C4 := Lib.hid (C3.out.below hb4)
  have H3 := Lib.hid (rframes_any n c cK A AK f w4 S4.out hK)
  clear hK hb4 H2 R3 B3 T3 S3 E3 C3
  go_wp2_with fail
  refine H3.out.mono ?_
  intro e w5 h5
  obtain ⟨v5, rfl, hc5, hb5⟩ := h5.uni
  rw [← HE.out]
  rw [← HSX.out] at hc5
  have R5 := Lib.hid (carry hb5 R4.out)
  have B5 := Lib.hid (onto B4.out B4.out.size hb5)
  have T5 := Lib.hid (T4.out.below hb5 T4.out.pos)
  have E5 := Lib.hid (E4.out.below hb5)
  have C5 := Lib.hid (C4.out.below hb5)
  have D5 := Lib.hid hc5
  have H4 := Lib.hid (put_rec r D D' k k' w5 T5.out E5.out (fun _ => HB.out))
  have r5 := R5.out
  clear h5 hc5 hb5 H3 R4 B4 T4 S4 E4 C4
  go_wp2_with fail
  refine H4.out.mono ?_
  intro e w6 h6
  obtain ⟨v6, rfl, hc6, hb6⟩ := h6.uni
  rw [← HG.out]
  rw [← HSY.out] at hc6
  have R6 := Lib.hid (carry hb6 R5.out)
  have B6 := Lib.hid (onto B5.out B5.out.size hb6)
  have E6 := Lib.hid (E5.out.below hb6)
  have C6 := Lib.hid (C5.out.below hb6)
  have D6 := Lib.hid (D5.out.below hb6)
  have F6 := Lib.hid hc6
  have H5 := Lib.hid (rput_rec r D D' k k' w6 E6.out (fun _ => HB.out))
  have r6 := R6.out
  clear h6 hc6 hb6 H4 r5 R5 B5 T5 E5 C5 D5
  go_wp2_with fail
  refine H5.out.mono ?_
  intro e w7 h7
  obtain ⟨v7, rfl, hc7, hb7⟩ := h7.uni
  rw [← HG.out]
  rw [← HSY.out] at hc7
  have B7 := Lib.hid (onto B6.out B6.out.size hb7)
  have cv1 := (C6.out.below hb7).self
  have cv2 := (D6.out.below hb7).self
  have cv3 := (F6.out.below hb7).self
  have cv4 := hc7.self
  clear h7 hc7 hb7 H5 r6 R6 B6 E6 C6 D6 F6
  have hE : ((E : Int) == (E : Int)) = true := by simp
  have hG : ((G : Int) == (G : Int)) = true := by simp
  go_wp2_with fail
  go_ret
  exact ⟨rfl, B7.out⟩
end Go.Proofs.YtdfcldomjjcidaaGreatDoor.Oct
