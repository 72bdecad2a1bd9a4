/- Contract: law 11's JournalFolds. -/
import Derived.Test.YtdfcldomjjcidaaDoorJrZc
import Derived.Test.YtdfcldomjjcidaaDoorJrUc
namespace Go.Proofs.YtdfcldomjjcidaaDoor.Oct
open Go.ChangeShapes Go.WideShapes Go.ChangeAt Go.RowKit
set_option linter.unusedVariables false

theorem stp_mem {s s' : St} {r : Rc} (h : stp s r = some s') : ∀ e, e ∈ s'.l → e ∈ s.l ∨ e = r.e := by
  intro e he
  unfold stp at h
  split at h
  · cases h; exact .inl he
  split at h
  · unfold layS at h
    split at h
    · cases h; exact .inl he
    split at h
    · cases h
    · cases h
      rcases List.mem_append.1 he with he | he
      · exact .inl (List.mem_of_mem_take he)
      · exact .inr (by simpa using he)
  split at h
  · cases h
    unfold mvS at he
    split at he
    · exact .inl he
    · have he' : e ∈ (if mvT s r.i r.t then s.l.drop (mvC s r.i) else []) := he
      split at he'
      · exact .inl (List.mem_of_mem_drop he')
      · cases he'
  · cases h; exact .inl he
theorem fd_mem (R : Nat → Rc) : ∀ (j : Nat) (s : St), fdS R j = some s → (∀ e, e ∈ s.l → ∃ i, i < j ∧ e = (R i).e) ∧ s.l.length ≤ j
  | 0, s, h => by cases h; exact ⟨fun e he => (by cases he), Nat.le_refl _⟩
  | j + 1, s, h => by
    rw [fdS] at h
    cases hq : fdS R j with
    | none => rw [hq] at h; cases h
    | some s0 =>
      rw [hq] at h
      have h' : stp s0 (R j) = some s := h
      obtain ⟨m1, m2⟩ := fd_mem R j s0 hq
      refine ⟨fun e he => ?_, by have := stp_len h'; omega⟩
      rcases stp_mem h' e he with he | he
      · obtain ⟨i, hi, e'⟩ := m1 e he
        exact ⟨i, by omega, e'⟩
      · exact ⟨j, by omega, he⟩
set_option maxRecDepth 20000 in
set_option maxHeartbeats 4000000 in
theorem folds11_any (n c : Nat) (A : Option Addr) (R : Nat → Rc) (w : World) (ht : Tab w) (hR : RcS w A n c R) (hB : ∀ i, i < n → (R i).e.T ≤ 140737488355328 ∧ (R i).e.n * 8 ≤ 140737488355328) :
    Calls Tryd.prog 3 #[.slice A n c] w fun e w' => e = .returned (.bool true) ∧ Below w.heap.size w w' := by
  have H0 := Lib.hid (shown11_any w ht)
  have HR := Lib.hid hR
  have HB := Lib.hid hB
  have hle := hR.le
  clear ht hR hB
  go_enter Tryd.func3, Tryd.ntmps3
  go_wp2_with fail
  refine H0.out.mono ?_
  rintro e w1 ⟨rfl, hb1⟩
  have B1 := Lib.hid hb1
  have HF := Lib.hid (few11_any n c A w1 hle)
  clear H0 hb1
  go_wp2_with fail
  refine HF.out.mono ?_
  rintro e w2 ⟨rfl, rfl⟩
  obtain ⟨m, hm⟩ : ∃ m, m = min n 40 := ⟨_, rfl⟩
  have hmn : m ≤ n := by omega
  have hm40 : m ≤ 40 := by omega
  rw [← hm]
  clear hm HF
  go_upto_region 4 with fail
  go_loopw [4] (fun iv wr => ∃ j : Nat, j ≤ m ∧ iv = .int .i64 (j : Int) ∧ Below w.heap.size w wr ∧ ∀ i, i < j → -1099511627776 ≤ (R i).i ∧ (R i).i ≤ 1099511627776) (fun iv _ => m - (intOf iv).toNat)
  case atStart => exact ⟨0, by omega, rfl, B1.out, fun i hi => absurd hi (by omega)⟩
  case round =>
    obtain ⟨j, hj, rfl, hb, hin⟩ := hrel
    obtain ⟨wo, rfl⟩ : ∃ wo : World, wo = wr := ⟨_, rfl⟩
    have HBO := Lib.hid hb
    have HIN := Lib.hid hin
    clear hb hin
    by_cases hlt : j < m
    · have d1 : decide ((j : Int) < (m : Int)) = true := decide_eq_true (by omega)
      have d2 : decide (j < m) = true := decide_eq_true hlt
      have d3 : 0 ≤ (j : Int) ∧ (j : Int) < (m : Int) := by omega
      have d4 : IntKind.i64.wrap ((j : Int) + 1) = (j : Int) + 1 := by rw [IntKind.wrap_i64]; omega
      obtain ⟨g, o, D, k, D', k', hA, hg, hc, he⟩ := (HR.out.below HBO.out).at_ j (by omega)
      subst hA
      have q1 : wo.cell? ⟨g, o + j * 10 + 1, none⟩ = some (.int .i64 (R j).i) := by rw [hc 1 (by omega)]; unfold rcC; rfl
      clear hc he
      by_cases h1 : (R j).i < -1099511627776
      · have e1 : decide ((R j).i < -1099511627776) = true := decide_eq_true h1
        go_wp2_with fail
        exact bodyPost_ret (v := .bool true) (by simp [results, Tryd.results3, go_sem]) rfl ⟨rfl, HBO.out⟩
      have e1 : decide ((R j).i < -1099511627776) = false := decide_eq_false h1
      by_cases h2 : 1099511627776 < (R j).i
      · have e2 : decide (1099511627776 < (R j).i) = true := decide_eq_true h2
        go_wp2_with fail
        exact bodyPost_ret (v := .bool true) (by simp [results, Tryd.results3, go_sem]) rfl ⟨rfl, HBO.out⟩
      have e2 : decide (1099511627776 < (R j).i) = false := decide_eq_false h2
      have HIN2 := Lib.hid (show ∀ i, i < j + 1 → -1099511627776 ≤ (R i).i ∧ (R i).i ≤ 1099511627776 from fun i hi => by
        by_cases e : i = j
        · subst e; omega
        · exact HIN.out i (by omega))
      clear h1 h2
      go_wp2_with fail
      exact ⟨⟨j + 1, by omega, rfl, HBO.out, HIN2.out⟩, by simp [intOf]; omega⟩
    · obtain rfl : j = m := by omega
      have hbm : ∀ i, i < j → RcB (R i) := fun i hi => ⟨by have := HIN.out i hi; omega, (HB.out i (by omega)).1, (HB.out i (by omega)).2⟩
      have hrs := (HR.out.below HBO.out).upto j hmn
      have HF1 := Lib.hid (fold_any j c A R wo hrs hbm (by omega))
      have HRS := Lib.hid hrs
      have HBM := Lib.hid hbm
      clear hlt hj hrs hbm
      go_wp2_with fail
      refine HF1.out.mono ?_
      rintro e w3 ⟨hb3, ⟨s, A3, c3, ho, rfl, hE⟩ | ⟨ho, rfl⟩⟩
      · obtain ⟨hmem, hll⟩ := fd_mem R j s ho
        have HMEM := Lib.hid (show ∀ i, i < s.l.length → (ge s.l i).n ≤ 140737488355328 from fun i hi => by
          obtain ⟨z, hz, e⟩ := hmem _ (List.getElem_mem hi)
          rw [show ge s.l i = s.l[i] by simp [ge, hi], e]
          have := (HB.out z (by omega)).2
          omega)
        obtain ⟨w4, hw4⟩ : ∃ w4, w4 = w3.alloc (.cells (stC s (.slice A3 s.l.length c3)) 35) := ⟨_, rfl⟩
        have hb4 : Below w3.heap.size w3 w4 := by rw [hw4]; exact (Below.refl _ _).alloc (Nat.le_refl _) _
        have r4 : row w4 w3.heap.size = some (stC s (.slice A3 s.l.length c3)) := by rw [hw4]; exact row_alloc_at _ _ _ _ rfl
        have bx := onto hb3 hb3.size hb4
        have HF2 := Lib.hid (rfold_any j c A R w4 (HRS.out.below bx) HBM.out (by omega))
        have B4 := Lib.hid (onto HBO.out HBO.out.size bx)
        have R4 := Lib.hid r4
        have HE4 := Lib.hid ((hE.low (Nat.zero_le _)).below hb4)
        have HO := Lib.hid ho
        clear HF1 hb3 hb4 r4 bx hE hmem ho
        go_upto_region 9 with fail
        simp only [← hw4]
        clear hw4
        go_wp2_with fail
        refine HF2.out.mono ?_
        rintro e w5 ⟨hb5, ⟨s', A5, c5, ho', rfl, hE'⟩ | ⟨ho', rfl⟩⟩
        rotate_left
        · rw [HO.out] at ho'; cases ho'
        rw [HO.out] at ho'
        cases ho'
        obtain ⟨w6, hw6⟩ : ∃ w6, w6 = w5.alloc (.cells (stC s (.slice A5 s.l.length c5)) 39) := ⟨_, rfl⟩
        have hb6 : Below w5.heap.size w5 w6 := by rw [hw6]; exact (Below.refl _ _).alloc (Nat.le_refl _) _
        have r6 : row w6 w5.heap.size = some (stC s (.slice A5 s.l.length c5)) := by rw [hw6]; exact row_alloc_at _ _ _ _ rfl
        have bx := onto hb5 hb5.size hb6
        have R6 := Lib.hid (carry bx R4.out)
        have Q6 := Lib.hid r6
        have B6 := Lib.hid (onto B4.out B4.out.size bx)
        have HS := Lib.hid (sameEs_any 0 s.l.length c3 c5 A3 A5 (ge s.l) (ge s.l) w6 (HE4.out.below bx) (hE'.below hb6) (fun _ _ => enEq.refl _) HMEM.out (by omega))
        obtain ⟨-, -, -, -, -, a5⟩ := st_cells R6.out
        obtain ⟨-, -, -, -, -, b5⟩ := st_cells r6
        clear HF2 hb5 hb6 r6 bx hE' HE4 R4 B4
        go_upto_region 10 with fail
        simp only [← hw6]
        clear hw6
        go_wp2_with fail
        refine HS.out.mono ?_
        rintro e w7 ⟨rfl, hb7⟩
        obtain ⟨p0, p1, p2, p3, p4, p5⟩ := st_cells (carry hb7 R6.out)
        obtain ⟨o0, o1, o2, o3, o4, o5⟩ := st_cells (carry hb7 Q6.out)
        have B7 := Lib.hid (onto B6.out B6.out.size hb7)
        clear HS hb7 a5 b5
        go_wp2_with fail
        exact bodyPost_ret (v := .bool true) (by simp [results, Tryd.results3, go_sem]) rfl ⟨rfl, B7.out⟩
      · obtain ⟨w4, hw4⟩ : ∃ w4, w4 = w3.alloc (.cells (stC .zero nilS) 35) := ⟨_, rfl⟩
        have hb4 : Below w3.heap.size w3 w4 := by rw [hw4]; exact (Below.refl _ _).alloc (Nat.le_refl _) _
        have r4 : row w4 w3.heap.size = some (stC .zero nilS) := by rw [hw4]; exact row_alloc_at _ _ _ _ rfl
        have bx := onto hb3 hb3.size hb4
        have HF2 := Lib.hid (rfold_any j c A R w4 (HRS.out.below bx) HBM.out (by omega))
        have B4 := Lib.hid (onto HBO.out HBO.out.size bx)
        have R4 := Lib.hid r4
        have HO := Lib.hid ho
        clear HF1 hb3 hb4 r4 bx ho
        go_upto_region 9 with fail
        simp only [← hw4]
        clear hw4
        go_wp2_with fail
        refine HF2.out.mono ?_
        rintro e w5 ⟨hb5, ⟨s', A5, c5, ho', rfl, hE'⟩ | ⟨ho', rfl⟩⟩
        · rw [HO.out] at ho'; cases ho'
        obtain ⟨w6, hw6⟩ : ∃ w6, w6 = w5.alloc (.cells (stC .zero nilS) 39) := ⟨_, rfl⟩
        have hb6 : Below w5.heap.size w5 w6 := by rw [hw6]; exact (Below.refl _ _).alloc (Nat.le_refl _) _
        have r6 : row w6 w5.heap.size = some (stC .zero nilS) := by rw [hw6]; exact row_alloc_at _ _ _ _ rfl
        have bx := onto hb5 hb5.size hb6
        have R6 := Lib.hid (carry bx R4.out)
        have Q6 := Lib.hid r6
        have B6 := Lib.hid (onto B4.out B4.out.size bx)
        have hn0 : EnS 0 w6 none 0 0 (ge []) := ⟨Nat.le_refl _, fun i hi => absurd hi (by omega)⟩
        have HS := Lib.hid (sameEs_any 0 0 0 0 none none (ge []) (ge []) w6 hn0 hn0 (fun _ _ => enEq.refl _) (fun i hi => absurd hi (by omega)) (by omega))
        obtain ⟨-, -, -, -, -, a5⟩ := st_cells R6.out
        obtain ⟨-, -, -, -, -, b5⟩ := st_cells r6
        clear HF2 hb5 hb6 r6 bx R4 B4 ho' hn0
        go_upto_region 10 with fail
        simp only [← hw6]
        clear hw6
        go_wp2_with fail
        refine HS.out.mono ?_
        rintro e w7 ⟨rfl, hb7⟩
        obtain ⟨p0, p1, p2, p3, p4, p5⟩ := st_cells (carry hb7 R6.out)
        obtain ⟨o0, o1, o2, o3, o4, o5⟩ := st_cells (carry hb7 Q6.out)
        have B7 := Lib.hid (onto B6.out B6.out.size hb7)
        clear HS hb7 a5 b5
        go_wp2_with fail
        exact bodyPost_ret (v := .bool true) (by simp [results, Tryd.results3, go_sem]) rfl ⟨rfl, B7.out⟩
end Go.Proofs.YtdfcldomjjcidaaDoor.Oct
