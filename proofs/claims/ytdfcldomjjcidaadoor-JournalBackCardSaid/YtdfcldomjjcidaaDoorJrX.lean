/- Contract: law 11's JournalBases. -/
import Derived.Test.YtdfcldomjjcidaaDoorJrW
namespace Go.Proofs.YtdfcldomjjcidaaDoor.Oct
open Go.ChangeShapes Go.WideShapes Go.ChangeAt Go.RowKit
set_option linter.unusedVariables false

theorem rcB_rows (x : Nat → Int) (j : Nat) (l : List Rc) (hj : j ≤ 1000) (hl : ∀ r, r ∈ l → RcB r) : ∀ i, i < j + l.length → RcB (gt (rws x j ++ l) i) := fun i hi => by
  by_cases h : i < j
  · rw [gt_rws x j l h]
    exact rcB_ent _ _ (by omega)
  · obtain ⟨d, rfl⟩ : ∃ d, i = j + d := ⟨i - j, by omega⟩
    rw [gt_rws_at]
    have hd : d < l.length := by omega
    rw [show gt l d = l[d] by simp [gt, hd]]
    exact hl _ (List.getElem_mem hd)
theorem xor1_ne (v : Int) : bits .xor .i64 v 1 ≠ v := by
  intro h
  have h' : IntKind.i64.wrap ((BitVec.ofInt 64 v ^^^ BitVec.ofInt 64 1).toNat : Int) = v := h
  rw [IntKind.wrap_i64] at h'
  obtain ⟨B, hB⟩ : ∃ B, B = BitVec.ofInt 64 v := ⟨_, rfl⟩
  have e1 : B.toNat = (v % 18446744073709551616).toNat := by rw [hB, BitVec.toNat_ofInt]; rfl
  rw [← hB] at h'
  have e2 : (B ^^^ BitVec.ofInt 64 1).toNat = B.toNat := by have := (B ^^^ BitVec.ofInt 64 1).isLt; omega
  have e3 : B ^^^ BitVec.ofInt 64 1 = B := BitVec.eq_of_toNat_eq e2
  have e4 : B ^^^ (B ^^^ BitVec.ofInt 64 1) = B ^^^ B := by rw [e3]
  rw [← BitVec.xor_assoc, BitVec.xor_self, BitVec.zero_xor] at e4
  exact absurd e4 (by decide)
set_option maxRecDepth 20000 in
set_option maxHeartbeats 4000000 in
theorem bases11_any (x : Nat → Int) (n c : Nat) (A : Option Addr) (at_ : Int) (b : Bool) (w : World) (ht : Tab w) (hs : SlG w w.heap.size A n c (iV x)) (hx : ∀ j, j < n → -9223372036854775808 ≤ x j ∧ x j < 9223372036854775808) (ha : -9223372036854775808 ≤ at_ ∧ at_ < 9223372036854775808) :
    Calls Tryd.prog 6 #[.slice A n c, .int .i64 at_, .bool b] w fun e w' => e = .returned (.bool true) ∧ Below w.heap.size w w' := by
  have H0 := Lib.hid (shown11_any w ht)
  have HS := Lib.hid hs
  have HX := Lib.hid hx
  clear ht hs hx
  go_enter Tryd.func6, Tryd.ntmps6
  go_wp2_with fail
  refine H0.out.mono ?_
  rintro e w1 ⟨rfl, hb1⟩
  obtain ⟨w2, hw2⟩ : ∃ w2, w2 = w1.alloc (.cells #[] 32) := ⟨_, rfl⟩
  have hb2 : Below w1.heap.size w1 w2 := by rw [hw2]; exact (Below.refl _ _).alloc (Nat.le_refl _) _
  have hz2 : w1.heap.size < w2.heap.size := by rw [hw2]; simp
  have B2 := Lib.hid (onto hb1 hb1.size hb2)
  obtain ⟨V, hV⟩ : ∃ V : Option Addr, V = some ⟨w1.heap.size, 0, none⟩ := ⟨_, rfl⟩
  have hz1 := hb1.size
  clear H0 hb1 hb2
  go_upto_region 4 with fail
  simp only [← hw2, ← hV]
  clear hw2 hV hz2
  obtain ⟨m, hm⟩ : ∃ m, m = min n 30 := ⟨_, rfl⟩
  have hmn : m ≤ n := by omega
  have hm30 : m ≤ 30 := by omega
  have hmm : ∀ j : Nat, j ≤ m → (j < m ↔ j < n ∧ j < 30) := fun j hj => by omega
  have HMM := Lib.hid hmm
  clear hm hmm
  go_loopw [9, 8] (fun iv v wr => ∃ (j c : Nat) (A : Option Addr) (T : Mk), j ≤ m ∧ iv = .int .i64 (j : Int) ∧ v = .slice A j c ∧ ElAt 10 rcEl T wr 1 A c (rws x j) ∧ Below w.heap.size w wr ∧ (∀ k, k < w.heap.size → T k = 0)) (fun iv _ _ => m - (intOf iv).toNat)
  case atStart => exact ⟨0, 0, _, fun _ => 0, by omega, rfl, rfl, ElAt.empty _ _ _ _, B2.out, fun _ _ => rfl⟩
  case round =>
    obtain ⟨j, c2, A2, T, hj, rfl, rfl, hel, hb, hT⟩ := hrel
    obtain ⟨wo, rfl⟩ : ∃ wo : World, wo = wr := ⟨_, rfl⟩
    have HEL := Lib.hid hel
    have HB := Lib.hid hb
    have HT := Lib.hid hT
    clear hel hb hT
    by_cases hlt : j < m
    · have d1 : decide ((j : Int) < (n : Int)) = true := by simp; omega
      have d2 : decide ((j : Int) < 30) = true := by simp; omega
      have d3 : 0 ≤ (j : Int) ∧ (j : Int) < (n : Int) := by omega
      have hw1 : IntKind.i64.wrap ((j : Int) + 1) = (j : Int) + 1 := by rw [IntKind.wrap_i64]; omega
      obtain ⟨g, o, hA, hg, hc⟩ := HS.out.at_ (by omega : 0 < n)
      subst hA
      have q1 : wo.cell? ⟨g, o + j, none⟩ = some (.int .i64 (x j)) := by rw [HB.out.cell (p := ⟨g, o + j, none⟩) hg]; exact hc j (by omega)
      have E1 := Lib.hid (ent11_any ((j : Int) + 1) (x j) wo)
      clear hc
      go_wp2_with fail
      refine E1.out.mono ?_
      rintro e w3 ⟨rfl, hb3⟩
      obtain ⟨w4, hw4⟩ : ∃ w4, w4 = w3.alloc (.cells (rcC (rEnt ((j : Int) + 1) (x j)) nilS nilS) 32) := ⟨_, rfl⟩
      have hb4 : Below w3.heap.size w3 w4 := by rw [hw4]; exact (Below.refl _ _).alloc (Nat.le_refl _) _
      have r4 : row w4 w3.heap.size = some ((rcC (rEnt ((j : Int) + 1) (x j)) nilS nilS).toList).toArray := by rw [hw4, Array.toArray_toList]; exact row_alloc_at _ _ _ _ rfl
      have bx := onto hb3 hb3.size hb4
      have F4 : Fr T T (fun _ => False) wo w4 := Fr.calm bx fun _ _ => rfl
      have EL4 := Lib.hid (HEL.out.fr rcEl_ok F4 (fun e => e) (fun e => e))
      have B4 := Lib.hid (onto HB.out HB.out.size bx)
      have R4 := Lib.hid r4
      have hlen := rws_len x j
      clear E1 hb3 hb4 r4 bx F4 HEL q1
      go_wp2_with (at_builtin; simp only [← hw4]; refine wpl_appAt rcEl_ok rfl (.tmp 28) (.tmp 36) rfl rcs_u rc_info (rc_size _ _ _) (by decide) (by decide) EL4.out R4.out (rcEl_bare ⟨rfl, rfl⟩) (by omega) (by decide) (by simp [Act.eval, hlen]) (by simp [Act.eval]) ?_; intro A5 c5 w5 hel5 hf5)
      refine ⟨⟨j + 1, c5, A5, _, by omega, rfl, rfl, by rw [rws_succ]; exact hel5, B4.out.trans (hf5.below B4.out.size fun k hk => by rw [HT.out k hk]; decide), fun k hk => by rw [hf5.tag k (by have := B4.out.size; omega)]; exact HT.out k hk⟩, ?_⟩
      simp [intOf]
      omega
    · obtain rfl : j = m := by omega
      clear hlt hj
      have hexit : ((decide ((j : Int) < (n : Int)) = true ∧ decide (j < n) = true) ∧ decide ((j : Int) < 30) = false ∧ decide (j < 30) = false) ∨ (decide ((j : Int) < (n : Int)) = false ∧ decide (j < n) = false) := by
        have := HMM.out j (Nat.le_refl _)
        by_cases e : j < n
        · exact .inl ⟨⟨decide_eq_true (by omega), decide_eq_true e⟩, decide_eq_false (by omega), decide_eq_false (by omega)⟩
        · exact .inr ⟨decide_eq_false (by omega), decide_eq_false e⟩
      clear HMM
      by_cases h0 : j = 0
      · have e0 : ((j : Int) == 0) = true := by simp; omega
        clear h0
        rcases hexit with ⟨⟨d1, d2⟩, d3, d4⟩ | ⟨d1, d2⟩
        · go_wp2_with fail
          exact bodyPost_ret (v := .bool true) (by simp [results, Tryd.results6, go_sem]) rfl ⟨rfl, HB.out⟩
        · go_wp2_with fail
          exact bodyPost_ret (v := .bool true) (by simp [results, Tryd.results6, go_sem]) rfl ⟨rfl, HB.out⟩
      have e0 : ((j : Int) == 0) = false := by simp; omega
      obtain ⟨p, hp⟩ : ∃ p : Nat, (decide (at_ < 0) = true ∧ IntKind.i64.wrap (at_ + 1) = at_ + 1 ∧ -(at_ + 1) = (p : Int) ∧ IntKind.i64.wrap (p : Int) = (p : Int)) ∨ (decide (at_ < 0) = false ∧ at_ = (p : Int)) := by
        by_cases e : at_ < 0
        · exact ⟨(-(at_ + 1)).toNat, .inl ⟨decide_eq_true e, by rw [IntKind.wrap_i64]; omega, by omega, by rw [IntKind.wrap_i64]; omega⟩⟩
        · exact ⟨at_.toNat, .inr ⟨decide_eq_false e, by omega⟩⟩
      clear ha
      obtain ⟨k, hk⟩ : ∃ k, k = p % j := ⟨_, rfl⟩
      have hkj : k < j := by rw [hk]; exact Nat.mod_lt _ (by omega)
      have hkr : (p : Int) % (j : Int) = (k : Int) := by rw [hk]; rfl
      have hk' : (p % j) = k := hk.symm
      obtain ⟨g, o, hA, hg, hc⟩ := HS.out.at_ (by omega : 0 < n)
      subst hA
      have q1 : wo.cell? ⟨g, o + k, none⟩ = some (.int .i64 (x k)) := by rw [HB.out.cell (p := ⟨g, o + k, none⟩) hg]; exact hc k (by omega)
      have d5 : 0 ≤ (k : Int) ∧ (k : Int) < (n : Int) := by omega
      have d6 : IntKind.i64.wrap ((j : Int) - (k : Int)) = ((j - k : Nat) : Int) := by rw [IntKind.wrap_i64]; omega
      have d7 : IntKind.i64.wrap (((j - k : Nat) : Int) - 1) = ((j - k - 1 : Nat) : Int) := by rw [IntKind.wrap_i64]; omega
      have d8 : IntKind.i64.wrap ((k : Int) + 1) = (k : Int) + 1 := by rw [IntKind.wrap_i64]; omega
      obtain ⟨Y, hY⟩ : ∃ Y : Int, Y = (if b = true then x k else bits .xor .i64 (x k) 1) := ⟨_, rfl⟩
      obtain ⟨L, hL⟩ : ∃ L : List En, L = (if x k = Y then (ensL x j).drop (k + 1) else []) := ⟨_, rfl⟩
      have hLl : L.length = if b = true then j - k - 1 else 0 := by
        cases b
        · rw [hL, if_neg (by rw [hY, if_neg (by decide)]; exact fun e => xor1_ne (x k) e.symm)]; rfl
        · rw [hL, if_pos (by rw [hY, if_pos rfl]), left_len, if_pos rfl]
      have hfd := fd_bases x j k Y hkj
      rw [← hL] at hfd
      have HFD := Lib.hid hfd
      have hln := rws_len x j
      obtain ⟨w4, hw4⟩ : ∃ w4, w4 = wo.alloc (.cells (litC [rBase ((k : Int) + 1) Y 1, rBase (k : Int) 77 2, rHard 5 2]).toArray 32) := ⟨_, rfl⟩
      have hb4 : Below wo.heap.size wo w4 := by rw [hw4]; exact (Below.refl _ _).alloc (Nat.le_refl _) _
      have r4 : row w4 wo.heap.size = some (litC [rBase ((k : Int) + 1) Y 1, rBase (k : Int) 77 2, rHard 5 2]).toArray := by rw [hw4]; exact row_alloc_at _ _ _ _ rfl
      have F4 : Fr T T (fun _ => False) wo w4 := Fr.calm hb4 fun _ _ => rfl
      have EL4 := Lib.hid (HEL.out.fr rcEl_ok F4 (fun e => e) (fun e => e))
      have B4 := Lib.hid (onto HB.out HB.out.size hb4)
      have R4 := Lib.hid r4
      have HE4 := Lib.hid (show ∀ i (h : i < [rBase ((k : Int) + 1) Y 1, rBase (k : Int) 77 2, rHard 5 2].length), ∃ ws, rcEl T w4 [rBase ((k : Int) + 1) Y 1, rBase (k : Int) 77 2, rHard 5 2][i] ws ∧ ∀ z, z < 10 → (litC [rBase ((k : Int) + 1) Y 1, rBase (k : Int) 77 2, rHard 5 2])[i * 10 + z]? = ws[z]? from fun i hi => litC_els (fun r hr => by
        simp only [List.mem_cons, List.not_mem_nil, or_false] at hr
        rcases hr with rfl | rfl | rfl <;> exact ⟨rfl, rfl⟩) i hi)
      clear hk hc hL hfd hb4 r4 F4 HEL
      rcases hexit with ⟨⟨d1, d2⟩, d3, d4⟩ | ⟨d1, d2⟩ <;> rcases hp with ⟨y1, y2, y3, y4⟩ | ⟨y1, rfl⟩ <;> cases b
      all_goals simp only [if_true, Bool.false_eq_true, if_false] at hY hLl
      all_goals go_upto_region 18 with fail
      all_goals rw [← hY]
      all_goals have HY := Lib.hid hY
      all_goals clear hY q1
      all_goals go_wp2_with (at_builtin; simp only [← hw4]; refine wpl_appAts rcEl_ok rfl (.tmp 63) (.tmp 72) rfl rcs_u rc_info (rc_size _ _ _) (by decide) (by decide) EL4.out R4.out (litC_len _) HE4.out (Nat.succ_pos _) (litC_one _) (by rw [hln]; show j + 3 ≤ _; omega) (by decide) (by simp [Act.eval, hln]) (by simp [Act.eval]) ?_; intro A5 c5 w5 hel5 hf5)
      all_goals
        have HLl := Lib.hid hLl
        clear hLl
        have hrs := hel5.rcs
        have hl3 : (rws x j ++ [rBase ((k : Int) + 1) Y 1, rBase (k : Int) 77 2, rHard 5 2]).length = j + 3 := by rw [List.length_append, hln]; rfl
        rw [hl3] at hrs
        have HF := Lib.hid (fold_any (j + 3) c5 A5 _ w5 hrs (rcB_rows x j [rBase ((k : Int) + 1) Y 1, rBase (k : Int) 77 2, rHard 5 2] (by omega) fun r hr => by
          simp only [List.mem_cons, List.not_mem_nil, or_false] at hr
          rcases hr with rfl | rfl | rfl
          · exact rcB_base _ _ _ (by omega)
          · exact rcB_base _ _ _ (by omega)
          · exact rcB_hard _ _) (by omega))
        have B5 := Lib.hid (B4.out.trans (hf5.below B4.out.size fun k hk => by rw [HT.out k hk]; decide))
        clear hel5 hf5 hrs hl3
        refine HF.out.mono ?_
        rintro e w6 ⟨hb6, ⟨s, A6, c6, ho, rfl, hE⟩ | ⟨ho, rfl⟩⟩
        rotate_left
        · rw [HFD.out] at ho; cases ho
        rw [HFD.out] at ho
        cases ho
        obtain ⟨w7, hw7⟩ : ∃ w7, w7 = w6.alloc (.cells (stC ⟨5, 2, (k : Int) + 1, Y, 1, L⟩ (.slice A6 L.length c6)) 35) := ⟨_, rfl⟩
        have hb7 : Below w6.heap.size w6 w7 := by rw [hw7]; exact (Below.refl _ _).alloc (Nat.le_refl _) _
        have r7 : row w7 w6.heap.size = some (stC ⟨5, 2, (k : Int) + 1, Y, 1, L⟩ (.slice A6 L.length c6)) := by rw [hw7]; exact row_alloc_at _ _ _ _ rfl
        have B7 := Lib.hid (onto (onto B5.out B5.out.size hb6) (by have := B5.out.size; have := hb6.size; omega) hb7)
        obtain ⟨l0, l1, l2, l3, l4, l5⟩ := st_cells r7
        clear HF hb6 hE hb7 r7 B5
        go_upto_region 20 with fail
        simp only [← hw7]
        clear hw7
        have hLl := HLl.out
        go_wp2_with fail
        exact bodyPost_ret (v := .bool true) (by simp [results, Tryd.results6, go_sem]) rfl ⟨rfl, B7.out⟩
end Go.Proofs.YtdfcldomjjcidaaDoor.Oct
