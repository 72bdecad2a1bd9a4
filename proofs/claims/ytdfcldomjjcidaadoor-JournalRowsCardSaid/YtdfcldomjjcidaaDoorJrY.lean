/- Contract: law 11's JournalRows. -/
import Derived.Test.YtdfcldomjjcidaaDoorJrUc
namespace Go.Proofs.YtdfcldomjjcidaaDoor.Oct
open Go.ChangeShapes Go.WideShapes Go.ChangeAt Go.RowKit
set_option linter.unusedVariables false

set_option maxRecDepth 20000 in
set_option maxHeartbeats 4000000 in
theorem rows11_any (x : Nat → Int) (n c : Nat) (A : Option Addr) (at_ y : Int) (w : World) (ht : Tab w) (hs : SlG w w.heap.size A n c (iV x)) (hx : ∀ j, j < n → -9223372036854775808 ≤ x j ∧ x j < 9223372036854775808) (ha : -9223372036854775808 ≤ at_ ∧ at_ < 9223372036854775808) :
    Calls Tryd.prog 5 #[.slice A n c, .int .i64 at_, .int .i64 y] w fun e w' => e = .returned (.bool true) ∧ Below w.heap.size w w' := by
  have H0 := Lib.hid (shown11_any w ht)
  have HS := Lib.hid hs
  have HX := Lib.hid hx
  clear ht hs hx
  go_enter Tryd.func5, Tryd.ntmps5
  go_wp2_with fail
  refine H0.out.mono ?_
  rintro e w1 ⟨rfl, hb1⟩
  obtain ⟨w2, hw2⟩ : ∃ w2, w2 = w1.alloc (.cells #[] 32) := ⟨_, rfl⟩
  have hb2 : Below w1.heap.size w1 w2 := by rw [hw2]; exact (Below.refl _ _).alloc (Nat.le_refl _) _
  have hz2 : w1.heap.size < w2.heap.size := by rw [hw2]; simp
  have B2 := Lib.hid (onto hb1 hb1.size hb2)
  obtain ⟨V, hV⟩ : ∃ V : Option Addr, V = some ⟨w1.heap.size, 0, none⟩ := ⟨_, rfl⟩
  have hz1 := hb1.size
  clear H0 hb1 hb2
  go_upto_region 4 with fail
  simp only [← hw2, ← hV]
  clear hw2 hV hz2
  obtain ⟨m, hm⟩ : ∃ m, m = min n 30 := ⟨_, rfl⟩
  have hmn : m ≤ n := by omega
  have hm30 : m ≤ 30 := by omega
  have hmm : ∀ j : Nat, j ≤ m → (j < m ↔ j < n ∧ j < 30) := fun j hj => by omega
  have HMM := Lib.hid hmm
  clear hm hmm
  go_loopw [9, 8] (fun iv v wr => ∃ (j c : Nat) (A : Option Addr) (T : Mk), j ≤ m ∧ iv = .int .i64 (j : Int) ∧ v = .slice A j c ∧ ElAt 10 rcEl T wr 1 A c (rws x j) ∧ Below w.heap.size w wr ∧ (∀ k, k < w.heap.size → T k = 0)) (fun iv _ _ => m - (intOf iv).toNat)
  case atStart => exact ⟨0, 0, _, fun _ => 0, by omega, rfl, rfl, ElAt.empty _ _ _ _, B2.out, fun _ _ => rfl⟩
  case round =>
    obtain ⟨j, c2, A2, T, hj, rfl, rfl, hel, hb, hT⟩ := hrel
    obtain ⟨wo, rfl⟩ : ∃ wo : World, wo = wr := ⟨_, rfl⟩
    have HEL := Lib.hid hel
    have HB := Lib.hid hb
    have HT := Lib.hid hT
    clear hel hb hT
    by_cases hlt : j < m
    · have d1 : decide ((j : Int) < (n : Int)) = true := by simp; omega
      have d2 : decide ((j : Int) < 30) = true := by simp; omega
      have d3 : 0 ≤ (j : Int) ∧ (j : Int) < (n : Int) := by omega
      have hw1 : IntKind.i64.wrap ((j : Int) + 1) = (j : Int) + 1 := by rw [IntKind.wrap_i64]; omega
      obtain ⟨g, o, hA, hg, hc⟩ := HS.out.at_ (by omega : 0 < n)
      subst hA
      have q1 : wo.cell? ⟨g, o + j, none⟩ = some (.int .i64 (x j)) := by rw [HB.out.cell (p := ⟨g, o + j, none⟩) hg]; exact hc j (by omega)
      have E1 := Lib.hid (ent11_any ((j : Int) + 1) (x j) wo)
      clear hc
      go_wp2_with fail
      refine E1.out.mono ?_
      rintro e w3 ⟨rfl, hb3⟩
      obtain ⟨w4, hw4⟩ : ∃ w4, w4 = w3.alloc (.cells (rcC (rEnt ((j : Int) + 1) (x j)) nilS nilS) 32) := ⟨_, rfl⟩
      have hb4 : Below w3.heap.size w3 w4 := by rw [hw4]; exact (Below.refl _ _).alloc (Nat.le_refl _) _
      have r4 : row w4 w3.heap.size = some ((rcC (rEnt ((j : Int) + 1) (x j)) nilS nilS).toList).toArray := by rw [hw4, Array.toArray_toList]; exact row_alloc_at _ _ _ _ rfl
      have bx := onto hb3 hb3.size hb4
      have F4 : Fr T T (fun _ => False) wo w4 := Fr.calm bx fun _ _ => rfl
      have EL4 := Lib.hid (HEL.out.fr rcEl_ok F4 (fun e => e) (fun e => e))
      have B4 := Lib.hid (onto HB.out HB.out.size bx)
      have R4 := Lib.hid r4
      have hlen := rws_len x j
      clear E1 hb3 hb4 r4 bx F4 HEL q1
      go_wp2_with (at_builtin; simp only [← hw4]; refine wpl_appAt rcEl_ok rfl (.tmp 31) (.tmp 39) rfl rcs_u rc_info (rc_size _ _ _) (by decide) (by decide) EL4.out R4.out (rcEl_bare ⟨rfl, rfl⟩) (by omega) (by decide) (by simp [Act.eval, hlen]) (by simp [Act.eval]) ?_; intro A5 c5 w5 hel5 hf5)
      refine ⟨⟨j + 1, c5, A5, _, by omega, rfl, rfl, by rw [rws_succ]; exact hel5, B4.out.trans (hf5.below B4.out.size fun k hk => by rw [HT.out k hk]; decide), fun k hk => by rw [hf5.tag k (by have := B4.out.size; omega)]; exact HT.out k hk⟩, ?_⟩
      simp [intOf]
      omega
    · obtain rfl : j = m := by omega
      clear hlt hj
      have hexit : ((decide ((j : Int) < (n : Int)) = true ∧ decide (j < n) = true) ∧ decide ((j : Int) < 30) = false ∧ decide (j < 30) = false) ∨ (decide ((j : Int) < (n : Int)) = false ∧ decide (j < n) = false) := by
        have := HMM.out j (Nat.le_refl _)
        by_cases e : j < n
        · exact .inl ⟨⟨decide_eq_true (by omega), decide_eq_true e⟩, decide_eq_false (by omega), decide_eq_false (by omega)⟩
        · exact .inr ⟨decide_eq_false (by omega), decide_eq_false e⟩
      clear HMM
      have hln := rws_len x j
      have hrs := HEL.out.rcs
      rw [hln] at hrs
      have hel0 : rws x j = rws x j ++ [] := (List.append_nil _).symm
      have HF := Lib.hid (fold_any j c2 A2 _ wo hrs (by rw [hel0]; exact rcB_rows x j [] (by omega) fun r hr => by cases hr) (by omega))
      have HFD := Lib.hid (show fdS (gt (rws x j)) j = some ⟨0, 0, 0, 0, 0, ensL x j⟩ by rw [hel0]; exact fd_rws x j [] j (Nat.le_refl _))
      clear hrs hel0
      obtain ⟨p, hp⟩ : ∃ p : Nat, (decide (at_ < 0) = true ∧ IntKind.i64.wrap (at_ + 1) = at_ + 1 ∧ -(at_ + 1) = (p : Int) ∧ IntKind.i64.wrap (p : Int) = (p : Int)) ∨ (decide (at_ < 0) = false ∧ at_ = (p : Int)) := by
        by_cases e : at_ < 0
        · exact ⟨(-(at_ + 1)).toNat, .inl ⟨decide_eq_true e, by rw [IntKind.wrap_i64]; omega, by omega, by rw [IntKind.wrap_i64]; omega⟩⟩
        · exact ⟨at_.toNat, .inr ⟨decide_eq_false e, by omega⟩⟩
      clear ha
      obtain ⟨k, hk⟩ : ∃ k, k = p % (j + 1) := ⟨_, rfl⟩
      have hkj : k ≤ j := by have := Nat.mod_lt p (show 0 < j + 1 by omega); omega
      have hkr : (p : Int) % ((j : Int) + 1) = (k : Int) := by rw [hk]; rfl
      clear hk
      have z1 : IntKind.i64.wrap ((j : Int) + 1) = (j : Int) + 1 := by rw [IntKind.wrap_i64]; omega
      have z2 : IntKind.i64.wrap ((k : Int) + 1) = (k : Int) + 1 := by rw [IntKind.wrap_i64]; omega
      have z3 : IntKind.i64.wrap ((k : Int) + 2) = (k : Int) + 2 := by rw [IntKind.wrap_i64]; omega
      rcases hexit with ⟨⟨d1, d2⟩, d3, d4⟩ | ⟨d1, d2⟩
      all_goals
        go_wp2_with fail
        refine HF.out.mono ?_
        rintro e w3 ⟨hb3, ⟨s, A3, c3, ho, rfl, hE⟩ | ⟨ho, rfl⟩⟩
        rotate_left
        · rw [HFD.out] at ho; cases ho
        rw [HFD.out] at ho
        cases ho
        have hen := ensL_len x j
        obtain ⟨w4, hw4⟩ : ∃ w4, w4 = w3.alloc (.cells (stC ⟨0, 0, 0, 0, 0, ensL x j⟩ (.slice A3 j c3)) 35) := ⟨_, rfl⟩
        have hb4 : Below w3.heap.size w3 w4 := by rw [hw4]; exact (Below.refl _ _).alloc (Nat.le_refl _) _
        have r4 : row w4 w3.heap.size = some (stC ⟨0, 0, 0, 0, 0, ensL x j⟩ (.slice A3 j c3)) := by rw [hw4]; exact row_alloc_at _ _ _ _ rfl
        have bx := onto hb3 hb3.size hb4
        have B4 := Lib.hid (onto HB.out HB.out.size bx)
        have R4 := Lib.hid r4
        have F4 : Fr T T (fun _ => False) wo w4 := Fr.calm bx fun _ _ => rfl
        have EL4 := Lib.hid (HEL.out.fr rcEl_ok F4 (fun e => e) (fun e => e))
        have hE2 := hE.below hb4
        rw [hen] at hE2
        have E4 := Lib.hid hE2
        obtain ⟨l0, l1, l2, l3, l4, l5⟩ := st_cells r4
        clear HF hb3 hE hb4 r4 bx F4 HEL hE2
        go_upto_region 9 with fail
        simp only [← hw4]
        clear hw4
        have u9 : decide (j ≠ j) = false := by simp
        go_wp2_with fail
        go_loopw [13] (fun iv wr => ∃ (i m : Nat), i ≤ j ∧ iv = .int .i64 (i : Int) ∧ wr = w4.drewN m) (fun iv _ => j - (intOf iv).toNat)
        case atStart => exact ⟨0, 0, by omega, rfl, rfl⟩
        case round =>
          obtain ⟨i, m, hi, rfl, rfl⟩ := hrel
          by_cases hlt : i < j
          · have f1 : decide ((i : Int) < (j : Int)) = true := decide_eq_true (by omega)
            have f2 : decide (i < j) = true := decide_eq_true hlt
            obtain ⟨g2, o2, D2, k2, D3, k3, hA3, hg3, hc3, -⟩ := E4.out.at_ i hlt
            subst hA3
            have f3 : w4.cell? ⟨g2, o2 + i * 4, none⟩ = some (.int .i64 (x i)) := by
              have := hc3 0 (by omega)
              rw [ge_ens x j hlt] at this
              exact this
            obtain ⟨g, o, hA, hg, hc⟩ := HS.out.at_ (by omega : 0 < n)
            subst hA
            have f4 : w4.cell? ⟨g, o + i, none⟩ = some (.int .i64 (x i)) := by rw [B4.out.cell (p := ⟨g, o + i, none⟩) hg]; exact hc i (by omega)
            have f5 : 0 ≤ (i : Int) ∧ (i : Int) < (j : Int) := by omega
            have f6 : 0 ≤ (i : Int) ∧ (i : Int) < (n : Int) := by omega
            have f7 : IntKind.i64.wrap ((i : Int) + 1) = (i : Int) + 1 := by rw [IntKind.wrap_i64]; omega
            clear hc3 hc
            go_wp2_with fail
            go_quiet (fail)
            go_wp2_with fail
            exact ⟨⟨i + 1, m + nq, by omega, rfl, rfl⟩, by simp [intOf]; omega⟩
          · obtain rfl : j = i := by omega
            clear hlt hi
            obtain ⟨w5, hw5⟩ : ∃ w5, w5 = w4.drewN m := ⟨_, rfl⟩
            have b5 : Below w4.heap.size w4 w5 := by rw [hw5]; exact below_drewN (Below.refl _ _) m
            have F5 : Fr T T (fun _ => False) w4 w5 := Fr.calm b5 fun _ _ => rfl
            have EL5 := Lib.hid (EL4.out.fr rcEl_ok F5 (fun e => e) (fun e => e))
            have B5 := Lib.hid (onto B4.out B4.out.size b5)
            rw [← hw5]
            obtain ⟨L, hL⟩ : ∃ L, L = ensL x k ++ [eN y] := ⟨_, rfl⟩
            have HLl := Lib.hid (show L.length = k + 1 by rw [hL, List.length_append, ensL_len]; rfl)
            have HLk := Lib.hid (show ge L k = eN y by
              rw [hL]
              unfold ge
              rw [List.getD_eq_getElem?_getD, List.getElem?_append_right (by rw [ensL_len]; omega), ensL_len, Nat.sub_self]
              rfl)
            have HFD2 := Lib.hid (show fdS (gt (rws x j ++ [rEnt ((k : Int) + 1) y])) (j + 1) = some ⟨0, 0, 0, 0, 0, L⟩ by rw [hL]; exact fd_one x j k y hkj)
            have zj : ¬ ((j : Int) + 1 = 0) := by omega
            clear hw5 b5 F5 l0 l1 l2 l3 l4 l5 E4 R4 EL4 hL B4 HFD B2
            rcases hp with ⟨y1, y2, y3, y4⟩ | ⟨y1, rfl⟩
            all_goals
              have E6 := Lib.hid (ent11_any ((k : Int) + 1) y w5)
              go_wp2_with fail
              refine E6.out.mono ?_
              rintro e w6 ⟨rfl, hb6⟩
              obtain ⟨w7, hw7⟩ : ∃ w7, w7 = w6.alloc (.cells (rcC (rEnt ((k : Int) + 1) y) nilS nilS) 32) := ⟨_, rfl⟩
              have hb7 : Below w6.heap.size w6 w7 := by rw [hw7]; exact (Below.refl _ _).alloc (Nat.le_refl _) _
              have r7 : row w7 w6.heap.size = some ((rcC (rEnt ((k : Int) + 1) y) nilS nilS).toList).toArray := by rw [hw7, Array.toArray_toList]; exact row_alloc_at _ _ _ _ rfl
              have bx := onto hb6 hb6.size hb7
              have F7 : Fr T T (fun _ => False) w5 w7 := Fr.calm bx fun _ _ => rfl
              have EL7 := Lib.hid (EL5.out.fr rcEl_ok F7 (fun e => e) (fun e => e))
              have B7 := Lib.hid (onto B5.out B5.out.size bx)
              have R7 := Lib.hid r7
              clear E6 hb6 hb7 r7 bx F7 EL5 B5
              go_wp2_with (at_builtin; simp only [← hw7]; refine wpl_appAtO rcEl_ok rfl (.tmp 92) (.tmp 97) rfl rcs_u rc_info (rc_size _ _ _) (by decide) (by decide) EL7.out R7.out (rcEl_bare ⟨rfl, rfl⟩) (by omega) (by decide) (by simp [Act.eval, hln]) (by simp [Act.eval]) ?_; intro A8 c8 w8 hel8 hf8 hel8')
              have hrs := hel8.rcs
              rw [show (rws x j ++ [rEnt ((k : Int) + 1) y]).length = j + 1 by rw [List.length_append, hln]; rfl] at hrs
              have HF := Lib.hid (fold_any (j + 1) c8 A8 _ w8 hrs (rcB_rows x j [rEnt ((k : Int) + 1) y] (by omega) fun r hr => by
                simp only [List.mem_cons, List.not_mem_nil, or_false] at hr
                subst hr
                exact rcB_ent _ _ (by omega)) (by omega))
              have hz7 := B7.out.size
              have B8 := Lib.hid (B7.out.trans (hf8.below hz7 fun k hk => by rw [HT.out k hk]; decide))
              have hT8 : ∀ k, k < w.heap.size → paint T w7.heap.size 1 k = 0 := fun k hk => by rw [paint_old (by omega)]; exact HT.out k hk
              obtain ⟨T8, hT8'⟩ : ∃ T8, T8 = paint T w7.heap.size 1 := ⟨_, rfl⟩
              rw [← hT8'] at hel8' hT8
              have EL8 := Lib.hid hel8'
              have HT8 := Lib.hid hT8
              clear hrs hel8 hf8 hel8' hT8 hT8' EL7 B7 R7
              refine HF.out.mono ?_
              rintro e w9 ⟨hb9, ⟨s, A9, c9, ho, rfl, hE⟩ | ⟨ho, rfl⟩⟩
              rotate_left
              · rw [HFD2.out] at ho; cases ho
              rw [HFD2.out] at ho
              cases ho
              obtain ⟨w10, hw10⟩ : ∃ w10, w10 = w9.alloc (.cells (stC ⟨0, 0, 0, 0, 0, L⟩ (.slice A9 L.length c9)) 35) := ⟨_, rfl⟩
              have hb10 : Below w9.heap.size w9 w10 := by rw [hw10]; exact (Below.refl _ _).alloc (Nat.le_refl _) _
              have r10 : row w10 w9.heap.size = some (stC ⟨0, 0, 0, 0, 0, L⟩ (.slice A9 L.length c9)) := by rw [hw10]; exact row_alloc_at _ _ _ _ rfl
              have bx := onto hb9 hb9.size hb10
              have F10 : Fr T8 T8 (fun _ => False) w8 w10 := Fr.calm bx fun _ _ => rfl
              have EL10 := Lib.hid (EL8.out.fr rcEl_ok F10 (fun e => e) (fun e => e))
              have B10 := Lib.hid (onto B8.out B8.out.size bx)
              obtain ⟨g4, o4, D4, k4, D5, k5, hA9, hg9, hc9, -⟩ := (hE.below hb10).at_ k (by rw [HLl.out]; omega)
              subst hA9
              have t0 : w10.cell? ⟨g4, o4 + k * 4, none⟩ = some (.int .i64 y) := by
                have := hc9 0 (by omega)
                rw [HLk.out] at this
                exact this
              obtain ⟨l0, l1, l2, l3, l4, l5⟩ := st_cells r10
              clear HF hb9 hE hb10 r10 bx F10 EL8 B8 hc9
              go_upto_region 20 with fail
              simp only [← hw10]
              clear hw10
              have hLl := HLl.out
              have kk : ((k + 1 : Nat) : Int) = (k : Int) + 1 := rfl
              have k6 : 0 ≤ (k : Int) ∧ (k : Int) < (k : Int) + 1 := by omega
              go_upto_region 22 with fail
              have hup := EL10.out.upto k (by rw [hln]; exact hkj)
              have hef := hup.2.full
              rw [rws_take x hkj] at hef
              have EF := Lib.hid hef
              have qh := fun w => run_hmJ (P := Tryd.prog) rcs_u rc_i A2 j c2 k (by have := EL10.out.le; rw [hln] at this; omega) w
              have hlk := rws_len x k
              clear hup hef hLl t0 l0 l1 l2 l3 l4 l5
              refine flow_many [.inl [0, 1, 2, 3, 4, 5, 6], pS 14, pE 7, pS 8, pU 8, pE 9, pE 10, .inl [11, 12, 13], pU 14, pE 15, .inl [16]] (CbJ w10) [] (by kernel_rfl) (by kernel_rfl) (fun _ _ _ _ _ h => h) (fun _ _ _ _ _ h => h) CbJ.alloc (below_drewN (Below.refl _ _) 1) (fun k hk => by cases hk) ?_
              have hne : Nonempty (In (CbJ w10)) := ⟨⟨w10, Below.refl _ _⟩⟩
              obtain ⟨w11, hw11⟩ : ∃ w11, w11 = w10.drewN 1 := ⟨_, rfl⟩
              rw [← hw11]
              clear hw11
              refine wpM_q ?_
              simp only [pk, List.getElem?_cons_zero, List.getElem?_cons_succ]
              repeat (go_big_quiet_step (fail))
              refine wpQuiet_nil ?_
              refine wpM_s (fun p => .pointer (some ⟨p, 0, none⟩)) (.cells #[.int .i64 0, .int .i64 0, .int .i64 0, .int .i64 0, .int .i64 0, .slice none 0 0] 35) _ rfl rfl (fun w => by simp only [execOp, go_sem, Sem.run_bind, Result.andThen]; rfl) ?_
              refine wpM_e _ rfl (fun x1 hx1 => ?_)
              have B12 := Lib.hid (show Below w10.heap.size w10 x1.val from hx1)
              obtain ⟨w12, hw12⟩ : ∃ w12, w12 = x1.val := ⟨_, rfl⟩
              rw [← hw12] at B12 ⊢
              clear hw12 hx1
              have E12 := Lib.hid (ent11_any ((k : Int) + 2) y w12)
              go_wp2_with fail
              refine E12.out.mono ?_
              rintro e w13 ⟨rfl, hb13⟩
              go_wp2_with fail
              have B13 := Lib.hid (onto B12.out B12.out.size hb13)
              refine same_class (C := CbJ w10) [] (Frm.of hb13) hot_none B13.out CbJ.alloc ?_
              clear E12 hb13 B12
              refine wpM_s (fun p => .slice (some ⟨p, 0, none⟩) 1 1) (.cells (rcC (rEnt ((k : Int) + 2) y) nilS nilS) 32) _ rfl rfl (fun w => by simp [execOp, go_sem, Act.eval, Result.andThen]) ?_
              refine wpM_u _ _ _ 131 (.head _) rfl rfl (fun x2 hx2 p8 hp1 hp2 hp3 hp4 => ?_)
              refine wpM_e _ rfl (fun x3 hx3 => ?_)
              have R14 := Lib.hid (show row x3.val p8 = some (rcC (rEnt ((k : Int) + 2) y) nilS nilS).toList.toArray by rw [Array.toArray_toList]; exact carry x3.below (row_of hp4))
              have B14 := Lib.hid (show Below w10.heap.size w10 x3.val from hx3)
              obtain ⟨w14, hw14⟩ : ∃ w14, w14 = x3.val := ⟨_, rfl⟩
              rw [← hw14] at R14 B14 ⊢
              clear hw14 hx3 hx2 hp4 hp3 hp2 hp1 B13
              have EF14 := Lib.hid (EF.out.fr rcEl_ok (Fr.calm B14.out fun _ _ => rfl : Fr T8 T8 (fun _ => False) w10 w14) (fun e => e) (fun e => e))
              go_wp2_with (at_builtin; refine wpl_appFull rcEl_ok rfl (.tmp 126) (.tmp 131) rfl rcs_u rc_info (rc_size _ _ _) (by decide) (by decide) EF14.out R14.out (rcEl_bare ⟨rfl, rfl⟩) (by omega) (by decide) (by simp [Act.eval, Act.put, hlk]) (by simp [Act.eval, Act.put]) ?_; intro A15 c15 w15 hel15 hb15)
              have B15 := Lib.hid (onto B14.out B14.out.size hb15)
              have hrs := hel15.rcs
              rw [show (rws x k ++ [rEnt ((k : Int) + 2) y]).length = k + 1 by rw [List.length_append, hlk]; rfl] at hrs
              have HR15 := Lib.hid hrs
              have HFD3 := Lib.hid (fd_far x k y)
              refine same_class (C := CbJ w10) [] (Frm.of hb15) hot_none B15.out CbJ.alloc ?_
              clear hrs hel15 hb15 EF14 R14 B14 EF
              refine wpM_e _ rfl (fun x4 hx4 => ?_)
              have B16 := Lib.hid (show Below w10.heap.size w10 x4.val from hx4)
              have HR16 := HR15.out.below x4.below
              obtain ⟨w16, hw16⟩ : ∃ w16, w16 = x4.val := ⟨_, rfl⟩
              rw [← hw16] at HR16 B16 ⊢
              clear hw16 hx4 HR15 B15
              have F16 := Lib.hid (fold_any (k + 1) c15 A15 _ w16 HR16 (rcB_rows x k [rEnt ((k : Int) + 2) y] (by omega) fun r hr => by
                simp only [List.mem_cons, List.not_mem_nil, or_false] at hr
                subst hr
                exact rcB_ent _ _ (by omega)) (by omega))
              clear HR16
              go_wp2_with fail
              refine F16.out.mono ?_
              rintro e w17 ⟨hb17, ⟨s, A17, c17, ho, rfl, hE⟩ | ⟨ho, rfl⟩⟩
              · rw [HFD3.out] at ho; cases ho
              go_wp2_with fail
              have B17 := Lib.hid (onto B16.out B16.out.size hb17)
              refine same_class (C := CbJ w10) [] (Frm.of hb17) hot_none B17.out CbJ.alloc ?_
              clear F16 hb17 B16 ho
              refine wpM_q ?_
              simp only [pk, List.getElem?_cons_zero, List.getElem?_cons_succ]
              repeat (go_big_quiet_step (fail))
              refine wpQuiet_nil ?_
              refine wpM_u _ _ _ 17 (.head _) rfl rfl (fun x5 hx5 p14 hp1 hp2 hp3 hp4 => ?_)
              refine wpM_e _ rfl (fun x6 hx6 => ?_)
              have R18 := carry x6.below (row_of hp4)
              have B18 := Lib.hid (show Below w10.heap.size w10 x6.val from hx6)
              obtain ⟨w18, hw18⟩ : ∃ w18, w18 = x6.val := ⟨_, rfl⟩
              rw [← hw18] at R18 B18 ⊢
              clear hw18 hx6 hx5 hp4 hp3 hp2 B17
              rw [st_lit0] at R18
              go_wp2_with fail
              have B19 := Lib.hid (below_setRow B18.out hp1 (stC .zero nilS))
              refine same_class (C := CbJ w10) [] (Frm.row w18 _ (by simp)) hot_none B19.out CbJ.alloc ?_
              refine wpM_q ?_
              simp only [pk, List.getElem?_cons_zero, List.getElem?_cons_succ]
              repeat (go_big_quiet_step (fail))
              refine wpQuiet_nil ?_
              refine wpM_nil (fun x7 => ?_)
              have B20 := Lib.hid (onto B10.out B10.out.size (onto B19.out B19.out.size x7.below))
              go_wp2_with fail
              exact bodyPost_ret (v := .bool true) (by simp [results, Tryd.results5, go_sem]) rfl ⟨rfl, B20.out⟩
end Go.Proofs.YtdfcldomjjcidaaDoor.Oct
