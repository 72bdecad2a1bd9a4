/- Contracts: the reference's TakeText. -/
import Derived.Test.YtfpkfbojckgcdaaPkF
namespace Go.Proofs.Ytfpkfbojckgcdaa.Oct
open Go.ChangeShapes Go.WideShapes Go.ChangeAt Go.RowKit
set_option linter.unusedVariables false

set_option maxHeartbeats 4000000 in
theorem rtaket_any (n c : Nat) (m : Int) (A : Option Addr) (f : Bf) (w : World) (hs : Sl w w.heap.size A n c f) (hn : n ≤ 140737488355328) :
    Calls Try.prog 37 #[.slice A n c, .int .i64 m] w (ttP n m f w) := by
  have H0 := Lib.hid (rtake_num n c A f w hs hn)
  clear hs
  go_enter Try.func37, Try.ntmps37
  go_wp2_with fail
  refine H0.out.mono ?_
  rintro e w1 (⟨hz, rfl, hb⟩ | ⟨hz, v1, rfl, ho1, hb1⟩)
  · have HE := Lib.hid (show ttE n m f = tkE n f by unfold ttE; rw [if_pos hz])
    have HZ := Lib.hid hz
    have HB := Lib.hid hb
    clear H0 hb hz
    obtain ⟨E, hE⟩ : ∃ E, E = tkE n f := ⟨_, rfl⟩
    have hne : ((E : Int) == 0) = false := by have := HZ.out; rw [← hE] at this; simp; omega
    rw [← hE]
    have HE2 := Lib.hid hE
    clear hE
    go_wp2_with fail
    exact bodyPost_ret (v := .tuple #[.slice none 0 0, .slice none 0 0, .int .i64 E]) (by simp [results, Try.results37, go_sem]) rfl (.inl ⟨by rw [HE.out]; exact HZ.out, by rw [HE.out, HE2.out], HB.out⟩)
  · have HZ := Lib.hid hz
    have HB := Lib.hid hb1
    have HO := Lib.hid ho1
    obtain ⟨A1, c1, hv1, hs1, -, -⟩ := ho1.sl
    subst hv1
    have S1 := Lib.hid hs1
    obtain ⟨V, hV⟩ : ∃ V, V = tkV f := ⟨_, rfl⟩
    rw [← hV]
    have HV := Lib.hid hV
    have hnc := hs1.le
    have HL := Lib.hid (tkL_le hz)
    obtain ⟨R, hR⟩ : ∃ R, R = n - tkL f := ⟨_, rfl⟩
    rw [← hR] at S1 hnc HO ⊢
    have HR := Lib.hid hR
    have hRn : R ≤ 140737488355328 := by omega
    clear H0 hs1 hz hV hb1 ho1 hR
    by_cases hm : m < (V : Int)
    · have hd : decide (m < (V : Int)) = true := by simp; omega
      have HE := Lib.hid (show ttE n m f = 2 by unfold ttE; rw [if_neg (fun h => h HZ.out), if_pos (by rw [← HV.out]; exact hm)])
      go_wp2_with fail
      exact bodyPost_ret (v := .tuple #[.slice none 0 0, .slice none 0 0, .int .i64 2]) (by simp [results, Try.results37, go_sem]) rfl (.inl ⟨by rw [HE.out]; omega, by rw [HE.out]; rfl, HB.out⟩)
    · have hd : decide (m < (V : Int)) = false := by simp; omega
      by_cases hsh : R < V
      · have hd2 : decide ((R : Int) < (V : Int)) = true := by simp; omega
        have HE := Lib.hid (show ttE n m f = 3 by unfold ttE; rw [if_neg (fun h => h HZ.out), if_neg (by rw [← HV.out]; exact hm), if_pos (by rw [← HV.out, ← HR.out]; exact hsh)])
        go_wp2_with fail
        exact bodyPost_ret (v := .tuple #[.slice none 0 0, .slice none 0 0, .int .i64 3]) (by simp [results, Try.results37, go_sem]) rfl (.inl ⟨by rw [HE.out]; omega, by rw [HE.out]; rfl, HB.out⟩)
      · have hd2 : decide ((R : Int) < (V : Int)) = false := by simp; omega
        have HE := Lib.hid (show ttE n m f = 0 by unfold ttE; rw [if_neg (fun h => h HZ.out), if_neg (by rw [← HV.out]; exact hm), if_neg (by rw [← HV.out, ← HR.out]; exact hsh)])
        have HU := Lib.hid (run_upto sli_u u8_i A1 R c1 V (by omega))
        have HF := Lib.hid (run_from sli_u u8_i A1 R c1 V (by omega))
        go_wp2_with fail
        refine flow_many [.inl [1, 2, 3, 6, 7, 8], pS 0, pS 5, pU 0, pE 4, pU 5, pE 9, .inl [10, 11, 12]] (fun _ => True) [] (by kernel_rfl) (by kernel_rfl) (fun _ _ _ _ _ h => h) (fun _ _ _ _ _ h => h) (fun y z h => h) trivial (fun k hk => by cases hk) ?_
        have hne : Nonempty (In (fun _ => True)) := ⟨⟨w1, trivial⟩⟩
        have B2 := Lib.hid (below_drewN (Below.refl w1.heap.size w1) 1)
        have hz2 : (w1.drewN 1).heap.size = w1.heap.size := rfl
        obtain ⟨w2, hw2⟩ : ∃ w2, w2 = w1.drewN 1 := ⟨_, rfl⟩
        rw [← hw2] at B2 hz2 ⊢
        clear hw2
        have hup := HU.out
        have hfr := HF.out
        refine wpM_q ?_
        simp only [pk, List.getElem?_cons_zero, List.getElem?_cons_succ]
        repeat (go_big_quiet_step (fail))
        refine wpQuiet_nil ?_
        clear hup hfr
        refine wpM_s (fun p => .slice (some ⟨p, 0, none⟩) 0 0) (.cells #[] 5) _ rfl rfl (fun w => ex_bs0 _ rfl w) ?_
        refine wpM_s (fun p => .slice (some ⟨p, 0, none⟩) 0 0) (.cells #[] 5) _ rfl rfl (fun w => ex_bs0 _ rfl w) ?_
        refine wpM_u _ _ _ 26 (.tail _ (.head _)) rfl rfl (fun x0 hx0 p hp1 hp2 hp3 hp4 => ?_)
        refine wpM_e _ rfl (fun x hx => ?_)
        have hs0 := x0.below.size
        have hsx := x.below.size
        have B3 := Lib.hid (onto (onto B2.out (by omega) x0.below) (by omega) x.below)
        have O3 := Lib.hid (show Own x.val w1.heap.size 5 (.slice (some ⟨p, 0, none⟩) 0 0) 0 nF from own_new (by rw [x.below.block p hp2]; exact hp4) hp1)
        have L3 := Lib.hid ((S1.out.upto V (by omega)).below B3.out)
        clear hx0 hx hp3 hp4 B2
        obtain ⟨X3, hX3⟩ : ∃ X3, X3 = x.val := ⟨_, rfl⟩
        rw [← hX3] at hsx B3 O3 L3 ⊢
        clear hX3
        have hb13 : w1.heap.size ≤ X3.heap.size := by omega
        go_wp2_with (at_builtin; refine wpl_appB rfl (.tmp 26) (.tmp 29) rfl sli_u u8_info O3.out L3.out (by omega) hb13 rfl rfl ?_; intro v4 w4 ho4 hg4 ht4)
        rw [catF_zero, Nat.zero_add] at ho4
        have hs4 := hg4.size
        have B4 := Lib.hid (O3.out.after hg4 B3.out hb13 (Nat.le_refl _))
        have O4 := Lib.hid ho4
        refine same_class (C := fun _ => True) v4.ownBlock.toList ((Frm.app hg4).more (fun k hk => by simpa [Value.ownBlock, eq_comm] using hk)) (hot_app ho4 ht4 (fun k hk => by simpa [Value.ownBlock, eq_comm] using hk)) trivial (fun y z h => h) ?_
        clear ho4 hg4 ht4 O3 L3 B3
        refine wpM_u _ _ _ 31 (.head _) rfl rfl (fun x1 hx1 q hq1 hq2 hq3 hq4 => ?_)
        refine wpM_e _ rfl (fun x hx => ?_)
        have hs5 := x1.below.size
        have hsx5 := x.below.size
        have B5 := Lib.hid (onto (onto B4.out (by omega) x1.below) (by omega) x.below)
        have O5 := Lib.hid (show Own x.val w1.heap.size 5 (.slice (some ⟨q, 0, none⟩) 0 0) 0 nF from own_new (by rw [x.below.block q hq2]; exact hq4) hq1)
        have U5 := Lib.hid ((O4.out.below x1.below (Nat.le_refl _)).below x.below (Nat.le_refl _))
        have L5 := Lib.hid ((S1.out.from_ V (by omega)).below B5.out)
        have HQ := Lib.hid (show ∀ k, v4.ownBlock = some k → some q ≠ some k from fun k hk e => hq3 (by rw [hk]; simp; exact (Option.some.inj e)))
        clear hx1 hx hq3 hq4 B4 O4
        obtain ⟨X5, hX5⟩ : ∃ X5, X5 = x.val := ⟨_, rfl⟩
        rw [← hX5] at hsx5 B5 O5 U5 L5 ⊢
        clear hX5
        have hb15 : w1.heap.size ≤ X5.heap.size := by omega
        go_wp2_with (at_builtin; refine wpl_appB rfl (.tmp 31) (.tmp 34) rfl sli_u u8_info O5.out L5.out (by omega) hb15 rfl rfl ?_; intro v6 w6 ho6 hg6 ht6)
        rw [catF_zero, Nat.zero_add, offF_offF] at ho6
        have hs6 := hg6.size
        have B6 := Lib.hid (O5.out.after hg6 B5.out hb15 (Nat.le_refl _))
        have U6 := Lib.hid (U5.out.other hg6 HQ.out)
        have O6 := Lib.hid ho6
        refine same_class (C := fun _ => True) [] ((Frm.app hg6).more (fun k hk => by
          have hk' : k = q := by simpa [Value.ownBlock, eq_comm] using hk
          subst hk'
          simp)) hot_none trivial (fun y z h => h) ?_
        clear ho6 hg6 ht6 O5 L5 B5 U5 HQ
        refine wpM_q ?_
        simp only [pk, List.getElem?_cons_zero, List.getElem?_cons_succ]
        repeat (go_big_quiet_step (fail))
        refine wpQuiet_nil ?_
        refine wpM_nil (fun x => ?_)
        have hsx7 := x.below.size
        have B7 := Lib.hid (onto B6.out (by omega) x.below)
        have O7 := Lib.hid (O6.out.below x.below (Nat.le_refl _))
        have U7 := Lib.hid (U6.out.below x.below (Nat.le_refl _))
        clear B6 O6 U6 hne
        obtain ⟨X7, hX7⟩ : ∃ X7, X7 = x.val := ⟨_, rfl⟩
        rw [← hX7] at hsx7 B7 O7 U7 ⊢
        clear hX7
        go_wp2_with fail
        have hbb := HB.out.size
        refine bodyPost_ret (v := .tuple #[v4, v6, .int .i64 0]) (by simp [results, Try.results37, go_sem]) rfl (.inr ⟨HE.out, v4, v6, rfl, ?_, ?_, onto HB.out hbb B7.out⟩)
        · rw [← HV.out]; exact U7.out.base hbb
        · rw [← HV.out, ← HR.out]; exact O7.out.base hbb
end Go.Proofs.Ytfpkfbojckgcdaa.Oct
