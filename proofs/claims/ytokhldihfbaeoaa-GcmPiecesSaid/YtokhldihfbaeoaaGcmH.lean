/- Contract of the reference's Open. -/
import Derived.Test.YtokhldihfbaeoaaGcmG
import Derived.Test.YtokhldihfbaeoaaSlOpen
import Derived.Test.YtokhldihfbaeoaaFlowF
namespace Go.Proofs.Ytokhldihfbaeoaa.Oct
open Go.ChangeShapes Go.WideShapes Go.ChangeAt Go.RowKit
set_option linter.unusedVariables false

theorem str_u : Try.prog.underlying 9 = some .string := by kernel_rfl
theorem str_ne {n : Nat} {f g : Bf} (h : eqB n f g = false) : strOf n f ≠ strOf n g := by
  intro e
  have := (eqB_iff n f g).2 (str_inj e)
  rw [h] at this
  cases this
theorem str_nel {n : Nat} {f g : Bf} (h : eqB n f g = false) : ((strOf n f).toList == (strOf n g).toList) = false := by
  rw [beq_eq_false_iff_ne]
  intro e
  rw [ByteArray.toList_eq, ByteArray.toList_eq] at e
  exact str_ne h (by
    have : (strOf n f).data = (strOf n g).data := by simpa using e
    cases hf : strOf n f; cases hg : strOf n g
    rw [hf, hg] at this
    exact congrArg ByteArray.mk this)
theorem str_eq {n : Nat} {f g : Bf} (h : eqB n f g = true) : strOf n f = strOf n g := str_congr ((eqB_iff n f g).1 h)

set_option maxRecDepth 20000 in
set_option maxHeartbeats 4000000 in
theorem rgopen_any (k n : Bf) (s : Bf) (ns cs : Nat) (As : Option Addr) (b : Bf) (L c : Nat) (A : Option Addr) (w : World) (hs : Sl w w.heap.size As ns cs s) (hb : Sl w w.heap.size A L c b) (hns : ns ≤ 1099511627776) (hL : L ≤ 1099511627776) :
    Calls Try.prog 18 #[.agg (ba 32 k), .agg (ba 12 n), .slice As ns cs, .slice A L c] w fun e w' => ∃ v, e = .returned (.tuple #[v, .int .i64 (opC k n s ns b L)]) ∧ Own w' w.heap.size 5 v (opL k n s ns b L) (xorS k n 2 b) ∧ Below w.heap.size w w' := by
  have B0 := ((Below.refl w.heap.size w).alloc (by simp) (.cells (ba 32 k) 23)).alloc (by simp) (.cells (ba 12 n) 25)
  have HSS := Lib.hid hs
  have HSB := Lib.hid hb
  have HB0 := Lib.hid B0
  have q0 : row ((w.alloc (.cells (ba 32 k) 23)).alloc (.cells (ba 12 n) 25)) w.heap.size = some (ba 32 k) := by simp [go_sem]
  have q1 : row ((w.alloc (.cells (ba 32 k) 23)).alloc (.cells (ba 12 n) 25)) (w.heap.size + 1) = some (ba 12 n) := by simp [go_sem]
  have hcap := hb.le
  clear hs hb B0
  by_cases hlt : L < 16
  · have hd : decide ((L : Int) - 16 < 0) = true := by simp; omega
    have HCO := Lib.hid (show opC k n s ns b L = 3 by unfold opC; rw [if_pos hlt])
    go_enter Try.func18, Try.ntmps18
    go_wp2_with fail
    rw [show opL k n s ns b L = 0 by unfold opL; rw [HCO.out]; rfl, HCO.out]
    exact bodyPost_ret (v := .tuple #[.slice none 0 0, .int .i64 3]) (by simp [results, Try.results18, go_sem]) rfl ⟨_, rfl, Own.nil _ _ _ _, HB0.out⟩
  · obtain ⟨m, hm⟩ : ∃ m, m = L - 16 := ⟨_, rfl⟩
    have hmL : m + 16 = L := by omega
    have hmi : (L : Int) - 16 = (m : Int) := by omega
    have hd : decide ((m : Int) < 0) = false := by simp
    obtain ⟨g, o, hA, hg, hcell⟩ := HSB.out.at_ (by omega)
    subst hA
    have hup := run_upto sli_u u8_i (some ⟨g, o, none⟩) L c m (by omega)
    have hfrom := run_from sli_u u8_i (some ⟨g, o, none⟩) L c m (by omega)
    rw [show cutA (some ⟨g, o, none⟩) c m = some ⟨g, o + m, none⟩ by unfold cutA; rw [if_neg (by omega)]; simp only [Option.map_some]; rw [add_mid], show L - m = 16 by omega] at hfrom
    obtain ⟨f, hf⟩ : ∃ f, f = offF b m := ⟨_, rfl⟩
    have HF := Lib.hid hf
    have HSF := Lib.hid (show Sl w w.heap.size (some ⟨g, o + m, none⟩) 16 (c - m) f from ⟨by omega, fun _ => ⟨g, o + m, rfl, hg, fun i hi => by
      rw [show o + m + i = o + (m + i) by omega, hcell (m + i) (by omega), hf]; rfl⟩⟩)
    clear hcell hm hf
    go_enter Try.func18, Try.ntmps18
    go_wp2_with fail
    obtain ⟨tg, htg⟩ : ∃ tg, tg = tagF k n s ns b m := ⟨_, rfl⟩
    have HTG := Lib.hid htg
    clear htg
    refine flow_float 7 _ (ba 16 fun _ => 0#8) [([0, 1, 2, 3, 4, 5], 6)] [] [([], 8, true)] [] (by kernel_rfl) (by kernel_rfl) rfl rfl (fun _ _ _ _ _ h => h) (fun _ _ _ _ _ h => h) (fun ρ w => ?_) fun X => ?_
    · simp only [execOp, go_sem, Sem.run_bind, Result.andThen]
      exact ⟨_, rfl, by simp [go_sem], (Below.refl _ _).alloc (Nat.le_refl _) _⟩
    have HB1 := Lib.hid (onto HB0.out HB0.out.size X.below)
    have HSZ := Lib.hid (show w.heap.size + 2 ≤ X.val.heap.size by have := X.below.size; simp at this; omega)
    have t0 := carry X.below q0
    have t1 := carry X.below q1
    clear q0 q1
    have hPG : ((w.alloc (.cells (ba 32 k) 23)).alloc (.cells (ba 12 n) 25)).heap.size = w.heap.size + 2 := by simp
    rw [hPG]
    clear hPG
    generalize X.val = w1 at HB1 t0 t1 HSZ ⊢
    clear X HB0
    have r0 := After.row t0
    have r1 := After.row t1
    simp only [wpFu, wpFs, pk, List.getElem?_cons_zero, List.getElem?_cons_succ]
    repeat (go_big_quiet_step (fail))
    refine wpQuiet_nil ?_
    clear r0 r1
    intro X
    have HX := Lib.hid (show Below w.heap.size w X.val from onto HB1.out HB1.out.size X.below)
    go_wp2_with fail
    refine (rgtag_any k n s ns cs As b m c _ _ ((HSS.out.below HX.out).more HX.out.size) (((HSB.out.upto m (by omega)).below HX.out).more HX.out.size) hns (by omega)).mono ?_
    rintro e w2 ⟨rfl, hb2⟩
    rw [← HTG.out]
    have HB2 := Lib.hid (onto HX.out HX.out.size hb2)
    have t0' := carry hb2 (carry X.below t0)
    have t1' := carry hb2 (carry X.below t1)
    go_wp2_with fail
    refine ⟨hb2, ?_⟩
    clear t0 t1 HX hb2 X
    show wpQuiet _ _ _ _ _ _
    refine wpQuiet_nil ?_
    intro Y p hp hrow
    have HY := Lib.hid (onto HB2.out HB2.out.size Y.below)
    have r0 := carry Y.below t0'
    have r1 := carry Y.below t1'
    clear t0' t1' HB2
    generalize Y.val = w3 at hrow HY r0 r1 ⊢
    clear Y
    refine wpQuiet_nil ?_
    unfold ptr
    go_wp2_with fail
    refine ⟨.inl trivial, ?_⟩
    have HZ := Lib.hid (below_setRow HY.out (show w.heap.size ≤ p by omega) (ba 16 tg))
    have t0 : row (w3.setRow p (ba 16 tg)) w.heap.size = some (ba 32 k) := by rw [row_setRow_other _ _ _ _ (by omega)]; exact r0
    have t1 : row (w3.setRow p (ba 16 tg)) (w.heap.size + 1) = some (ba 12 n) := by rw [row_setRow_other _ _ _ _ (by omega)]; exact r1
    have tp : row (w3.setRow p (ba 16 tg)) p = some (ba 16 tg) := row_setRow hrow _
    clear r0 r1 hrow HY
    generalize w3.setRow p (ba 16 tg) = w4 at HZ t0 t1 tp ⊢
    show wpQuiet _ _ _ _ _ _
    refine wpQuiet_nil ?_
    have c1 : ∀ x : After w4, (convert 26 9 (.slice (some ⟨p, 0, none⟩) 16 16)).run Try.prog x.val = .ok (.string (strOf 16 tg)) x.val := fun x => run_str sli_u u8_u str_u (Sl.of_row (After.row tp x) x.val.heap.size (row_lt (After.row tp x)))
    have c2 : ∀ x : After w4, (convert 26 9 (.slice (some ⟨g, o + m, none⟩) 16 (c - m))).run Try.prog x.val = .ok (.string (strOf 16 f)) x.val := fun x => run_str sli_u u8_u str_u (HSF.out.below (onto HZ.out HZ.out.size x.below))
    have hmL16 : L - 16 = m := by omega
    have HML := Lib.hid hmL16
    have HMB := Lib.hid (show m ≤ 1099511627776 ∧ m ≤ L by omega)
    clear hmL16 hmL hmi hd hp
    cases he : eqB 16 tg f
    · have hne := str_nel he
      generalize strOf 16 tg = S1 at c1 hne
      generalize strOf 16 f = S2 at c2 hne
      go_wp2_with fail
      refine seen_region (by kernel_rfl) (by kernel_rfl) ?_
      repeat (go_big_quiet_step (fail))
      refine wpQuiet_nil ?_
      rintro _ ⟨x, rfl⟩
      have HB4 := Lib.hid (onto HZ.out HZ.out.size x.below)
      clear c1 c2 t0 t1 tp
      go_wp2_with fail
      have hC : opC k n s ns b L = 40 := by
        unfold opC
        rw [if_neg hlt, HML.out, ← HTG.out, ← HF.out, he]
        rfl
      rw [show opL k n s ns b L = 0 by unfold opL; rw [hC]; rfl, hC]
      exact bodyPost_ret (v := .tuple #[.slice none 0 0, .int .i64 40]) (by simp [results, Try.results18, go_sem]) rfl ⟨_, rfl, Own.nil _ _ _ _, HB4.out⟩
    · have hne := str_eq he
      rw [hne] at c1
      generalize strOf 16 f = S2 at c1 c2
      clear hne
      go_wp2_with fail
      refine seen_region (by kernel_rfl) (by kernel_rfl) ?_
      repeat (go_big_quiet_step (fail))
      refine wpQuiet_nil ?_
      rintro _ ⟨x, rfl⟩
      have HB4 := Lib.hid (onto HZ.out HZ.out.size x.below)
      have r0 := carry x.below t0
      have r1 := carry x.below t1
      clear c1 c2 t0 t1 tp HZ
      generalize x.val = w5 at HB4 r0 r1 ⊢
      go_wp2_with fail
      refine flow_seen [([0, 1, 2, 3, 4], 5, false)] [6, 7] (by kernel_rfl) (by kernel_rfl) (fun _ _ _ _ _ h => h) fun X => ?_
      have HB5 := Lib.hid (onto HB4.out HB4.out.size X.below)
      have t0 := carry X.below r0
      have t1 := carry X.below r1
      clear r0 r1 HB4
      generalize X.val = w6 at HB5 t0 t1 ⊢
      clear X
      have q0 := After.row t0
      have q1 := After.row t1
      simp only [wpFs, pk, List.getElem?_cons_zero, List.getElem?_cons_succ]
      repeat (go_big_quiet_step (fail))
      refine wpQuiet_nil ?_
      clear q0 q1 hup hfrom
      go_wp2_with fail
      refine (rgxor_any k n 2 (by decide) b m c _ _ (((HSB.out.upto m HMB.out.2).below HB5.out).more HB5.out.size) HMB.out.1).mono ?_
      rintro e w7 ⟨v, rfl, ho, hb7⟩
      have HO := Lib.hid (ho.base HB5.out.size)
      have HB7 := Lib.hid (onto HB5.out HB5.out.size hb7)
      go_wp2_with fail
      refine ⟨.inr hb7, ?_⟩
      clear ho hb7 t0 t1
      show wpQuiet _ _ _ _ _ _
      repeat (go_big_quiet_step (fail))
      refine wpQuiet_nil ?_
      go_wp2_with fail
      have hC : opC k n s ns b L = 0 := by
        unfold opC
        rw [if_neg hlt, HML.out, ← HTG.out, ← HF.out, he]
        rfl
      rw [show opL k n s ns b L = m by unfold opL; rw [hC, if_pos rfl, HML.out], hC]
      exact bodyPost_ret (v := .tuple #[v, .int .i64 0]) (by simp [results, Try.results18, go_sem]) rfl ⟨_, rfl, HO.out, HB7.out⟩
end Go.Proofs.Ytokhldihfbaeoaa.Oct
