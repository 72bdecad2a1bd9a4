/- The statement GcmParts: the law strongroomlaw04.GcmParts answers true for every input, and leaves its arguments as they were. No further condition. -/
import Derived.Test.YtokhldihfbaeoaaRows
import Derived.Test.YtokhldihfbaeoaaOpen
import Derived.Test.YtokhldihfbaeoaaBox
import Derived.Test.YtokhldihfbaeoaaFlowF
namespace Go.Proofs.Ytokhldihfbaeoaa.gcmParts
open Go.ChangeShapes Go.WideShapes Go.ChangeAt Go.RowKit
open Go.Proofs.Ytokhldihfbaeoaa.Oct
set_option linter.unusedVariables false

theorem own : ownKnob Try.prog.godebug = none := by kernel_rfl
theorem laidOut : laidOutB Try.prog = true := by kernel_rfl

set_option maxRecDepth 20000 in
set_option maxHeartbeats 2000000 in
theorem walk (k0 m0 f0 : Nat → BitVec 8) (n0 c0 : Nat) (A0 : Option Addr) (a1 : Nat → BitVec 8) (n1 c1 : Nat) (A1 : Option Addr) (a2 : Nat → BitVec 8) (n2 c2 : Nat) (A2 : Option Addr) (w : World) (hs0 : Sl w w.heap.size A0 n0 c0 f0) (hm0 : c0 ≤ maxLen) (hs1 : Sl w w.heap.size A1 n1 c1 a1) (hm1 : c1 ≤ maxLen) (hs2 : Sl w w.heap.size A2 n2 c2 a2) (hm2 : c2 ≤ maxLen) :
    Calls Try.prog 7 #[.agg (boxC k0 m0 (.slice A0 n0 c0)), .slice A1 n1 c1, .slice A2 n2 c2] w fun e w' => e = .returned (.bool true) ∧ Below w.heap.size w w' := by
  have B0 := Lib.hid ((Below.refl w.heap.size w).alloc (by simp) (.cells (boxC k0 m0 (.slice A0 n0 c0)) 28))
  have q0 : row (w.alloc (.cells (boxC k0 m0 (.slice A0 n0 c0)) 28)) w.heap.size = some (boxC k0 m0 (.slice A0 n0 c0)) := row_alloc_at _ _ _ _ rfl
  have HS0 := Lib.hid hs0
  have HS1 := Lib.hid hs1
  have HS2 := Lib.hid hs2
  have hn0 := hs0.le
  have hn1 := hs1.le
  have hn2 := hs2.le
  clear hs0 hs1 hs2
  go_enter Try.func7, Try.ntmps7
  go_wp2_with fail
  refine (shown_any _).mono ?_
  rintro e w1 ⟨rfl, hb1⟩
  have r0 := carry hb1 q0
  have B1 := Lib.hid (onto B0.out (by simp) hb1)
  clear hb1 B0 q0
  go_wp2_with fail
  obtain ⟨L, hL⟩ : ∃ L, L = min n2 1000 := ⟨_, rfl⟩
  obtain ⟨M, hM⟩ : ∃ M, M = min n0 1000 := ⟨_, rfl⟩
  obtain ⟨K, hK⟩ : ∃ K, K = min n1 1000 := ⟨_, rfl⟩
  have HF := Lib.hid (fun w : World => few_any A0 n0 c0 hn0 hm0 w)
  have HFL := Lib.hid (fun w : World => few_any A2 n2 c2 hn2 hm2 w)
  have HFK := Lib.hid (fun w : World => few_any A1 n1 c1 hn1 hm1 w)
  rw [← hM] at HF
  rw [← hL] at HFL
  rw [← hK] at HFK
  have HSL := Lib.hid (HS2.out.upto L (by omega))
  have HSM := Lib.hid (HS0.out.upto M (by omega))
  have HSK := Lib.hid (HS1.out.upto K (by omega))
  have hL0 : L ≤ 1000 := by omega
  have HLM := Lib.hid (show M ≤ 1099511627776 ∧ K ≤ 1099511627776 ∧ L ≤ 1099511627776 by omega)
  clear hL hM hK hn0 hn1 hn2 hm0 hm1 hm2 HS0 HS1 HS2
  refine (HFL.out _).mono ?_
  rintro e w2 ⟨rfl, rfl⟩
  go_wp2_with fail
  refine (HFK.out _).mono ?_
  rintro e w2 ⟨rfl, rfl⟩
  go_wp2_with fail
  refine flow_seen [([0, 1, 2, 3, 4, 5, 7], 6, false), ([], 8, false)] [9] (by kernel_rfl) (by kernel_rfl) (fun _ _ _ _ _ h => h) fun X => ?_
  have t0 := carry X.below r0
  have B2 := Lib.hid (onto B1.out B1.out.size X.below)
  clear r0 B1
  generalize X.val = w2 at t0 B2 ⊢
  clear X
  have hK := fun x : After w2 => box_ld_key (After.row t0 x)
  have hN := fun x : After w2 => box_ld_non (After.row t0 x)
  have hC := fun x : After w2 => box_cell (After.row t0 x)
  simp only [wpFs, pk, List.getElem?_cons_zero, List.getElem?_cons_succ]
  repeat (go_big_quiet_step (fail))
  refine wpQuiet_nil ?_
  clear hK hN hC
  go_wp2_with fail
  refine (HF.out _).mono ?_
  rintro e w3 ⟨rfl, rfl⟩
  go_wp2_with fail
  refine ⟨.inr (Below.refl _ _), ?_⟩
  show wpQuiet _ _ _ _ _ _
  refine wpQuiet_nil ?_
  go_wp2_with fail
  refine (gseal_any k0 m0 f0 M c0 A0 a2 L c2 A2 _ ((HSM.out.below B2.out).more B2.out.size) ((HSL.out.below B2.out).more B2.out.size) HLM.out.1 HLM.out.2.2).mono ?_
  rintro e w4 ⟨v8, rfl, ho, hb4⟩
  obtain ⟨N8, hN8⟩ : ∃ N8, N8 = L + 16 := ⟨_, rfl⟩
  obtain ⟨A8, c8, rfl, h8, -, -⟩ := ho.sl
  rw [← hN8] at h8
  have HN8 := Lib.hid hN8
  have HS8 := Lib.hid h8
  have B4 := Lib.hid (onto B2.out B2.out.size hb4)
  have r4 := carry hb4 t0
  rw [← hN8]
  clear hN8
  go_wp2_with fail
  refine ⟨.inr hb4, ?_⟩
  clear t0 B2 ho h8 hb4
  have hK := box_ld_key r4
  have hN := box_ld_non r4
  have HR4 := Lib.hid r4
  clear r4
  show wpQuiet _ _ _ _ _ _
  repeat (go_big_quiet_step (fail))
  refine wpQuiet_nil ?_
  go_wp2_with fail
  refine (gseal_any k0 m0 a1 K c1 A1 a2 L c2 A2 _ ((HSK.out.below B4.out).more B4.out.size) ((HSL.out.below B4.out).more B4.out.size) HLM.out.2.1 HLM.out.2.2).mono ?_
  rintro e w5 ⟨v9, rfl, ho, hb5⟩
  obtain ⟨A9, c9, rfl, h9, -, -⟩ := ho.sl
  rw [← HN8.out] at h9 ⊢
  have HS9 := Lib.hid h9
  have HT8 := Lib.hid ((HS8.out.below hb5).more hb5.size)
  have B5 := Lib.hid (onto B4.out B4.out.size hb5)
  have r5 := carry hb5 HR4.out
  clear HR4 HS8 B4 ho h9 hb5 hK hN
  have hEq : ((N8 : Int) == (L : Int) + 16) = true := by have := HN8.out; simp; omega
  have hEq2 : ((N8 : Int) != (L : Int) + 16) = false := by have := HN8.out; simp; omega
  go_wp2_with fail
  obtain ⟨X, hX⟩ : ∃ X, X = xorS k0 m0 2 a2 := ⟨_, rfl⟩
  obtain ⟨T, hT⟩ : ∃ T, T = tagF k0 m0 f0 M X L := ⟨_, rfl⟩
  have HT := Lib.hid hT
  have hcat : ∀ (s : Bf) (ns : Nat) (i : Nat), i < L → sealF k0 m0 s ns a2 L i = X i := fun s ns i hi => by unfold sealF catF; rw [if_pos hi, hX]
  have hoff : ∀ i, i < 16 → offF (sealF k0 m0 f0 M a2 L) L i = T i := fun i hi => by unfold offF sealF catF; rw [if_neg (by omega), Nat.add_sub_cancel_left, hT, hX]
  have HP8 := Lib.hid ((HT8.out.upto L (by have := HN8.out; omega)).congr (hcat f0 M))
  have HP9 := Lib.hid ((HS9.out.upto L (by have := HN8.out; omega)).congr (hcat a1 K))
  obtain ⟨Q8, e8, hQ8, hfrom⟩ : ∃ Q8, Q8 = 16 ∧ Sl w5 w5.heap.size (cutA A8 c8 L) Q8 (c8 - L) T ∧ ∀ w, (Instr.slice 26 (.slice A8 N8 c8) (some (.int .i64 (L : Int))) none none).run Try.prog w = .ok (.slice (cutA A8 c8 L) Q8 (c8 - L)) w :=
    ⟨N8 - L, by have := HN8.out; omega, (HT8.out.from_ L (by have := HN8.out; omega)).congr (fun i hi => hoff i (by have := HN8.out; omega)), run_from sli_u u8_i A8 N8 c8 L (by have := HN8.out; omega)⟩
  subst e8
  have HQ8 := Lib.hid hQ8
  have hup8 := run_upto sli_u u8_i A8 N8 c8 L (by have := HT8.out.le; have := HN8.out; omega)
  have hup9 := run_upto sli_u u8_i A9 N8 c9 L (by have := HS9.out.le; have := HN8.out; omega)
  have HXX := Lib.hid hX
  clear hT hcat hoff hQ8 hX hEq hEq2
  refine flow_float 11 _ (ba 16 fun _ => 0#8) [([0, 1, 2, 3, 4, 5, 7, 8, 9], 6), ([], 10)] [] [([], 12, true)] [] (by kernel_rfl) (by kernel_rfl) rfl rfl (fun _ _ _ _ _ h => h) (fun _ _ _ _ _ h => h) (fun ρ w => ?_) fun Z => ?_
  · simp only [execOp, go_sem, Sem.run_bind, Result.andThen]
    exact ⟨_, rfl, by simp [go_sem], (Below.refl _ _).alloc (Nat.le_refl _) _⟩
  have t5 := carry Z.below r5
  have B6 := Lib.hid (onto B5.out B5.out.size Z.below)
  have HZ5 := Lib.hid (show w.heap.size < w5.heap.size from row_lt r5)
  have HU8 := Lib.hid (HP8.out.below Z.below)
  have HU9 := Lib.hid (HP9.out.below Z.below)
  have HUQ := Lib.hid (HQ8.out.below Z.below)
  have hz6 : w5.heap.size ≤ Z.val.heap.size := Z.below.size
  generalize w5.heap.size = Z5 at HZ5 HU8 HU9 HUQ hz6 ⊢
  generalize Z.val = w6 at t5 B6 HU8 HU9 HUQ hz6 ⊢
  clear Z r5 B5 HP8 HP9 HQ8 HT8 HS9
  have hK := fun x : After w6 => box_ld_key (After.row t5 x)
  have hN := fun x : After w6 => box_ld_non (After.row t5 x)
  have hC := fun x : After w6 => box_cell (After.row t5 x)
  simp only [wpFu, wpFs, pk, List.getElem?_cons_zero, List.getElem?_cons_succ]
  repeat (go_big_quiet_step (fail))
  refine wpQuiet_nil ?_
  clear hK hN hC
  intro x1
  go_wp2_with fail
  refine (HF.out _).mono ?_
  rintro e w7 ⟨rfl, rfl⟩
  go_wp2_with fail
  refine ⟨Below.refl _ _, ?_⟩
  have B7 := Lib.hid (onto B6.out B6.out.size x1.below)
  have r7 := carry x1.below t5
  have HV8 := Lib.hid (HU8.out.below (x1.below.mono hz6))
  have HV9 := Lib.hid (HU9.out.below (x1.below.mono hz6))
  have HVQ := Lib.hid (HUQ.out.below (x1.below.mono hz6))
  have hz7 : Z5 ≤ x1.val.heap.size := Nat.le_trans hz6 x1.below.size
  generalize x1.val = w7 at B7 r7 HV8 HV9 HVQ hz7 ⊢
  clear x1 t5 B6 HU8 HU9 HUQ
  show wpQuiet _ _ _ _ _ _
  refine wpQuiet_nil ?_
  intro x2
  have hx2 := onto B7.out B7.out.size x2.below
  go_wp2_with fail
  refine (gtag_any k0 m0 f0 M c0 A0 X L c8 A8 _ ((HSM.out.below hx2).more hx2.size) ((HV8.out.below (x2.below.mono hz7)).more (Nat.le_trans hz7 x2.below.size)) HLM.out.1 HLM.out.2.2).mono ?_
  rintro e w8 ⟨rfl, hb8⟩
  rw [← HT.out]
  have B8 := Lib.hid (onto hx2 hx2.size hb8)
  have r8 := carry hb8 (carry x2.below r7)
  have hz8 : Z5 ≤ x2.val.heap.size := Nat.le_trans hz7 x2.below.size
  have HW8 := Lib.hid ((HV8.out.below (x2.below.mono hz7)).below (hb8.mono hz8))
  have HW9 := Lib.hid ((HV9.out.below (x2.below.mono hz7)).below (hb8.mono hz8))
  have HWQ := Lib.hid ((HVQ.out.below (x2.below.mono hz7)).below (hb8.mono hz8))
  have hz9 : Z5 ≤ w8.heap.size := Nat.le_trans hz8 hb8.size
  go_wp2_with fail
  refine ⟨hb8, ?_⟩
  clear hb8 hx2 hz8 x2 r7 B7 HV8 HV9 HVQ
  show wpQuiet _ _ _ _ _ _
  refine wpQuiet_nil ?_
  intro Y p hp hrow
  have HY := Lib.hid (onto B8.out B8.out.size Y.below)
  have r9 := carry Y.below r8
  have HX8 := Lib.hid (HW8.out.below (Y.below.mono hz9))
  have HX9 := Lib.hid (HW9.out.below (Y.below.mono hz9))
  have HXQ := Lib.hid (HWQ.out.below (Y.below.mono hz9))
  clear r8 B8 HW8 HW9 HWQ hz9 hz7 hz6
  generalize Y.val = w9 at hrow HY r9 HX8 HX9 HXQ ⊢
  clear Y
  refine wpQuiet_nil ?_
  unfold ptr
  go_wp2_with fail
  refine ⟨.inl trivial, ?_⟩
  have hset : Below Z5 w9 (w9.setRow p (ba 16 T)) := below_setRow (Below.refl _ _) hp _
  have HZ := Lib.hid (below_setRow HY.out (show w.heap.size ≤ p by have := HZ5.out; omega) (ba 16 T))
  have ta : row (w9.setRow p (ba 16 T)) w.heap.size = some (boxC k0 m0 (.slice A0 n0 c0)) := by rw [row_setRow_other _ _ _ _ (by have := HZ5.out; omega)]; exact r9
  have tp : row (w9.setRow p (ba 16 T)) p = some (ba 16 T) := row_setRow hrow _
  have HE8 := Lib.hid (HX8.out.below hset)
  have HE9 := Lib.hid (HX9.out.below hset)
  have HEQ := Lib.hid (HXQ.out.below hset)
  have hzp : Z5 ≤ (w9.setRow p (ba 16 T)).heap.size := by have := row_lt tp; omega
  clear hset r9 hrow HX8 HX9 HXQ HY
  generalize w9.setRow p (ba 16 T) = wa at HZ ta tp HE8 HE9 HEQ hzp ⊢
  show wpQuiet _ _ _ _ _ _
  refine wpQuiet_nil ?_
  go_wp2_with fail
  obtain ⟨SX, hSX⟩ : ∃ SX, SX = Oct.strOf L X := ⟨_, rfl⟩
  obtain ⟨ST, hST⟩ : ∃ ST, ST = Oct.strOf 16 T := ⟨_, rfl⟩
  have HSX := Lib.hid hSX
  have HST := Lib.hid hST
  clear hSX hST
  refine flow_seen [([0, 1, 2, 3, 4, 5, 6, 7, 8, 9, 10, 11, 12, 13, 14, 15, 16, 17, 18, 19, 20, 21], 22, false)] [23, 24, 25, 26, 27, 28, 29, 30, 31, 32, 33, 34, 35] (by kernel_rfl) (by kernel_rfl) (fun _ _ _ _ _ h => h) fun V => ?_
  have tb := carry V.below ta
  have HB := Lib.hid (onto HZ.out HZ.out.size V.below)
  have tq := carry V.below tp
  have HG8 := Lib.hid ((HE8.out.below (V.below.mono hzp)).more (Nat.le_trans hzp V.below.size))
  have HG9 := Lib.hid ((HE9.out.below (V.below.mono hzp)).more (Nat.le_trans hzp V.below.size))
  have HGQ := Lib.hid ((HEQ.out.below (V.below.mono hzp)).more (Nat.le_trans hzp V.below.size))
  clear ta tp HZ HE8 HE9 HEQ hzp
  generalize V.val = wb at tb tq HB HG8 HG9 HGQ ⊢
  clear V
  have hK := fun x : After wb => box_ld_key (After.row tb x)
  have hN := fun x : After wb => box_ld_non (After.row tb x)
  have cv8 : ∀ x : After wb, (convert 26 9 (.slice A8 L c8)).run Try.prog x.val = .ok (.string SX) x.val := fun x => by
    rw [HSX.out]; exact run_str sli_u u8_u str_u (After.sl HG8.out x)
  have cv9 : ∀ x : After wb, (convert 26 9 (.slice A9 L c9)).run Try.prog x.val = .ok (.string SX) x.val := fun x => by
    rw [HSX.out]; exact run_str sli_u u8_u str_u (After.sl HG9.out x)
  simp only [wpFs, pk, List.getElem?_cons_zero, List.getElem?_cons_succ]
  repeat (go_big_quiet_step (fail))
  refine wpQuiet_nil ?_
  clear hK hN cv8 cv9
  go_wp2_with fail
  refine (gxor_any k0 m0 2 (by decide) a2 L c2 A2 _ ((HSL.out.below HB.out).more HB.out.size) HLM.out.2.2).mono ?_
  rintro e wc ⟨v80, rfl, ho, hbc⟩
  rw [← HXX.out] at ho
  obtain ⟨Ax, cx, rfl, hx, -, -⟩ := ho.sl
  have Hx := Lib.hid hx
  have HC := Lib.hid (onto HB.out HB.out.size hbc)
  have tr := carry hbc tq
  have HHQ := Lib.hid ((HGQ.out.below hbc).more hbc.size)
  go_wp2_with fail
  refine ⟨.inr hbc, ?_⟩
  clear ho hx hbc tb tq HB HG8 HG9 HGQ
  have cvx : ∀ x : After wc, (convert 26 9 (.slice Ax L cx)).run Try.prog x.val = .ok (.string SX) x.val := fun x => by
    rw [HSX.out]; exact run_str sli_u u8_u str_u (After.sl Hx.out x)
  have cvq : ∀ x : After wc, (convert 26 9 (.slice (cutA A8 c8 L) 16 (c8 - L))).run Try.prog x.val = .ok (.string ST) x.val := fun x => by
    rw [HST.out]; exact run_str sli_u u8_u str_u (After.sl HHQ.out x)
  have cvp : ∀ x : After wc, (convert 26 9 (.slice (some ⟨p, 0, none⟩) 16 16)).run Try.prog x.val = .ok (.string ST) x.val := fun x => by
    rw [HST.out]; exact run_str sli_u u8_u str_u (Sl.of_row (After.row tr x) x.val.heap.size (row_lt (After.row tr x)))
  show wpQuiet _ _ _ _ _ _
  repeat (go_big_quiet_step (fail))
  refine wpQuiet_nil ?_
  clear cvx cvq cvp
  go_wp2
  go_ret
  exact ⟨rfl, HC.out⟩

set_option maxRecDepth 100000 in
theorem lifted (os : Os) (started : os.Started) (H : Type) (enc : TypeId × Value → H) :
    ReturnsInHanded {} Try.checked os 7 .any (Rows.gcmPartsSpec.pre6 enc Try.prog Try.f7 Rows.gcmPartsRow.domain false) (Rows.gcmPartsSpec.post enc Try.prog Try.f7 false true false false) := by
  refine returnsInHanded_of_change (C := Try.checked) own started (by kernel_rfl) Try.func7
    (ChangeSpec.witness6 (enc := enc) (C := Try.checked) false ⟨#[], #[.agg (Array.replicate 32 (.int .u8 0) ++ Array.replicate 12 (.int .u8 0) ++ #[.slice none 0 0]), .slice none 0 0, .slice none 0 0], []⟩ 8 (by kernel_rfl) (by kernel_rfl) (by kernel_rfl) (by kernel_rfl)) ?_
  intro W base args ds gs before hval0 hW hcnd _
  have hval : ∀ (j : Nat) t v, Try.f7.params[j]? = some t → args[j]? = some v → Value.okWide Try.prog W .any base t v := hval0
  have hW' := hW
  obtain ⟨p, q, hA0, hV, rfl, hfz, hnd⟩ := hW
  have hA : DataW.TrodAll enc Try.prog W 0 (fun _ => true) true Try.f7.params.toList args.toList ds p := hA0
  rw [Try.params7] at hA hval
  obtain ⟨v0, vs0, d0, ds0, p0, q0, hargs, rfl, rfl, h0, r0⟩ := trodAll_cons hA
  obtain ⟨v1, vs1, d1, ds1, p1, q1, rfl, rfl, rfl, h1, r1⟩ := trodAll_cons r0
  obtain ⟨v2, vs2, d2, ds2, p2, q2, rfl, rfl, rfl, h2, r2⟩ := trodAll_cons r1
  obtain ⟨rfl, rfl, rfl⟩ := trodAll_nil r2
  obtain rfl : args = #[v0, v1, v2] := by cases args; simp_all
  obtain ⟨rfl, rfl⟩ := trodVars_none hV
  have k0 := h0
  have lt0 : ∀ x ∈ p0, x.block < W.heap.size := by obtain ⟨m, hm⟩ := k0; exact DataW.trod_lt m _ _ _ hm
  obtain ⟨kb0, mb0, A0, n0, c0, fb0, rfl, hs0, hm0⟩ := open_box (hval 0 28 v0 rfl rfl) h0
  have k1 := h1
  have lt1 : ∀ x ∈ p1, x.block < W.heap.size := by obtain ⟨m, hm⟩ := k1; exact DataW.trod_lt m _ _ _ hm
  obtain ⟨A1, n1, c1, a1, rfl, hs1, hm1⟩ := open_sl Try.underlying26 Try.underlying5 (by kernel_rfl) (hval 1 26 v1 rfl rfl) h1
  have k2 := h2
  have lt2 : ∀ x ∈ p2, x.block < W.heap.size := by obtain ⟨m, hm⟩ := k2; exact DataW.trod_lt m _ _ _ hm
  obtain ⟨A2, n2, c2, a2, rfl, hs2, hm2⟩ := open_sl Try.underlying26 Try.underlying5 (by kernel_rfl) (hval 2 26 v2 rfl rfl) h2
  clear hA0 hval0
  refine (walk kb0 mb0 fb0 n0 c0 A0 a1 n1 c1 A1 a2 n2 c2 A2 W hs0 hm0 hs1 hm1 hs2 hm2).mono fun e W' ⟨he, bel⟩ => ?_
  subst he
  exact ⟨_, rfl, _, _, _, [], _, [], hW', trodAll_mk1 (shut_bool Try.underlying4 _), (trodAll_cons_mk (Below.trod laidOut (by kernel_rfl) (of_decide_eq_true (by kernel_rfl)) k0 bel lt0) (trodAll_cons_mk (Below.trod laidOut (by kernel_rfl) (of_decide_eq_true (by kernel_rfl)) k1 bel lt1) (trodAll_cons_mk (Below.trod laidOut (by kernel_rfl) (of_decide_eq_true (by kernel_rfl)) k2 bel lt2) trodAll_mk0))), rfl, bel.frame _, fun h => by cases h⟩

theorem over : Rows.gcmPartsRow.holds Try.pinned (OpenSpec.ofChange Rows.gcmPartsSpec) :=
  OpenClaim.holds_of_wide 7 Try.f7 rfl rfl rfl rfl rfl rfl rfl ⟨rfl, rfl, rfl, rfl, rfl⟩ rfl rfl rfl rfl rfl (by kernel_rfl) Try.func7 (by kernel_rfl)
    (of_decide_eq_true (by kernel_rfl)) (by unfold Func.isWrapper; first | (rw [if_pos (by decide +kernel)]; kernel_rfl) | (rw [if_neg (by decide +kernel)]; exact ⟨rfl, rfl⟩))
    (fun os started H enc _ => lifted os started H enc)

theorem proved : Rows.GcmPartsSaid := over
#print axioms proved
end Go.Proofs.Ytokhldihfbaeoaa.gcmParts
