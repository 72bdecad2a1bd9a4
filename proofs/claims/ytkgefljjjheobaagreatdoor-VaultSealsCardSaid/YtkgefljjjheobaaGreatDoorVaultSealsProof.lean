/- The statement VaultSeals: the law strongroomlaw12.VaultSeals answers true for every input, and leaves its arguments as they were. Condition: the package variables that the row lists read at the call as the text of the program lays them; the card ties that. -/
import Derived.Test.YtkgefljjjheobaaGreatDoorRows
import Derived.Test.YtkgefljjjheobaaGreatDoorLib
import Derived.Test.YtkgefljjjheobaaGreatDoorVlS
import Derived.Test.YtkgefljjjheobaaGreatDoorVlF
import Derived.Test.YtkgefljjjheobaaGreatDoorTab
import Derived.Test.YtkgefljjjheobaaGreatDoorCards
import Derived.Test.YtkgefljjjheobaaGreatDoorTie
import Derived.SevenTiedAt
namespace Go.Proofs.YtkgefljjjheobaaGreatDoor.vaultSeals
open Go.ChangeShapes Go.WideShapes Go.ChangeAt Go.RowKit
open Go.Proofs.YtkgefljjjheobaaGreatDoor.Oct
set_option linter.unusedVariables false

theorem own : ownKnob Tryz.prog.godebug = none := by kernel_rfl
theorem laidOut : laidOutB Tryz.prog = true := by kernel_rfl

set_option maxRecDepth 20000 in
set_option maxHeartbeats 4000000 in
theorem walk (a0 : Nat → BitVec 8) (d1 t1 x1 : Int) (a2 : Nat → BitVec 8) (n2 c2 : Nat) (A2 : Option Addr) (w : World)  (hs2 : Sl w w.heap.size A2 n2 c2 a2) (hm2 : c2 ≤ maxLen) (htab : Tab w) :
    Calls Tryz.prog 3 #[.agg (ba 32 a0), .agg (atC d1 t1 x1), .slice A2 n2 c2] w fun e w' => e = .returned (.bool true) ∧ Below w.heap.size w w' := by
  have HT := Lib.hid htab
  have HS2 := Lib.hid hs2
  have hn2 := hs2.le
  obtain ⟨w0, hw0⟩ : ∃ w0, w0 = (w.alloc (.cells (ba 32 a0) 23)).alloc (.cells (atC d1 t1 x1) 25) := ⟨_, rfl⟩
  have B0 := Lib.hid (show Below w.heap.size w w0 by rw [hw0]; exact ((Below.refl w.heap.size w).alloc (by simp) _).alloc (by simp) _)
  have q0 : row w0 w.heap.size = some (ba 32 a0) := by rw [hw0]; simp [go_sem]
  have q1 : row w0 (w.heap.size + 1) = some (atC d1 t1 x1) := by rw [hw0]; simp [go_sem]
  clear htab hs2
  go_enter Tryz.func3, Tryz.ntmps3
  go_wp2_with fail
  rw [← hw0]
  clear hw0
  refine (shown_any w0 (HT.out.below B0.out HT.out.pos)).mono ?_
  rintro e w1 ⟨rfl, hb1⟩
  have B1 := Lib.hid (onto B0.out B0.out.size hb1)
  have r0 := carry hb1 q0
  have r1 := carry hb1 q1
  clear hb1 q0 q1 B0
  go_wp2_with fail
  refine (few_any A2 n2 c2 hn2 hm2 _).mono ?_
  rintro e w1' ⟨rfl, rfl⟩
  obtain ⟨N, hN⟩ : ∃ N, N = min n2 500 := ⟨_, rfl⟩
  rw [← hN]
  have hN5 : N ≤ 500 := by omega
  have S1 := Lib.hid (((HS2.out.upto N (by omega)).below B1.out).more B1.out.size)
  clear hN HS2 hn2 hm2
  -- the copy
  have HO1 := Own.empty w1 w1.heap.size 5 a2 (Nat.le_refl _)
  have ba := (Below.refl w1.heap.size w1).alloc (Nat.le_refl _) (.cells #[] 5)
  have HS1 := (S1.out.below ba).more ba.size
  go_wp2_with (at_builtin; refine wpl_appB rfl (.tmp 20) (.tmp 21) rfl sli_u u8_info HO1 HS1 (by omega) (by simp) rfl rfl ?_; intro v2 w2 ho hg ht; have bb := HO1.after hg ba (by simp) (Nat.le_refl _); have s0 := carry bb r0; have s1 := carry bb r1; have c0 := at_c0 s1; have c1 := at_c1 s1; have c2' := at_c2 s1)
  rw [catF_zero, Nat.zero_add] at ho
  have B2 := Lib.hid (onto B1.out B1.out.size bb)
  have T2 := Lib.hid ((S1.out.below bb).more bb.size)
  obtain ⟨A8, c8, rfl, h8, -, -⟩ := ho.sl
  have O2 := Lib.hid h8
  clear ho hg ht HO1 ba bb HS1 h8 r0 r1 B1 S1 c0 c1 c2'
  -- sealed
  refine (vseal_any a0 d1 t1 x1 a2 N c8 A8 w2 (HT.out.below B2.out HT.out.pos) O2.out (by omega)).mono ?_
  rintro e w3 ⟨v9, rfl, ho, hb⟩
  obtain ⟨E, hE⟩ : ∃ E, E = errU d1 t1 x1 := ⟨_, rfl⟩
  obtain ⟨X, hX⟩ : ∃ X, X = vsN d1 t1 x1 N := ⟨_, rfl⟩
  obtain ⟨f9, hf9⟩ : ∃ f, f = vsF a0 d1 t1 x1 a2 N := ⟨_, rfl⟩
  rw [← hE]
  rw [← hX, ← hf9] at ho
  have HE := Lib.hid hE
  have HX := Lib.hid hX
  have Hf9 := Lib.hid hf9
  obtain ⟨A9, c9, rfl, h9, -, -⟩ := ho.sl
  have P3 := Lib.hid h9
  have T3 := Lib.hid ((T2.out.below hb).more hb.size)
  have O3 := Lib.hid ((O2.out.below hb).more hb.size)
  have B3 := Lib.hid (onto B2.out B2.out.size hb)
  have r0 := carry hb s0
  have r1 := carry hb s1
  have c0 := at_c0 r1
  have c1 := at_c1 r1
  have c2' := at_c2 r1
  clear hE hX hf9 ho h9 hb s0 s1 B2 T2 O2
  go_wp2_with fail
  clear c0 c1 c2'
  refine (rvseal_any a0 d1 t1 x1 a2 N c2 A2 w3 T3.out (by omega)).mono ?_
  rintro e w4 ⟨v11, rfl, ho, hb⟩
  rw [← HE.out]
  rw [← HX.out, ← Hf9.out] at ho
  obtain ⟨A11, c11, rfl, h11, -, -⟩ := ho.sl
  have Q4 := Lib.hid h11
  have P4 := Lib.hid ((P3.out.below hb).more hb.size)
  have T4 := Lib.hid ((T3.out.below hb).more hb.size)
  have O4 := Lib.hid ((O3.out.below hb).more hb.size)
  have B4 := Lib.hid (onto B3.out B3.out.size hb)
  have s0 := carry hb r0
  have s1 := carry hb r1
  have c0 := at_c0 s1
  have c1 := at_c1 s1
  have c2' := at_c2 s1
  clear ho h11 hb r0 r1 B3 T3 O3 P3
  go_wp2_with fail
  clear c0 c1 c2'
  -- opened
  refine (vopen_any a0 d1 t1 x1 a2 N c8 A8 w4 (HT.out.below B4.out HT.out.pos) O4.out (by omega)).mono ?_
  rintro e w5 ⟨v13, rfl, ho, hb⟩
  obtain ⟨F, hF⟩ : ∃ E, E = voC a0 d1 t1 x1 a2 N := ⟨_, rfl⟩
  obtain ⟨Y, hY⟩ : ∃ X, X = voL a0 d1 t1 x1 a2 N := ⟨_, rfl⟩
  obtain ⟨f13, hf13⟩ : ∃ f, f = voF a0 d1 t1 x1 a2 := ⟨_, rfl⟩
  rw [← hF]
  rw [← hY, ← hf13] at ho
  have HF := Lib.hid hF
  have HY := Lib.hid hY
  have Hf13 := Lib.hid hf13
  obtain ⟨A13, c13, rfl, h13, -, -⟩ := ho.sl
  have R5 := Lib.hid h13
  have Q5 := Lib.hid ((Q4.out.below hb).more hb.size)
  have P5 := Lib.hid ((P4.out.below hb).more hb.size)
  have T5 := Lib.hid ((T4.out.below hb).more hb.size)
  have O5 := Lib.hid ((O4.out.below hb).more hb.size)
  have B5 := Lib.hid (onto B4.out B4.out.size hb)
  have r0 := carry hb s0
  have r1 := carry hb s1
  have c0 := at_c0 r1
  have c1 := at_c1 r1
  have c2' := at_c2 r1
  clear hF hY hf13 ho h13 hb s0 s1 B4 T4 O4 P4 Q4
  go_wp2_with fail
  clear c0 c1 c2'
  refine (rvopen_any a0 d1 t1 x1 a2 N c2 A2 w5 T5.out (by omega)).mono ?_
  rintro e w6 ⟨v15, rfl, ho, hb⟩
  rw [← HF.out]
  rw [← HY.out, ← Hf13.out] at ho
  obtain ⟨A15, c15, rfl, h15, -, -⟩ := ho.sl
  have U6 := Lib.hid h15
  have R6 := Lib.hid ((R5.out.below hb).more hb.size)
  have Q6 := Lib.hid ((Q5.out.below hb).more hb.size)
  have P6 := Lib.hid ((P5.out.below hb).more hb.size)
  have T6 := Lib.hid ((T5.out.below hb).more hb.size)
  have O6 := Lib.hid ((O5.out.below hb).more hb.size)
  have B6 := Lib.hid (onto B5.out B5.out.size hb)
  obtain ⟨SS, hSS⟩ : ∃ S, S = Oct.strOf X f9 := ⟨_, rfl⟩
  obtain ⟨SO, hSO⟩ : ∃ S, S = Oct.strOf Y f13 := ⟨_, rfl⟩
  obtain ⟨SA, hSA⟩ : ∃ S, S = Oct.strOf N a2 := ⟨_, rfl⟩
  have cv9 : (convert 26 9 (.slice A9 X c9)).run Tryz.prog w6 = .ok (.string SS) w6 := by rw [hSS]; exact run_str sli_u u8_u str_u P6.out
  have cv11 : (convert 26 9 (.slice A11 X c11)).run Tryz.prog w6 = .ok (.string SS) w6 := by rw [hSS]; exact run_str sli_u u8_u str_u Q6.out
  have cv13 : (convert 26 9 (.slice A13 Y c13)).run Tryz.prog w6 = .ok (.string SO) w6 := by rw [hSO]; exact run_str sli_u u8_u str_u R6.out
  have cv15 : (convert 26 9 (.slice A15 Y c15)).run Tryz.prog w6 = .ok (.string SO) w6 := by rw [hSO]; exact run_str sli_u u8_u str_u U6.out
  have cv8 : (convert 26 9 (.slice A8 N c8)).run Tryz.prog w6 = .ok (.string SA) w6 := by rw [hSA]; exact run_str sli_u u8_u str_u O6.out
  have cv2 : (convert 26 9 (.slice A2 N c2)).run Tryz.prog w6 = .ok (.string SA) w6 := by rw [hSA]; exact run_str sli_u u8_u str_u T6.out
  clear ho h15 hb r0 r1 B5 T5 O5 P5 Q5 R5 hSS hSO hSA
  go_wp2_with fail
  go_ret
  exact ⟨rfl, B6.out⟩

set_option maxRecDepth 100000 in
theorem lifted (os : Os) (started : os.Started) (H : Type) (enc : TypeId × Value → H) :
    ReturnsInHanded {} Tryz.checked os 3 .any (fun w args => (Rows.vaultSealsSpec.pre enc Tryz.prog Tryz.f3 [] false w args ∧ laidMetH Tryz.prog laidL w) ∧ sizedMet enc Tryz.prog Tryz.f3 (OpenSpec.ofChange Rows.vaultSealsSpec) false w args) (Rows.vaultSealsSpec.post enc Tryz.prog Tryz.f3 false true false false) := by
  refine returnsInHanded_of_change_and (C := Tryz.checked) (X := fun w _ => laidMetH Tryz.prog laidL w) (fun _ _ _ hh h => h.of_heap hh) own started (by kernel_rfl) Tryz.func3
    (ChangeSpec.witness_shaped (enc := enc) (C := Tryz.checked) (os := os) (X := fun w _ => laidMetH Tryz.prog laidL w) false (World.doorLaid Tryz.prog 14 os) #[.agg (Array.replicate 32 (.int .u8 0)), .agg #[.int .i64 0, .int .i64 0, .int .i64 0], .slice none 0 0] 8 rfl (World.shaped_of_RefB (by kernel_rfl) (by kernel_rfl)) (by kernel_rfl) (by kernel_rfl) (by kernel_rfl) (door_met os _)) ?_
  intro W base args ds gs before hval0 hW _ hsz0 hL _
  have hval : ∀ (j : Nat) t v, Tryz.f3.params[j]? = some t → args[j]? = some v → Value.okWide Tryz.prog W .any base t v := hval0
  have hW' := hW
  obtain ⟨p, q, hA0, hV, rfl, hfz, hnd⟩ := hW
  have hA : DataW.TrodAll enc Tryz.prog W 0 (fun _ => true) true Tryz.f3.params.toList args.toList ds p := hA0
  rw [Tryz.params3] at hA hval
  obtain ⟨v0, vs0, d0, ds0, p0, q0, hargs, rfl, rfl, h0, r0⟩ := trodAll_cons hA
  obtain ⟨v1, vs1, d1, ds1, p1, q1, rfl, rfl, rfl, h1, r1⟩ := trodAll_cons r0
  obtain ⟨v2, vs2, d2, ds2, p2, q2, rfl, rfl, rfl, h2, r2⟩ := trodAll_cons r1
  obtain ⟨rfl, rfl, rfl⟩ := trodAll_nil r2
  obtain rfl : args = #[v0, v1, v2] := by cases args; simp_all
  obtain ⟨rfl, rfl⟩ := trodVars_none hV
  have k0 := h0
  have lt0 : ∀ x ∈ p0, x.block < W.heap.size := by obtain ⟨m, hm⟩ := k0; exact DataW.trod_lt m _ _ _ hm
  obtain ⟨a0, rfl⟩ := open_bytes Tryz.underlying23 Tryz.underlying5 (by kernel_rfl) (by kernel_rfl) (hval 0 23 v0 rfl rfl) h0
  have k1 := h1
  have lt1 : ∀ x ∈ p1, x.block < W.heap.size := by obtain ⟨m, hm⟩ := k1; exact DataW.trod_lt m _ _ _ hm
  obtain ⟨db1, tb1, xb1, rfl⟩ := open_at (hval 1 25 v1 rfl rfl) h1
  have k2 := h2
  have lt2 : ∀ x ∈ p2, x.block < W.heap.size := by obtain ⟨m, hm⟩ := k2; exact DataW.trod_lt m _ _ _ hm
  obtain ⟨A2, n2, c2, a2, rfl, hs2, hm2⟩ := open_sl Tryz.underlying26 Tryz.underlying5 (by kernel_rfl) (hval 2 26 v2 rfl rfl) h2
  clear hA0 hval0
  refine (walk a0 db1 tb1 xb1 a2 n2 c2 A2 W  hs2 hm2 (tab_of hL)).mono fun e W' ⟨he, bel⟩ => ?_
  subst he
  exact ⟨_, rfl, _, _, _, [], _, [], hW', trodAll_mk1 (shut_bool Tryz.underlying4 _), (trodAll_cons_mk (Below.trod laidOut (by kernel_rfl) (of_decide_eq_true (by kernel_rfl)) k0 bel lt0) (trodAll_cons_mk (Below.trod laidOut (by kernel_rfl) (of_decide_eq_true (by kernel_rfl)) k1 bel lt1) (trodAll_cons_mk (Below.trod laidOut (by kernel_rfl) (of_decide_eq_true (by kernel_rfl)) k2 bel lt2) trodAll_mk0))), rfl, bel.frame _, fun h => by cases h⟩

theorem over : Rows.vaultSealsRow.holds Tryz.pinned (OpenSpec.ofChange Rows.vaultSealsSpec) :=
  OpenClaim.holds_of_wide 3 Tryz.f3 rfl rfl rfl rfl rfl rfl rfl ⟨rfl, rfl, rfl, rfl, rfl⟩ rfl rfl rfl rfl rfl (by kernel_rfl) Tryz.func3 (by kernel_rfl)
    (of_decide_eq_true (by kernel_rfl)) (by unfold Func.isWrapper; first | (rw [if_pos (by decide +kernel)]; kernel_rfl) | (rw [if_neg (by decide +kernel)]; exact ⟨rfl, rfl⟩))
    (fun os started H enc _ => lifted os started H enc)

theorem proved : Rows.VaultSealsCardSaid :=
  Claim7.holds_tied_plain_at .later [] [.data] true (true, "dcede5bd6398f0a74c78817b34d6aed26750e62af6770f7932c52fc4d4160b97") false
    over (fun _ h => by cases h) (by kernel_rfl) (fun _ h => by cases h) vaultSeals_row_tie rfl ⟨rfl, rfl⟩ (by kernel_rfl) rfl
    (fun f fn hf hfn => by
      obtain rfl : f = 3 := Option.some.inj ((show Tryz.prog.funcNamed "strongroom/strongroomlaw12.VaultSeals" = some 3 by kernel_rfl).symm.trans hf) |>.symm
      obtain rfl : fn = Tryz.f3 := (Option.some.inj (Tryz.func3.symm.trans hfn)).symm
      exact ⟨by kernel_rfl, fun j t ht => by
        rw [Tryz.params3] at ht
        have hm : t ∈ [23, 25, 26] := by simpa using Array.mem_of_getElem? ht
        have hall : ([23, 25, 26].all fun u => !Tryz.prog.wantsStandIn u) = true := by kernel_rfl
        exact (show Tryz.prog.wantsStandIn t = false by simpa using List.all_eq_true.1 hall t hm)⟩)
    (by kernel_rfl)
#print axioms proved
end Go.Proofs.YtkgefljjjheobaaGreatDoor.vaultSeals
