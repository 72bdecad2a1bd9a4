/- The statement VaultBack: the law strongroomlaw12.VaultBack answers true for every input, and leaves its arguments as they were. Condition: the package variables that the row lists read at the call as the text of the program lays them; the card ties that. -/
import Derived.Test.YtkgefljjjheobaaDoorRows
import Derived.Test.YtkgefljjjheobaaDoorLib
import Derived.Test.YtkgefljjjheobaaDoorVlS
import Derived.Test.YtkgefljjjheobaaDoorVlBk
import Derived.Test.YtkgefljjjheobaaDoorTab
import Derived.Test.YtkgefljjjheobaaDoorCards
import Derived.Test.YtkgefljjjheobaaDoorTie
import Derived.SevenTiedAt
namespace Go.Proofs.YtkgefljjjheobaaDoor.vaultBack
open Go.ChangeShapes Go.WideShapes Go.ChangeAt Go.RowKit
open Go.Proofs.YtkgefljjjheobaaDoor.Oct
set_option linter.unusedVariables false

theorem own : ownKnob Tryd.prog.godebug = none := by kernel_rfl
theorem laidOut : laidOutB Tryd.prog = true := by kernel_rfl

set_option maxRecDepth 20000 in
set_option maxHeartbeats 4000000 in
theorem walk (a0 : Nat → BitVec 8) (d1 t1 x1 : Int) (a2 : Nat → BitVec 8) (n2 c2 : Nat) (A2 : Option Addr) (w : World)  (hs2 : Sl w w.heap.size A2 n2 c2 a2) (hm2 : c2 ≤ maxLen) (htab : Tab w) :
    Calls Tryd.prog 4 #[.agg (ba 32 a0), .agg (atC d1 t1 x1), .slice A2 n2 c2] w fun e w' => e = .returned (.bool true) ∧ Below w.heap.size w w' := by
  have HT := Lib.hid htab
  have HS2 := Lib.hid hs2
  have hn2 := hs2.le
  obtain ⟨w0, hw0⟩ : ∃ w0, w0 = (w.alloc (.cells (ba 32 a0) 23)).alloc (.cells (atC d1 t1 x1) 25) := ⟨_, rfl⟩
  have B0 := Lib.hid (show Below w.heap.size w w0 by rw [hw0]; exact ((Below.refl w.heap.size w).alloc (by simp) _).alloc (by simp) _)
  have q0 : row w0 w.heap.size = some (ba 32 a0) := by rw [hw0]; simp [go_sem]
  have q1 : row w0 (w.heap.size + 1) = some (atC d1 t1 x1) := by rw [hw0]; simp [go_sem]
  clear htab hs2
  go_enter Tryd.func4, Tryd.ntmps4
  go_wp2_with fail
  rw [← hw0]
  clear hw0
  refine (shown_any w0 (HT.out.below B0.out HT.out.pos)).mono ?_
  rintro e w1 ⟨rfl, hb1⟩
  have B1 := Lib.hid (onto B0.out B0.out.size hb1)
  have r0 := carry hb1 q0
  have r1 := carry hb1 q1
  clear hb1 q0 q1 B0
  go_wp2_with fail
  refine (few_any A2 n2 c2 hn2 hm2 _).mono ?_
  rintro e w1' ⟨rfl, rfl⟩
  obtain ⟨N, hN⟩ : ∃ N, N = min n2 500 := ⟨_, rfl⟩
  rw [← hN]
  have hN5 : N ≤ 500 := by omega
  have S1 := Lib.hid (((HS2.out.upto N (by omega)).below B1.out).more B1.out.size)
  have c0 := at_c0 r1
  have c1 := at_c1 r1
  have c2' := at_c2 r1
  clear hN HS2 hn2 hm2
  go_wp2_with fail
  clear c0 c1 c2'
  -- sealed
  refine (vseal_any a0 d1 t1 x1 a2 N c2 A2 w1 (HT.out.below B1.out HT.out.pos) S1.out (by omega)).mono ?_
  rintro e w2 ⟨v8, rfl, ho, hb2⟩
  obtain ⟨E, hE⟩ : ∃ E, E = errU d1 t1 x1 := ⟨_, rfl⟩
  obtain ⟨X, hX⟩ : ∃ X, X = vsN d1 t1 x1 N := ⟨_, rfl⟩
  obtain ⟨f8, hf8⟩ : ∃ f, f = vsF a0 d1 t1 x1 a2 N := ⟨_, rfl⟩
  rw [← hE]
  rw [← hX, ← hf8] at ho
  have hX5 : X ≤ 516 := by rw [hX]; unfold vsN; split <;> omega
  have HE := Lib.hid hE
  have HX := Lib.hid hX
  have Hf8 := Lib.hid hf8
  obtain ⟨A8, c8, rfl, h8, -, -⟩ := ho.sl
  have T2 := Lib.hid ((S1.out.below hb2).more hb2.size)
  have V2 := Lib.hid h8
  have s0 := carry hb2 r0
  have s1 := carry hb2 r1
  have B2 := Lib.hid (onto B1.out B1.out.size hb2)
  have c0 := at_c0 s1
  have c1 := at_c1 s1
  have c2' := at_c2 s1
  clear hE hX hf8 ho h8 hb2 r0 r1 B1 S1
  go_wp2_with fail
  clear c0 c1 c2'
  -- opened
  refine (vopen_any a0 d1 t1 x1 f8 X c8 A8 w2 (HT.out.below B2.out HT.out.pos) V2.out (by omega)).mono ?_
  rintro e w3 ⟨v10, rfl, ho, hb3⟩
  obtain ⟨F, hF⟩ : ∃ E, E = voC a0 d1 t1 x1 f8 X := ⟨_, rfl⟩
  obtain ⟨Y, hY⟩ : ∃ Y, Y = voL a0 d1 t1 x1 f8 X := ⟨_, rfl⟩
  obtain ⟨f10, hf10⟩ : ∃ f, f = voF a0 d1 t1 x1 f8 := ⟨_, rfl⟩
  rw [← hF]
  rw [← hY, ← hf10] at ho
  have HF := Lib.hid hF
  have HY := Lib.hid hY
  have Hf10 := Lib.hid hf10
  obtain ⟨A10, c10, rfl, h10, -, -⟩ := ho.sl
  have T3 := Lib.hid ((T2.out.below hb3).more hb3.size)
  have V3 := Lib.hid ((V2.out.below hb3).more hb3.size)
  have U3 := Lib.hid h10
  have r0 := carry hb3 s0
  have r1 := carry hb3 s1
  have B3 := Lib.hid (onto B2.out B2.out.size hb3)
  have c0 := at_c0 r1
  have c1 := at_c1 r1
  have c2' := at_c2 r1
  clear hF hY hf10 ho h10 hb3 s0 s1 B2 T2 V2
  go_wp2_with fail
  clear c0 c1 c2'
  -- the nonce
  refine (vnon_any d1 t1 x1 w3).mono ?_
  rintro e w4 ⟨rfl, hb4⟩
  obtain ⟨G, hG⟩ : ∃ G, G = nonU d1 t1 x1 := ⟨_, rfl⟩
  rw [← hG, ← HE.out]
  have HG := Lib.hid hG
  have b4 := hb4.alloc hb4.size (.cells (ba 12 G) 31)
  have s0 := carry b4 r0
  have s1 := carry b4 r1
  have sG : row (w4.alloc (.cells (ba 12 G) 31)) w4.heap.size = some (ba 12 G) := row_alloc_at _ _ _ _ rfl
  have B4 := Lib.hid (onto B3.out B3.out.size b4)
  have T4 := Lib.hid ((T3.out.below b4).more b4.size)
  have V4 := Lib.hid ((V3.out.below b4).more b4.size)
  have U4 := Lib.hid ((U3.out.below b4).more b4.size)
  have c0 := at_c0 s1
  clear hb4 b4 r0 r1 B3 hG T3 V3 U3
  obtain ⟨S1, hS1⟩ : ∃ S, S = w4.heap.size := ⟨_, rfl⟩
  rw [← hS1] at sG
  have HS1 := Lib.hid hS1
  clear hS1
  go_wp2_with fail
  rw [← HS1.out]
  clear c0 HS1
  generalize w4.alloc (.cells (ba 12 G) 31) = w5 at s0 s1 sG B4 T4 V4 U4 ⊢
  -- the key
  refine (vkey_any a0 d1 w5 (HT.out.below B4.out HT.out.pos)).mono ?_
  rintro e w6 ⟨rfl, hb6⟩
  obtain ⟨K, hK⟩ : ∃ G, G = vkU a0 d1 := ⟨_, rfl⟩
  obtain ⟨D, hD⟩ : ∃ E, E = errD d1 := ⟨_, rfl⟩
  rw [← hK, ← hD]
  have HK := Lib.hid hK
  have HD := Lib.hid hD
  have b6 := hb6.alloc hb6.size (.cells (ba 32 K) 23)
  have rG := carry b6 sG
  have rK : row (w6.alloc (.cells (ba 32 K) 23)) w6.heap.size = some (ba 32 K) := row_alloc_at _ _ _ _ rfl
  have B6 := Lib.hid (onto B4.out B4.out.size b6)
  have T6 := Lib.hid ((T4.out.below b6).more b6.size)
  have V6 := Lib.hid ((V4.out.below b6).more b6.size)
  have U6 := Lib.hid ((U4.out.below b6).more b6.size)
  clear hb6 b6 s0 s1 sG B4 hK hD T4 V4 U4
  obtain ⟨S2, hS2⟩ : ∃ S, S = w6.heap.size := ⟨_, rfl⟩
  rw [← hS2] at rK
  have HS2 := Lib.hid hS2
  clear hS2
  cases hok : mayB d1 t1 x1
  · obtain rfl : E = 1 := HE.out.trans (errU_no hok)
    obtain rfl : F = 1 := HF.out.trans (voC_no hok)
    clear T6 V6 U6
    go_wp2_with fail
    go_ret
    exact ⟨rfl, B6.out⟩
  · obtain rfl : E = 0 := HE.out.trans (errU_ok hok)
    obtain rfl : X = N + 16 := HX.out.trans (vsN_ok hok)
    have hF0 := HF.out
    have hY0 := HY.out
    rw [Hf8.out, voC_back hok] at hF0
    rw [Hf8.out, voL_back hok] at hY0
    subst hF0
    subst hY0
    obtain rfl : D = 0 := HD.out.trans (errD_ok (mayD_of hok))
    have HU := Lib.hid (show Sl _ _ A10 Y c10 a2 from U6.out.congr fun i hi => by rw [Hf10.out, Hf8.out]; exact voF_back i hi)
    have HV := Lib.hid (show f8 = sealF K G G 12 a2 Y by rw [Hf8.out, HG.out, HK.out]; unfold vsF vkU; rw [if_pos (mayD_of hok)])
    clear HF HY HX HE HD Hf10 Hf8 HG HK hok U6 hX5
    go_wp2_with fail
    rw [← HS2.out]
    clear HS2
    generalize w6.alloc (.cells (ba 32 K) 23) = w7 at rG rK B6 T6 V6 HU ⊢
    obtain ⟨ST, hST⟩ : ∃ S, S = Oct.strOf Y a2 := ⟨_, rfl⟩
    obtain ⟨SS, hSS⟩ : ∃ S, S = Oct.strOf (Y + 16) f8 := ⟨_, rfl⟩
    have HST := Lib.hid hST
    have HSS := Lib.hid hSS
    clear hST hSS
    refine flow_seen [([0, 1, 2, 3, 4, 5, 6, 7, 8, 9, 10, 11, 12, 13, 14, 15, 16, 17, 18, 19, 20, 21, 22, 23, 24, 25, 26], 27, false)] [28, 29, 30, 31] (by kernel_rfl) (by kernel_rfl) (fun _ _ _ _ _ h => h) fun Z => ?_
    have uG := carry Z.below rG
    have uK := carry Z.below rK
    have B8 := Lib.hid (onto B6.out B6.out.size Z.below)
    have T8 := Lib.hid ((T6.out.below Z.below).more Z.below.size)
    have V8 := Lib.hid ((V6.out.below Z.below).more Z.below.size)
    have U8 := Lib.hid ((HU.out.below Z.below).more Z.below.size)
    clear rG rK B6 T6 V6 HU
    generalize Z.val = w8 at uG uK B8 T8 V8 U8 ⊢
    clear Z
    have kG := After.row uG
    have kK := After.row uK
    have cv2 : ∀ x : After w8, (convert 35 9 (.slice A2 Y c2)).run Tryd.prog x.val = .ok (.string ST) x.val := fun x => by
      rw [HST.out]; exact run_str sli_u u8_u str_u (After.sl T8.out x)
    have cv8 : ∀ x : After w8, (convert 35 9 (.slice A8 (Y + 16) c8)).run Tryd.prog x.val = .ok (.string SS) x.val := fun x => by
      rw [HSS.out]; exact run_str sli_u u8_u str_u (After.sl V8.out x)
    have cv10 : ∀ x : After w8, (convert 35 9 (.slice A10 Y c10)).run Tryd.prog x.val = .ok (.string ST) x.val := fun x => by
      rw [HST.out]; exact run_str sli_u u8_u str_u (After.sl U8.out x)
    simp only [wpFs, pk, List.getElem?_cons_zero, List.getElem?_cons_succ]
    repeat (go_big_quiet_step (fail))
    refine wpQuiet_nil ?_
    clear kG kK cv2 cv8 cv10
    go_wp2_with fail
    refine (gseal_any K G G 12 12 (some ⟨S1, 0, none⟩) a2 Y c2 A2 w8 (Sl.of_row uG w8.heap.size (row_lt uG)) T8.out (by omega) (by omega)).mono ?_
    rintro e w9 ⟨v, rfl, ho, hb9⟩
    rw [← HV.out] at ho
    obtain ⟨A9, c9, rfl, h9, -, -⟩ := ho.sl
    have W9 := Lib.hid h9
    have B9 := Lib.hid (onto B8.out B8.out.size hb9)
    have hb9' := Lib.hid hb9
    clear ho h9 hb9 uG uK T8 V8 U8 B8
    go_wp2_with fail
    refine ⟨.inr hb9'.out, ?_⟩
    clear hb9'
    have cv9 : ∀ x : After w9, (convert 35 9 (.slice A9 (Y + 16) c9)).run Tryd.prog x.val = .ok (.string SS) x.val := fun x => by
      rw [HSS.out]; exact run_str sli_u u8_u str_u (After.sl W9.out x)
    show wpQuiet _ _ _ _ _ _
    repeat (go_big_quiet_step (fail))
    refine wpQuiet_nil ?_
    clear cv9
    go_wp2
    go_ret
    exact ⟨rfl, B9.out⟩

set_option maxRecDepth 100000 in
theorem lifted (os : Os) (started : os.Started) (H : Type) (enc : TypeId × Value → H) :
    ReturnsInHanded {} Tryd.checked os 4 .any (fun w args => (Rows.vaultBackSpec.pre enc Tryd.prog Tryd.f4 [] false w args ∧ laidMetH Tryd.prog laidL w) ∧ sizedMet enc Tryd.prog Tryd.f4 (OpenSpec.ofChange Rows.vaultBackSpec) false w args) (Rows.vaultBackSpec.post enc Tryd.prog Tryd.f4 false true false false) := by
  refine returnsInHanded_of_change_and (C := Tryd.checked) (X := fun w _ => laidMetH Tryd.prog laidL w) (fun _ _ _ hh h => h.of_heap hh) own started (by kernel_rfl) Tryd.func4
    (ChangeSpec.witness_shaped (enc := enc) (C := Tryd.checked) (os := os) (X := fun w _ => laidMetH Tryd.prog laidL w) false (World.doorLaid Tryd.prog 14 os) #[.agg (Array.replicate 32 (.int .u8 0)), .agg #[.int .i64 0, .int .i64 0, .int .i64 0], .slice none 0 0] 8 rfl (World.shaped_of_RefB (by kernel_rfl) (by kernel_rfl)) (by kernel_rfl) (by kernel_rfl) (by kernel_rfl) (door_met os _)) ?_
  intro W base args ds gs before hval0 hW _ hsz0 hL _
  have hval : ∀ (j : Nat) t v, Tryd.f4.params[j]? = some t → args[j]? = some v → Value.okWide Tryd.prog W .any base t v := hval0
  have hW' := hW
  obtain ⟨p, q, hA0, hV, rfl, hfz, hnd⟩ := hW
  have hA : DataW.TrodAll enc Tryd.prog W 0 (fun _ => true) true Tryd.f4.params.toList args.toList ds p := hA0
  rw [Tryd.params4] at hA hval
  obtain ⟨v0, vs0, d0, ds0, p0, q0, hargs, rfl, rfl, h0, r0⟩ := trodAll_cons hA
  obtain ⟨v1, vs1, d1, ds1, p1, q1, rfl, rfl, rfl, h1, r1⟩ := trodAll_cons r0
  obtain ⟨v2, vs2, d2, ds2, p2, q2, rfl, rfl, rfl, h2, r2⟩ := trodAll_cons r1
  obtain ⟨rfl, rfl, rfl⟩ := trodAll_nil r2
  obtain rfl : args = #[v0, v1, v2] := by cases args; simp_all
  obtain ⟨rfl, rfl⟩ := trodVars_none hV
  have k0 := h0
  have lt0 : ∀ x ∈ p0, x.block < W.heap.size := by obtain ⟨m, hm⟩ := k0; exact DataW.trod_lt m _ _ _ hm
  obtain ⟨a0, rfl⟩ := open_bytes Tryd.underlying23 Tryd.underlying5 (by kernel_rfl) (by kernel_rfl) (hval 0 23 v0 rfl rfl) h0
  have k1 := h1
  have lt1 : ∀ x ∈ p1, x.block < W.heap.size := by obtain ⟨m, hm⟩ := k1; exact DataW.trod_lt m _ _ _ hm
  obtain ⟨db1, tb1, xb1, rfl⟩ := open_at (hval 1 25 v1 rfl rfl) h1
  have k2 := h2
  have lt2 : ∀ x ∈ p2, x.block < W.heap.size := by obtain ⟨m, hm⟩ := k2; exact DataW.trod_lt m _ _ _ hm
  obtain ⟨A2, n2, c2, a2, rfl, hs2, hm2⟩ := open_sl Tryd.underlying35 Tryd.underlying5 (by kernel_rfl) (hval 2 35 v2 rfl rfl) h2
  clear hA0 hval0
  refine (walk a0 db1 tb1 xb1 a2 n2 c2 A2 W  hs2 hm2 (tab_of hL)).mono fun e W' ⟨he, bel⟩ => ?_
  subst he
  exact ⟨_, rfl, _, _, _, [], _, [], hW', trodAll_mk1 (shut_bool Tryd.underlying4 _), (trodAll_cons_mk (Below.trod laidOut (by kernel_rfl) (of_decide_eq_true (by kernel_rfl)) k0 bel lt0) (trodAll_cons_mk (Below.trod laidOut (by kernel_rfl) (of_decide_eq_true (by kernel_rfl)) k1 bel lt1) (trodAll_cons_mk (Below.trod laidOut (by kernel_rfl) (of_decide_eq_true (by kernel_rfl)) k2 bel lt2) trodAll_mk0))), rfl, bel.frame _, fun h => by cases h⟩

theorem over : Rows.vaultBackRow.holds Tryd.pinned (OpenSpec.ofChange Rows.vaultBackSpec) :=
  OpenClaim.holds_of_wide 4 Tryd.f4 rfl rfl rfl rfl rfl rfl rfl ⟨rfl, rfl, rfl, rfl, rfl⟩ rfl rfl rfl rfl rfl (by kernel_rfl) Tryd.func4 (by kernel_rfl)
    (of_decide_eq_true (by kernel_rfl)) (by unfold Func.isWrapper; first | (rw [if_pos (by decide +kernel)]; kernel_rfl) | (rw [if_neg (by decide +kernel)]; exact ⟨rfl, rfl⟩))
    (fun os started H enc _ => lifted os started H enc)

theorem proved : Rows.VaultBackCardSaid :=
  Claim7.holds_tied_plain_at .later [] [.data] true (true, "a5dc9dc7a918a1571651ca2c9c03392c72ba9bb44d5af2eeeb3e1f23480c498c") false
    over (fun _ h => by cases h) (by kernel_rfl) (fun _ h => by cases h) vaultBack_row_tie rfl ⟨rfl, rfl⟩ (by kernel_rfl) rfl
    (fun f fn hf hfn => by
      obtain rfl : f = 4 := Option.some.inj ((show Tryd.prog.funcNamed "strongroom/strongroomlaw12.VaultBack" = some 4 by kernel_rfl).symm.trans hf) |>.symm
      obtain rfl : fn = Tryd.f4 := (Option.some.inj (Tryd.func4.symm.trans hfn)).symm
      exact ⟨by kernel_rfl, fun j t ht => by
        rw [Tryd.params4] at ht
        have hm : t ∈ [23, 25, 35] := by simpa using Array.mem_of_getElem? ht
        have hall : ([23, 25, 35].all fun u => !Tryd.prog.wantsStandIn u) = true := by kernel_rfl
        exact (show Tryd.prog.wantsStandIn t = false by simpa using List.all_eq_true.1 hall t hm)⟩)
    (by kernel_rfl)
#print axioms proved
end Go.Proofs.YtkgefljjjheobaaDoor.vaultBack
