/- The statement VaultKeys: the law strongroomlaw12.VaultKeys answers true for every input, and leaves its arguments as they were. Condition: the package variables that the row lists read at the call as the text of the program lays them; the card ties that. -/
import Derived.Test.YtkgefljjjheobaaDoorRows
import Derived.Test.YtkgefljjjheobaaDoorLib
import Derived.Test.YtkgefljjjheobaaDoorVlS
import Derived.Test.YtkgefljjjheobaaDoorVlB
import Derived.Test.YtkgefljjjheobaaDoorVlE
import Derived.Test.YtkgefljjjheobaaDoorTab
import Derived.Test.YtkgefljjjheobaaDoorCards
import Derived.Test.YtkgefljjjheobaaDoorTie
import Derived.SevenTiedAt
namespace Go.Proofs.YtkgefljjjheobaaDoor.vaultKeys
open Go.ChangeShapes Go.WideShapes Go.ChangeAt Go.RowKit
open Go.Proofs.YtkgefljjjheobaaDoor.Oct
set_option linter.unusedVariables false

theorem own : ownKnob Tryd.prog.godebug = none := by kernel_rfl
theorem laidOut : laidOutB Tryd.prog = true := by kernel_rfl

set_option maxRecDepth 20000 in
set_option maxHeartbeats 4000000 in
theorem walk (a0 : Nat → BitVec 8) (d1 t1 x1 : Int) (w : World)  (htab : Tab w) :
    Calls Tryd.prog 3 #[.agg (ba 32 a0), .agg (atC d1 t1 x1)] w fun e w' => e = .returned (.bool true) ∧ Below w.heap.size w w' := by
  have HT := Lib.hid htab
  obtain ⟨w0, hw0⟩ : ∃ w0, w0 = (w.alloc (.cells (ba 32 a0) 23)).alloc (.cells (atC d1 t1 x1) 25) := ⟨_, rfl⟩
  have B0 := Lib.hid (show Below w.heap.size w w0 by rw [hw0]; exact ((Below.refl w.heap.size w).alloc (by simp) _).alloc (by simp) _)
  have q0 : row w0 w.heap.size = some (ba 32 a0) := by rw [hw0]; simp [go_sem]
  have q1 : row w0 (w.heap.size + 1) = some (atC d1 t1 x1) := by rw [hw0]; simp [go_sem]
  clear htab
  go_enter Tryd.func3, Tryd.ntmps3
  go_wp2_with fail
  rw [← hw0]
  clear hw0
  refine (shown_any w0 (HT.out.below B0.out HT.out.pos)).mono ?_
  rintro e w1 ⟨rfl, hb1⟩
  have B1 := Lib.hid (onto B0.out B0.out.size hb1)
  have r0 := carry hb1 q0
  have r1 := carry hb1 q1
  have c0 := at_c0 r1
  clear hb1 q0 q1 B0
  go_wp2_with fail
  clear c0
  -- the key
  refine (vkey_any a0 d1 w1 (HT.out.below B1.out HT.out.pos)).mono ?_
  rintro e w2 ⟨rfl, hb2⟩
  obtain ⟨K, hK⟩ : ∃ G, G = vkU a0 d1 := ⟨_, rfl⟩
  obtain ⟨E, hE⟩ : ∃ E, E = errD d1 := ⟨_, rfl⟩
  rw [← hK, ← hE]
  have HK := Lib.hid hK
  have HE := Lib.hid hE
  have b2 := hb2.alloc hb2.size (.cells (ba 32 K) 23)
  have s0 := carry b2 r0
  have s1 := carry b2 r1
  have sK : row (w2.alloc (.cells (ba 32 K) 23)) w2.heap.size = some (ba 32 K) := row_alloc_at _ _ _ _ rfl
  have B2 := Lib.hid (onto B1.out B1.out.size b2)
  have c0 := at_c0 s1
  clear hb2 b2 r0 r1 B1 hK hE
  obtain ⟨S0, hS0⟩ : ∃ S, S = w2.heap.size := ⟨_, rfl⟩
  rw [← hS0] at sK
  have HS0 := Lib.hid hS0
  clear hS0
  go_wp2_with fail
  rw [← HS0.out]
  clear c0 HS0
  generalize w2.alloc (.cells (ba 32 K) 23) = w3 at s0 s1 sK B2 ⊢
  -- the reference's
  refine (rkey_any a0 d1 w3).mono ?_
  rintro e w4 ⟨rfl, hb4⟩
  rw [← HK.out, ← HE.out]
  have b4 := hb4.alloc hb4.size (.cells (ba 32 K) 23)
  have r0 := carry b4 s0
  have r1 := carry b4 s1
  have rK := carry b4 sK
  have rL : row (w4.alloc (.cells (ba 32 K) 23)) w4.heap.size = some (ba 32 K) := row_alloc_at _ _ _ _ rfl
  have B4 := Lib.hid (onto B2.out B2.out.size b4)
  have c0 := at_c0 r1
  have c1 := at_c1 r1
  have c2 := at_c2 r1
  clear hb4 b4 s0 s1 sK B2
  obtain ⟨S1, hS1⟩ : ∃ S, S = w4.heap.size := ⟨_, rfl⟩
  rw [← hS1] at rL
  have HS1 := Lib.hid hS1
  clear hS1
  go_wp2_with fail
  rw [← HS1.out]
  clear c0 c1 c2 HS1
  generalize w4.alloc (.cells (ba 32 K) 23) = w5 at r0 r1 rK rL B4 ⊢
  -- the nonce
  refine (vnon_any d1 t1 x1 w5).mono ?_
  rintro e w6 ⟨rfl, hb6⟩
  obtain ⟨G, hG⟩ : ∃ G, G = nonU d1 t1 x1 := ⟨_, rfl⟩
  obtain ⟨F, hF⟩ : ∃ E, E = errU d1 t1 x1 := ⟨_, rfl⟩
  rw [← hG, ← hF]
  have HG := Lib.hid hG
  have HF := Lib.hid hF
  have b6 := hb6.alloc hb6.size (.cells (ba 12 G) 31)
  have s0 := carry b6 r0
  have s1 := carry b6 r1
  have sK := carry b6 rK
  have sL := carry b6 rL
  have sG : row (w6.alloc (.cells (ba 12 G) 31)) w6.heap.size = some (ba 12 G) := row_alloc_at _ _ _ _ rfl
  have B6 := Lib.hid (onto B4.out B4.out.size b6)
  have c0 := at_c0 s1
  have c1 := at_c1 s1
  have c2 := at_c2 s1
  clear hb6 b6 r0 r1 rK rL B4 hG hF
  obtain ⟨S2, hS2⟩ : ∃ S, S = w6.heap.size := ⟨_, rfl⟩
  rw [← hS2] at sG
  have HS2 := Lib.hid hS2
  clear hS2
  go_wp2_with fail
  rw [← HS2.out]
  clear c0 c1 c2 HS2
  generalize w6.alloc (.cells (ba 12 G) 31) = w7 at s0 s1 sK sL sG B6 ⊢
  -- the reference's
  refine (rnon_any d1 t1 x1 w7).mono ?_
  rintro e w8 ⟨rfl, hb8⟩
  rw [← HG.out, ← HF.out]
  have b8 := hb8.alloc hb8.size (.cells (ba 12 G) 31)
  have rK := carry b8 sK
  have rL := carry b8 sL
  have rG := carry b8 sG
  have rH : row (w8.alloc (.cells (ba 12 G) 31)) w8.heap.size = some (ba 12 G) := row_alloc_at _ _ _ _ rfl
  have B8 := Lib.hid (onto B6.out B6.out.size b8)
  have e1 := eqB_refl 32 K
  have e2 := eqB_refl 12 G
  clear hb8 b8 s0 s1 sK sL sG B6
  go_wp2_with fail
  go_ret
  exact ⟨rfl, B8.out⟩

set_option maxRecDepth 100000 in
theorem lifted (os : Os) (started : os.Started) (H : Type) (enc : TypeId × Value → H) :
    ReturnsInHanded {} Tryd.checked os 3 .any (fun w args => (Rows.vaultKeysSpec.pre enc Tryd.prog Tryd.f3 [] false w args ∧ laidMetH Tryd.prog laidL w) ∧ sizedMet enc Tryd.prog Tryd.f3 (OpenSpec.ofChange Rows.vaultKeysSpec) false w args) (Rows.vaultKeysSpec.post enc Tryd.prog Tryd.f3 false true false false) := by
  refine returnsInHanded_of_change_and (C := Tryd.checked) (X := fun w _ => laidMetH Tryd.prog laidL w) (fun _ _ _ hh h => h.of_heap hh) own started (by kernel_rfl) Tryd.func3
    (ChangeSpec.witness_shaped (enc := enc) (C := Tryd.checked) (os := os) (X := fun w _ => laidMetH Tryd.prog laidL w) false (World.doorLaid Tryd.prog 14 os) #[.agg (Array.replicate 32 (.int .u8 0)), .agg #[.int .i64 0, .int .i64 0, .int .i64 0]] 8 rfl (World.shaped_of_RefB (by kernel_rfl) (by kernel_rfl)) (by kernel_rfl) (by kernel_rfl) (by kernel_rfl) (door_met os _)) ?_
  intro W base args ds gs before hval0 hW _ hsz0 hL _
  have hval : ∀ (j : Nat) t v, Tryd.f3.params[j]? = some t → args[j]? = some v → Value.okWide Tryd.prog W .any base t v := hval0
  have hW' := hW
  obtain ⟨p, q, hA0, hV, rfl, hfz, hnd⟩ := hW
  have hA : DataW.TrodAll enc Tryd.prog W 0 (fun _ => true) true Tryd.f3.params.toList args.toList ds p := hA0
  rw [Tryd.params3] at hA hval
  obtain ⟨v0, vs0, d0, ds0, p0, q0, hargs, rfl, rfl, h0, r0⟩ := trodAll_cons hA
  obtain ⟨v1, vs1, d1, ds1, p1, q1, rfl, rfl, rfl, h1, r1⟩ := trodAll_cons r0
  obtain ⟨rfl, rfl, rfl⟩ := trodAll_nil r1
  obtain rfl : args = #[v0, v1] := by cases args; simp_all
  obtain ⟨rfl, rfl⟩ := trodVars_none hV
  have k0 := h0
  have lt0 : ∀ x ∈ p0, x.block < W.heap.size := by obtain ⟨m, hm⟩ := k0; exact DataW.trod_lt m _ _ _ hm
  obtain ⟨a0, rfl⟩ := open_bytes Tryd.underlying23 Tryd.underlying5 (by kernel_rfl) (by kernel_rfl) (hval 0 23 v0 rfl rfl) h0
  have k1 := h1
  have lt1 : ∀ x ∈ p1, x.block < W.heap.size := by obtain ⟨m, hm⟩ := k1; exact DataW.trod_lt m _ _ _ hm
  obtain ⟨db1, tb1, xb1, rfl⟩ := open_at (hval 1 25 v1 rfl rfl) h1
  clear hA0 hval0
  refine (walk a0 db1 tb1 xb1 W  (tab_of hL)).mono fun e W' ⟨he, bel⟩ => ?_
  subst he
  exact ⟨_, rfl, _, _, _, [], _, [], hW', trodAll_mk1 (shut_bool Tryd.underlying4 _), (trodAll_cons_mk (Below.trod laidOut (by kernel_rfl) (of_decide_eq_true (by kernel_rfl)) k0 bel lt0) (trodAll_cons_mk (Below.trod laidOut (by kernel_rfl) (of_decide_eq_true (by kernel_rfl)) k1 bel lt1) trodAll_mk0)), rfl, bel.frame _, fun h => by cases h⟩

theorem over : Rows.vaultKeysRow.holds Tryd.pinned (OpenSpec.ofChange Rows.vaultKeysSpec) :=
  OpenClaim.holds_of_wide 3 Tryd.f3 rfl rfl rfl rfl rfl rfl rfl ⟨rfl, rfl, rfl, rfl, rfl⟩ rfl rfl rfl rfl rfl (by kernel_rfl) Tryd.func3 (by kernel_rfl)
    (of_decide_eq_true (by kernel_rfl)) (by unfold Func.isWrapper; first | (rw [if_pos (by decide +kernel)]; kernel_rfl) | (rw [if_neg (by decide +kernel)]; exact ⟨rfl, rfl⟩))
    (fun os started H enc _ => lifted os started H enc)

theorem proved : Rows.VaultKeysCardSaid :=
  Claim7.holds_tied_plain_at .later [] [.data] true (true, "a5dc9dc7a918a1571651ca2c9c03392c72ba9bb44d5af2eeeb3e1f23480c498c") false
    over (fun _ h => by cases h) (by kernel_rfl) (fun _ h => by cases h) vaultKeys_row_tie rfl ⟨rfl, rfl⟩ (by kernel_rfl) rfl
    (fun f fn hf hfn => by
      obtain rfl : f = 3 := Option.some.inj ((show Tryd.prog.funcNamed "strongroom/strongroomlaw12.VaultKeys" = some 3 by kernel_rfl).symm.trans hf) |>.symm
      obtain rfl : fn = Tryd.f3 := (Option.some.inj (Tryd.func3.symm.trans hfn)).symm
      exact ⟨by kernel_rfl, fun j t ht => by
        rw [Tryd.params3] at ht
        have hm : t ∈ [23, 25] := by simpa using Array.mem_of_getElem? ht
        have hall : ([23, 25].all fun u => !Tryd.prog.wantsStandIn u) = true := by kernel_rfl
        exact (show Tryd.prog.wantsStandIn t = false by simpa using List.all_eq_true.1 hall t hm)⟩)
    (by kernel_rfl)
#print axioms proved
end Go.Proofs.YtkgefljjjheobaaDoor.vaultKeys
