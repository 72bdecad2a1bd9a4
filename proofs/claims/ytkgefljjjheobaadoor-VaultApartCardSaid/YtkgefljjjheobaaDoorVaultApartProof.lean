/- The statement VaultApart: the law strongroomlaw12.VaultApart answers true for every input, and leaves its arguments as they were. Condition: the package variables that the row lists read at the call as the text of the program lays them; the card ties that. -/
import Derived.Test.YtkgefljjjheobaaDoorRows
import Derived.Test.YtkgefljjjheobaaDoorLib
import Derived.Test.YtkgefljjjheobaaDoorVlS
import Derived.Test.YtkgefljjjheobaaDoorTab
import Derived.Test.YtkgefljjjheobaaDoorCards
import Derived.Test.YtkgefljjjheobaaDoorTie
import Derived.SevenTiedAt
namespace Go.Proofs.YtkgefljjjheobaaDoor.vaultApart
open Go.ChangeShapes Go.WideShapes Go.ChangeAt Go.RowKit
open Go.Proofs.YtkgefljjjheobaaDoor.Oct
set_option linter.unusedVariables false

theorem own : ownKnob Tryd.prog.godebug = none := by kernel_rfl
theorem laidOut : laidOutB Tryd.prog = true := by kernel_rfl

theorem apart_eq {d t x d' t' x' : Int} (h : mayB d t x = true) (h' : mayB d' t' x' = true) : eqB 12 (nonU d t x) (nonU d' t' x') = ((d == d') && ((t == t') && (x == x'))) := by
  obtain ⟨⟨a1, a2⟩, ⟨a3, a4⟩, a5, a6⟩ := mayB_iff.1 h
  obtain ⟨⟨b1, b2⟩, ⟨b3, b4⟩, b5, b6⟩ := mayB_iff.1 h'
  obtain ⟨d, rfl⟩ : ∃ n : Nat, d = n := ⟨d.toNat, by omega⟩
  obtain ⟨t, rfl⟩ : ∃ n : Nat, t = n := ⟨t.toNat, by omega⟩
  obtain ⟨x, rfl⟩ : ∃ n : Nat, x = n := ⟨x.toNat, by omega⟩
  obtain ⟨d', rfl⟩ : ∃ n : Nat, d' = n := ⟨d'.toNat, by omega⟩
  obtain ⟨t', rfl⟩ : ∃ n : Nat, t' = n := ⟨t'.toNat, by omega⟩
  obtain ⟨x', rfl⟩ : ∃ n : Nat, x' = n := ⟨x'.toNat, by omega⟩
  rw [nonU_ok h, nonU_ok h', Bool.eq_iff_iff, eqB_iff]
  simp only [Bool.and_eq_true, beq_iff_eq]
  constructor
  · intro e
    obtain ⟨e1, e2, e3⟩ := nonF_inj (by omega) (by omega) (by omega) (by omega) (by omega) (by omega) e
    omega
  · rintro ⟨e1, e2, e3⟩
    obtain rfl : d = d' := by omega
    obtain rfl : t = t' := by omega
    obtain rfl : x = x' := by omega
    exact fun _ _ => rfl
set_option maxRecDepth 20000 in
set_option maxHeartbeats 4000000 in
theorem walk (d0 t0 x0 : Int) (d1 t1 x1 : Int) (w : World)   (htab : Tab w) :
    Calls Tryd.prog 5 #[.agg (atC d0 t0 x0), .agg (atC d1 t1 x1)] w fun e w' => e = .returned (.bool true) ∧ Below w.heap.size w w' := by
  have HT := Lib.hid htab
  obtain ⟨w0, hw0⟩ : ∃ w0, w0 = (w.alloc (.cells (atC d0 t0 x0) 25)).alloc (.cells (atC d1 t1 x1) 25) := ⟨_, rfl⟩
  have B0 := Lib.hid (show Below w.heap.size w w0 by rw [hw0]; exact ((Below.refl w.heap.size w).alloc (by simp) _).alloc (by simp) _)
  have q0 : row w0 w.heap.size = some (atC d0 t0 x0) := by rw [hw0]; simp [go_sem]
  have q1 : row w0 (w.heap.size + 1) = some (atC d1 t1 x1) := by rw [hw0]; simp [go_sem]
  clear htab
  go_enter Tryd.func5, Tryd.ntmps5
  go_wp2_with fail
  rw [← hw0]
  clear hw0
  refine (shown_any w0 (HT.out.below B0.out HT.out.pos)).mono ?_
  rintro e w1 ⟨rfl, hb1⟩
  have B1 := Lib.hid (onto B0.out B0.out.size hb1)
  have r0 := carry hb1 q0
  have r1 := carry hb1 q1
  have c0 := at_c0 r0
  have c1 := at_c1 r0
  have c2 := at_c2 r0
  clear hb1 q0 q1 B0
  go_wp2_with fail
  clear c0 c1 c2
  refine (vnon_any d0 t0 x0 w1).mono ?_
  rintro e w2 ⟨rfl, hb2⟩
  obtain ⟨G0, hG0⟩ : ∃ G, G = nonU d0 t0 x0 := ⟨_, rfl⟩
  obtain ⟨E0, hE0⟩ : ∃ E, E = errU d0 t0 x0 := ⟨_, rfl⟩
  rw [← hG0, ← hE0]
  have HG0 := Lib.hid hG0
  have HE0 := Lib.hid hE0
  have b2 := hb2.alloc hb2.size (.cells (ba 12 G0) 31)
  have s0 := carry b2 r0
  have s1 := carry b2 r1
  have sG : row (w2.alloc (.cells (ba 12 G0) 31)) w2.heap.size = some (ba 12 G0) := row_alloc_at _ _ _ _ rfl
  have B2 := Lib.hid (onto B1.out B1.out.size b2)
  have c0 := at_c0 s1
  have c1 := at_c1 s1
  have c2 := at_c2 s1
  clear hb2 b2 r0 r1 B1 hG0 hE0
  obtain ⟨S0, hS0⟩ : ∃ S, S = w2.heap.size := ⟨_, rfl⟩
  rw [← hS0] at sG
  have HS0 := Lib.hid hS0
  clear hS0
  go_wp2_with fail
  rw [← HS0.out]
  clear c0 c1 c2 HS0
  generalize w2.alloc (.cells (ba 12 G0) 31) = w3 at s0 s1 sG B2 ⊢
  refine (vnon_any d1 t1 x1 w3).mono ?_
  rintro e w4 ⟨rfl, hb4⟩
  obtain ⟨G1, hG1⟩ : ∃ G, G = nonU d1 t1 x1 := ⟨_, rfl⟩
  obtain ⟨E1, hE1⟩ : ∃ E, E = errU d1 t1 x1 := ⟨_, rfl⟩
  rw [← hG1, ← hE1]
  have HG1 := Lib.hid hG1
  have HE1 := Lib.hid hE1
  have b4 := hb4.alloc hb4.size (.cells (ba 12 G1) 31)
  have r0 := carry b4 s0
  have r1 := carry b4 s1
  have rG := carry b4 sG
  have rH : row (w4.alloc (.cells (ba 12 G1) 31)) w4.heap.size = some (ba 12 G1) := row_alloc_at _ _ _ _ rfl
  have B4 := Lib.hid (onto B2.out B2.out.size b4)
  clear hb4 b4 s0 s1 sG B2 hG1 hE1
  obtain ⟨S1, hS1⟩ : ∃ S, S = w4.heap.size := ⟨_, rfl⟩
  rw [← hS1] at rH
  have HS1 := Lib.hid hS1
  clear hS1
  cases hok0 : mayB d0 t0 x0
  · obtain rfl : E0 = 1 := HE0.out.trans (errU_no hok0)
    go_wp2_with fail
    go_ret
    exact ⟨rfl, B4.out⟩
  obtain rfl : E0 = 0 := HE0.out.trans (errU_ok hok0)
  cases hok1 : mayB d1 t1 x1
  · obtain rfl : E1 = 1 := HE1.out.trans (errU_no hok1)
    go_wp2_with fail
    go_ret
    exact ⟨rfl, B4.out⟩
  obtain rfl : E1 = 0 := HE1.out.trans (errU_ok hok1)
  have HEQ := Lib.hid (apart_eq hok0 hok1)
  clear hok0 hok1
  go_wp2_with fail
  rw [← HS1.out]
  clear HS1
  generalize w4.alloc (.cells (ba 12 G1) 31) = w5 at r0 r1 rG rH B4 ⊢
  have k0 := After.row r0
  have k1 := After.row r1
  have kG := After.row rG
  have kH := After.row rH
  have hat := eq_at d0 t0 x0 d1 t1 x1
  rw [← HEQ.out, ← HG0.out, ← HG1.out] at hat
  refine seen_region (by kernel_rfl) (by kernel_rfl) ?_
  repeat (go_big_quiet_step (fail))
  refine wpQuiet_nil ?_
  rintro _ ⟨x, rfl⟩
  have hfin := Lib.hid (onto B4.out B4.out.size x.below)
  go_wp2_with fail
  go_ret
  exact ⟨rfl, hfin.out⟩

set_option maxRecDepth 100000 in
theorem lifted (os : Os) (started : os.Started) (H : Type) (enc : TypeId × Value → H) :
    ReturnsInHanded {} Tryd.checked os 5 .any (fun w args => (Rows.vaultApartSpec.pre enc Tryd.prog Tryd.f5 [] false w args ∧ laidMetH Tryd.prog laidL w) ∧ sizedMet enc Tryd.prog Tryd.f5 (OpenSpec.ofChange Rows.vaultApartSpec) false w args) (Rows.vaultApartSpec.post enc Tryd.prog Tryd.f5 false true false false) := by
  refine returnsInHanded_of_change_and (C := Tryd.checked) (X := fun w _ => laidMetH Tryd.prog laidL w) (fun _ _ _ hh h => h.of_heap hh) own started (by kernel_rfl) Tryd.func5
    (ChangeSpec.witness_shaped (enc := enc) (C := Tryd.checked) (os := os) (X := fun w _ => laidMetH Tryd.prog laidL w) false (World.doorLaid Tryd.prog 14 os) #[.agg #[.int .i64 0, .int .i64 0, .int .i64 0], .agg #[.int .i64 0, .int .i64 0, .int .i64 0]] 8 rfl (World.shaped_of_RefB (by kernel_rfl) (by kernel_rfl)) (by kernel_rfl) (by kernel_rfl) (by kernel_rfl) (door_met os _)) ?_
  intro W base args ds gs before hval0 hW _ hsz0 hL _
  have hval : ∀ (j : Nat) t v, Tryd.f5.params[j]? = some t → args[j]? = some v → Value.okWide Tryd.prog W .any base t v := hval0
  have hW' := hW
  obtain ⟨p, q, hA0, hV, rfl, hfz, hnd⟩ := hW
  have hA : DataW.TrodAll enc Tryd.prog W 0 (fun _ => true) true Tryd.f5.params.toList args.toList ds p := hA0
  rw [Tryd.params5] at hA hval
  obtain ⟨v0, vs0, d0, ds0, p0, q0, hargs, rfl, rfl, h0, r0⟩ := trodAll_cons hA
  obtain ⟨v1, vs1, d1, ds1, p1, q1, rfl, rfl, rfl, h1, r1⟩ := trodAll_cons r0
  obtain ⟨rfl, rfl, rfl⟩ := trodAll_nil r1
  obtain rfl : args = #[v0, v1] := by cases args; simp_all
  obtain ⟨rfl, rfl⟩ := trodVars_none hV
  have k0 := h0
  have lt0 : ∀ x ∈ p0, x.block < W.heap.size := by obtain ⟨m, hm⟩ := k0; exact DataW.trod_lt m _ _ _ hm
  obtain ⟨db0, tb0, xb0, rfl⟩ := open_at (hval 0 25 v0 rfl rfl) h0
  have k1 := h1
  have lt1 : ∀ x ∈ p1, x.block < W.heap.size := by obtain ⟨m, hm⟩ := k1; exact DataW.trod_lt m _ _ _ hm
  obtain ⟨db1, tb1, xb1, rfl⟩ := open_at (hval 1 25 v1 rfl rfl) h1
  clear hA0 hval0
  refine (walk db0 tb0 xb0 db1 tb1 xb1 W   (tab_of hL)).mono fun e W' ⟨he, bel⟩ => ?_
  subst he
  exact ⟨_, rfl, _, _, _, [], _, [], hW', trodAll_mk1 (shut_bool Tryd.underlying4 _), (trodAll_cons_mk (Below.trod laidOut (by kernel_rfl) (of_decide_eq_true (by kernel_rfl)) k0 bel lt0) (trodAll_cons_mk (Below.trod laidOut (by kernel_rfl) (of_decide_eq_true (by kernel_rfl)) k1 bel lt1) trodAll_mk0)), rfl, bel.frame _, fun h => by cases h⟩

theorem over : Rows.vaultApartRow.holds Tryd.pinned (OpenSpec.ofChange Rows.vaultApartSpec) :=
  OpenClaim.holds_of_wide 5 Tryd.f5 rfl rfl rfl rfl rfl rfl rfl ⟨rfl, rfl, rfl, rfl, rfl⟩ rfl rfl rfl rfl rfl (by kernel_rfl) Tryd.func5 (by kernel_rfl)
    (of_decide_eq_true (by kernel_rfl)) (by unfold Func.isWrapper; first | (rw [if_pos (by decide +kernel)]; kernel_rfl) | (rw [if_neg (by decide +kernel)]; exact ⟨rfl, rfl⟩))
    (fun os started H enc _ => lifted os started H enc)

theorem proved : Rows.VaultApartCardSaid :=
  Claim7.holds_tied_plain_at .later [] [.data] true (true, "a5dc9dc7a918a1571651ca2c9c03392c72ba9bb44d5af2eeeb3e1f23480c498c") false
    over (fun _ h => by cases h) (by kernel_rfl) (fun _ h => by cases h) vaultApart_row_tie rfl ⟨rfl, rfl⟩ (by kernel_rfl) rfl
    (fun f fn hf hfn => by
      obtain rfl : f = 5 := Option.some.inj ((show Tryd.prog.funcNamed "strongroom/strongroomlaw12.VaultApart" = some 5 by kernel_rfl).symm.trans hf) |>.symm
      obtain rfl : fn = Tryd.f5 := (Option.some.inj (Tryd.func5.symm.trans hfn)).symm
      exact ⟨by kernel_rfl, fun j t ht => by
        rw [Tryd.params5] at ht
        have hm : t ∈ [25] := by simpa using Array.mem_of_getElem? ht
        have hall : ([25].all fun u => !Tryd.prog.wantsStandIn u) = true := by kernel_rfl
        exact (show Tryd.prog.wantsStandIn t = false by simpa using List.all_eq_true.1 hall t hm)⟩)
    (by kernel_rfl)
#print axioms proved
end Go.Proofs.YtkgefljjjheobaaDoor.vaultApart
