/- The statement VaultSizes: the law strongroomlaw12.VaultSizes answers true for every input, and leaves its arguments as they were. Condition: the package variables that the row lists read at the call as the text of the program lays them; the card ties that. -/
import Derived.Test.YtkgefljjjheobaaDoorRows
import Derived.Test.YtkgefljjjheobaaDoorLib
import Derived.Test.YtkgefljjjheobaaDoorVlS
import Derived.Test.YtkgefljjjheobaaDoorVlBk
import Derived.Test.YtkgefljjjheobaaDoorTab
import Derived.Test.YtkgefljjjheobaaDoorCards
import Derived.Test.YtkgefljjjheobaaDoorTie
import Derived.SevenTiedAt
namespace Go.Proofs.YtkgefljjjheobaaDoor.vaultSizes
open Go.ChangeShapes Go.WideShapes Go.ChangeAt Go.RowKit
open Go.Proofs.YtkgefljjjheobaaDoor.Oct
set_option linter.unusedVariables false

theorem own : ownKnob Tryd.prog.godebug = none := by kernel_rfl
theorem laidOut : laidOutB Tryd.prog = true := by kernel_rfl

set_option maxRecDepth 20000 in
set_option maxHeartbeats 4000000 in
theorem walk (a0 : Nat → BitVec 8) (d1 t1 x1 : Int) (a2 : Nat → BitVec 8) (n2 c2 : Nat) (A2 : Option Addr) (w : World)  (hs2 : Sl w w.heap.size A2 n2 c2 a2) (hm2 : c2 ≤ maxLen) (htab : Tab w) :
    Calls Tryd.prog 6 #[.agg (ba 32 a0), .agg (atC d1 t1 x1), .slice A2 n2 c2] w fun e w' => e = .returned (.bool true) ∧ Below w.heap.size w w' := by
  have HT := Lib.hid htab
  have HS2 := Lib.hid hs2
  have hn2 := hs2.le
  obtain ⟨w0, hw0⟩ : ∃ w0, w0 = (w.alloc (.cells (ba 32 a0) 23)).alloc (.cells (atC d1 t1 x1) 25) := ⟨_, rfl⟩
  have B0 := Lib.hid (show Below w.heap.size w w0 by rw [hw0]; exact ((Below.refl w.heap.size w).alloc (by simp) _).alloc (by simp) _)
  have q0 : row w0 w.heap.size = some (ba 32 a0) := by rw [hw0]; simp [go_sem]
  have q1 : row w0 (w.heap.size + 1) = some (atC d1 t1 x1) := by rw [hw0]; simp [go_sem]
  clear htab hs2
  go_enter Tryd.func6, Tryd.ntmps6
  go_wp2_with fail
  rw [← hw0]
  clear hw0
  refine (shown_any w0 (HT.out.below B0.out HT.out.pos)).mono ?_
  rintro e w1 ⟨rfl, hb1⟩
  have B1 := Lib.hid (onto B0.out B0.out.size hb1)
  have r0 := carry hb1 q0
  have r1 := carry hb1 q1
  clear hb1 q0 q1 B0
  go_wp2_with fail
  refine (few_any A2 n2 c2 hn2 hm2 _).mono ?_
  rintro e w1' ⟨rfl, rfl⟩
  obtain ⟨N, hN⟩ : ∃ N, N = min n2 500 := ⟨_, rfl⟩
  rw [← hN]
  have hN5 : N ≤ 500 := by omega
  have S1 := Lib.hid (((HS2.out.upto N (by omega)).below B1.out).more B1.out.size)
  have c0 := at_c0 r1
  have c1 := at_c1 r1
  have c2' := at_c2 r1
  have R0 := Lib.hid (show w.heap.size < w1.heap.size ∧ w.heap.size + 1 < w1.heap.size from ⟨row_lt r0, row_lt r1⟩)
  clear hN HS2 hn2 hm2
  go_wp2_with fail
  clear c0 c1 c2'
  -- sealed
  refine (vseal_any a0 d1 t1 x1 a2 N c2 A2 w1 (HT.out.below B1.out HT.out.pos) S1.out (by omega)).mono ?_
  rintro e w2 ⟨v8, rfl, ho, hb2⟩
  obtain ⟨E, hE⟩ : ∃ E, E = errU d1 t1 x1 := ⟨_, rfl⟩
  obtain ⟨X, hX⟩ : ∃ X, X = vsN d1 t1 x1 N := ⟨_, rfl⟩
  obtain ⟨f8, hf8⟩ : ∃ f, f = vsF a0 d1 t1 x1 a2 N := ⟨_, rfl⟩
  rw [← hE]
  rw [← hX, ← hf8] at ho
  have hX5 : X ≤ 516 := by rw [hX]; unfold vsN; split <;> omega
  have HE := Lib.hid hE
  have HX := Lib.hid hX
  have Hf8 := Lib.hid hf8
  obtain ⟨A8, c8, rfl, h8, -, hA8⟩ := ho.sl
  have HO2 := Lib.hid ho
  have HW1 := Lib.hid B1.out.size
  have T2 := Lib.hid ((S1.out.below hb2).more hb2.size)
  have V2 := Lib.hid h8
  have s0 := carry hb2 r0
  have s1 := carry hb2 r1
  have B2 := Lib.hid (onto B1.out B1.out.size hb2)
  clear hE hX hf8 ho hb2 r0 r1 B1 S1 T2 V2
  cases hok : mayB d1 t1 x1
  · obtain rfl : E = 1 := HE.out.trans (errU_no hok)
    obtain rfl : X = 0 := HX.out.trans (vsN_no hok)
    go_wp2_with fail
    go_ret
    exact ⟨rfl, B2.out⟩
  obtain rfl : E = 0 := HE.out.trans (errU_ok hok)
  obtain rfl : X = N + 16 := HX.out.trans (vsN_ok hok)
  obtain ⟨g, hg1, hg2⟩ : ∃ g, A8 = some ⟨g, 0, none⟩ ∧ w1.heap.size ≤ g := by
    rcases hA8 with h | h
    · obtain ⟨g, o, e, _⟩ := h8.at_ (by omega)
      rw [h] at e; cases e
    · exact h
  subst hg1
  have hcell : w2.cell? ⟨g, N + 15, none⟩ = some (.int .u8 (I (f8 (N + 15)))) := by
    obtain ⟨g', o', e', _, hc⟩ := h8.at_ (by omega)
    simp only [Option.some.injEq, Addr.mk.injEq] at e'
    obtain ⟨rfl, rfl, _⟩ := e'
    have := hc (N + 15) (by omega)
    rwa [Nat.zero_add] at this
  have hle := h8.le
  have hfz := own_frozen HO2.out (N + 15)
  obtain ⟨Vb, hVb⟩ : ∃ v, v = f8 (N + 15) ^^^ 4#8 := ⟨_, rfl⟩
  have hx4 : bits .xor .u8 (I (f8 (N + 15))) 4 = I Vb := by rw [hVb]; exact I_xor _ 4#8
  obtain ⟨hst, hgr⟩ := own_stored HO2.out (N + 15) Vb
  have HST := Lib.hid hst
  have HVb := Lib.hid hVb
  have hlt0 := row_lt s0
  have hlt1 := row_lt s1
  have hw1 := HW1.out
  have B3 := Lib.hid (B2.out.grown hgr B2.out.size (fun k e => by injection e with e; omega))
  have hgr0 : w1.heap.size ≤ g := hg2
  have hr0 := R0.out
  have z0 := grown_row hgr s0 (fun e => by injection e with e; omega)
  have z1 := grown_row hgr s1 (fun e => by injection e with e; omega)
  have c0 := at_c0 z1
  have c1 := at_c1 z1
  have c2' := at_c2 z1
  have hi1 : (((N + 16 : Nat) : Int)) - 1 = ((N + 15 : Nat) : Int) := by omega
  have hne : (decide (((N + 16 : Nat) : Int) = (N : Int) + 16)) = true := by simp
  clear hst hgr hVb h8 hA8 HE HX hX5 R0 HO2 hlt0 hlt1 hw1 HW1
  go_wp2_with fail
  clear c0 c1 c2' hcell hfz hx4 hi1 hne s0 s1 z0 z1
  generalize w2.setCell ⟨g, N + 15, none⟩ (.int .u8 (I Vb)) = w3 at B3 HST ⊢
  obtain ⟨A3, c3, hv3, h3, -, -⟩ := HST.out.sl
  have h3' : Sl w3 w3.heap.size (some ⟨g, 0, none⟩) (N + 16) c8 (upd f8 (N + 15) Vb) := by
    simp only [Value.slice.injEq] at hv3
    obtain ⟨rfl, _, rfl⟩ := hv3
    exact h3
  refine (vopen_any a0 d1 t1 x1 (upd f8 (N + 15) Vb) (N + 16) c8 (some ⟨g, 0, none⟩) w3 (HT.out.below B3.out HT.out.pos) h3' (by omega)).mono ?_
  rintro e w4 ⟨v10, rfl, ho, hb4⟩
  have hy : Vb ≠ vsF a0 d1 t1 x1 a2 N (N + 15) := by
    rw [HVb.out, Hf8.out]
    exact bit_ne _ 2 (by omega)
  have hC : voC a0 d1 t1 x1 (upd f8 (N + 15) Vb) (N + 16) = 40 := by rw [Hf8.out]; exact voC_turn hok 15 (by omega) Vb hy
  have hL : voL a0 d1 t1 x1 (upd f8 (N + 15) Vb) (N + 16) = 0 := by rw [Hf8.out]; exact voL_turn hok 15 (by omega) Vb hy
  rw [hL] at ho
  rw [hC]
  obtain ⟨A10, c10, rfl, -, -, -⟩ := ho.sl
  have B4 := Lib.hid (onto B3.out B3.out.size hb4)
  clear ho hb4 h3 h3' hv3 hy hC hL HST
  go_wp2_with fail
  go_ret
  exact ⟨rfl, B4.out⟩

set_option maxRecDepth 100000 in
theorem lifted (os : Os) (started : os.Started) (H : Type) (enc : TypeId × Value → H) :
    ReturnsInHanded {} Tryd.checked os 6 .any (fun w args => (Rows.vaultSizesSpec.pre enc Tryd.prog Tryd.f6 [] false w args ∧ laidMetH Tryd.prog laidL w) ∧ sizedMet enc Tryd.prog Tryd.f6 (OpenSpec.ofChange Rows.vaultSizesSpec) false w args) (Rows.vaultSizesSpec.post enc Tryd.prog Tryd.f6 false true false false) := by
  refine returnsInHanded_of_change_and (C := Tryd.checked) (X := fun w _ => laidMetH Tryd.prog laidL w) (fun _ _ _ hh h => h.of_heap hh) own started (by kernel_rfl) Tryd.func6
    (ChangeSpec.witness_shaped (enc := enc) (C := Tryd.checked) (os := os) (X := fun w _ => laidMetH Tryd.prog laidL w) false (World.doorLaid Tryd.prog 14 os) #[.agg (Array.replicate 32 (.int .u8 0)), .agg #[.int .i64 0, .int .i64 0, .int .i64 0], .slice none 0 0] 8 rfl (World.shaped_of_RefB (by kernel_rfl) (by kernel_rfl)) (by kernel_rfl) (by kernel_rfl) (by kernel_rfl) (door_met os _)) ?_
  intro W base args ds gs before hval0 hW _ hsz0 hL _
  have hval : ∀ (j : Nat) t v, Tryd.f6.params[j]? = some t → args[j]? = some v → Value.okWide Tryd.prog W .any base t v := hval0
  have hW' := hW
  obtain ⟨p, q, hA0, hV, rfl, hfz, hnd⟩ := hW
  have hA : DataW.TrodAll enc Tryd.prog W 0 (fun _ => true) true Tryd.f6.params.toList args.toList ds p := hA0
  rw [Tryd.params6] at hA hval
  obtain ⟨v0, vs0, d0, ds0, p0, q0, hargs, rfl, rfl, h0, r0⟩ := trodAll_cons hA
  obtain ⟨v1, vs1, d1, ds1, p1, q1, rfl, rfl, rfl, h1, r1⟩ := trodAll_cons r0
  obtain ⟨v2, vs2, d2, ds2, p2, q2, rfl, rfl, rfl, h2, r2⟩ := trodAll_cons r1
  obtain ⟨rfl, rfl, rfl⟩ := trodAll_nil r2
  obtain rfl : args = #[v0, v1, v2] := by cases args; simp_all
  obtain ⟨rfl, rfl⟩ := trodVars_none hV
  have k0 := h0
  have lt0 : ∀ x ∈ p0, x.block < W.heap.size := by obtain ⟨m, hm⟩ := k0; exact DataW.trod_lt m _ _ _ hm
  obtain ⟨a0, rfl⟩ := open_bytes Tryd.underlying23 Tryd.underlying5 (by kernel_rfl) (by kernel_rfl) (hval 0 23 v0 rfl rfl) h0
  have k1 := h1
  have lt1 : ∀ x ∈ p1, x.block < W.heap.size := by obtain ⟨m, hm⟩ := k1; exact DataW.trod_lt m _ _ _ hm
  obtain ⟨db1, tb1, xb1, rfl⟩ := open_at (hval 1 25 v1 rfl rfl) h1
  have k2 := h2
  have lt2 : ∀ x ∈ p2, x.block < W.heap.size := by obtain ⟨m, hm⟩ := k2; exact DataW.trod_lt m _ _ _ hm
  obtain ⟨A2, n2, c2, a2, rfl, hs2, hm2⟩ := open_sl Tryd.underlying35 Tryd.underlying5 (by kernel_rfl) (hval 2 35 v2 rfl rfl) h2
  clear hA0 hval0
  refine (walk a0 db1 tb1 xb1 a2 n2 c2 A2 W  hs2 hm2 (tab_of hL)).mono fun e W' ⟨he, bel⟩ => ?_
  subst he
  exact ⟨_, rfl, _, _, _, [], _, [], hW', trodAll_mk1 (shut_bool Tryd.underlying4 _), (trodAll_cons_mk (Below.trod laidOut (by kernel_rfl) (of_decide_eq_true (by kernel_rfl)) k0 bel lt0) (trodAll_cons_mk (Below.trod laidOut (by kernel_rfl) (of_decide_eq_true (by kernel_rfl)) k1 bel lt1) (trodAll_cons_mk (Below.trod laidOut (by kernel_rfl) (of_decide_eq_true (by kernel_rfl)) k2 bel lt2) trodAll_mk0))), rfl, bel.frame _, fun h => by cases h⟩

theorem over : Rows.vaultSizesRow.holds Tryd.pinned (OpenSpec.ofChange Rows.vaultSizesSpec) :=
  OpenClaim.holds_of_wide 6 Tryd.f6 rfl rfl rfl rfl rfl rfl rfl ⟨rfl, rfl, rfl, rfl, rfl⟩ rfl rfl rfl rfl rfl (by kernel_rfl) Tryd.func6 (by kernel_rfl)
    (of_decide_eq_true (by kernel_rfl)) (by unfold Func.isWrapper; first | (rw [if_pos (by decide +kernel)]; kernel_rfl) | (rw [if_neg (by decide +kernel)]; exact ⟨rfl, rfl⟩))
    (fun os started H enc _ => lifted os started H enc)

theorem proved : Rows.VaultSizesCardSaid :=
  Claim7.holds_tied_plain_at .later [] [.data] true (true, "a5dc9dc7a918a1571651ca2c9c03392c72ba9bb44d5af2eeeb3e1f23480c498c") false
    over (fun _ h => by cases h) (by kernel_rfl) (fun _ h => by cases h) vaultSizes_row_tie rfl ⟨rfl, rfl⟩ (by kernel_rfl) rfl
    (fun f fn hf hfn => by
      obtain rfl : f = 6 := Option.some.inj ((show Tryd.prog.funcNamed "strongroom/strongroomlaw12.VaultSizes" = some 6 by kernel_rfl).symm.trans hf) |>.symm
      obtain rfl : fn = Tryd.f6 := (Option.some.inj (Tryd.func6.symm.trans hfn)).symm
      exact ⟨by kernel_rfl, fun j t ht => by
        rw [Tryd.params6] at ht
        have hm : t ∈ [23, 25, 35] := by simpa using Array.mem_of_getElem? ht
        have hall : ([23, 25, 35].all fun u => !Tryd.prog.wantsStandIn u) = true := by kernel_rfl
        exact (show Tryd.prog.wantsStandIn t = false by simpa using List.all_eq_true.1 hall t hm)⟩)
    (by kernel_rfl)
#print axioms proved
end Go.Proofs.YtkgefljjjheobaaDoor.vaultSizes
