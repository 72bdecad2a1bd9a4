/- The statement BlockSpreads: the law strongroomlaw03.BlockSpreads answers true for every input, and leaves its arguments as they were. No further condition. -/
import Derived.Test.YtaphjehcaabolaaRows
import Derived.Test.YtaphjehcaabolaaOpen
import Derived.Test.YtaphjehcaabolaaBlkS
namespace Go.Proofs.Ytaphjehcaabolaa.blockSpreads
open Go.ChangeShapes Go.WideShapes Go.ChangeAt Go.RowKit
open Go.Proofs.Ytaphjehcaabolaa.Oct
set_option linter.unusedVariables false

theorem own : ownKnob Try.prog.godebug = none := by kernel_rfl
theorem laidOut : laidOutB Try.prog = true := by kernel_rfl

theorem one_ok : (#[.int .u8 128, .int .u8 0, .int .u8 0, .int .u8 0, .int .u8 0, .int .u8 0, .int .u8 0, .int .u8 0, .int .u8 0, .int .u8 0, .int .u8 0, .int .u8 0, .int .u8 0, .int .u8 0, .int .u8 0, .int .u8 0] : Array Value) = ba 16 (fun i => if i = 0 then 0x80#8 else 0#8) := by unfold ba; kernel_rfl
set_option maxRecDepth 20000 in
set_option maxHeartbeats 4000000 in
theorem walk (a0 : Nat → BitVec 8) (a1 : Nat → BitVec 8) (a2 : Nat → BitVec 8) (w : World)  :
    Calls Try.prog 4 #[.agg (ba 16 a0), .agg (ba 16 a1), .agg (ba 16 a2)] w fun e w' => e = .returned (.bool true) ∧ Below w.heap.size w w' := by
  have B0 := Lib.hid ((((Below.refl w.heap.size w).alloc (by simp) (.cells (ba 16 a0) 23)).alloc (by simp) (.cells (ba 16 a1) 23)).alloc (by simp; omega) (.cells (ba 16 a2) 23))
  obtain ⟨one, hone⟩ : ∃ f : Bf, f = fun i => if i = 0 then 0x80#8 else 0#8 := ⟨_, rfl⟩
  have h1 : eqB 16 (gmF a0 (xorF a1 a2)) (xorF (gmF a0 a1) (gmF a0 a2)) = true := by rw [gmF_xor]; exact eqB_refl _ _
  have h2 : eqB 16 (gmF (gmF a0 a1) a2) (gmF a0 (gmF a1 a2)) = true := by rw [gmF_assoc]; exact eqB_refl _ _
  have h3 : eqB 16 (gmF a0 one) a0 = true := (eqB_iff _ _ _).2 fun i hi => by rw [hone]; exact gmF_one a0 i hi
  have h4 : eqB 16 (gmF a0 fun _ => 0#8) (fun _ => 0#8) = true := by rw [show gmF a0 (fun _ => 0#8) = nF from gmF_zero a0]; exact eqB_refl _ _
  have bld : ∀ w : World, (Instr.build 23 #[(0, .int .u8 128)]).run Try.prog w = .ok (.agg (ba 16 one)) w := fun w => by rw [hone, ← one_ok]; kernel_rfl
  have HB := Lib.hid bld
  clear bld hone
  go_enter Try.func4, Try.ntmps4
  go_wp2_with fail
  refine (shown_any _).mono ?_
  rintro e w1 ⟨rfl, hb1⟩
  have r0 := carry hb1 (b := w.heap.size) (c := ba 16 a0) (by simp [go_sem])
  have r1 := carry hb1 (b := w.heap.size + 1) (c := ba 16 a1) (by simp [go_sem])
  have r2 := carry hb1 (b := w.heap.size + 1 + 1) (c := ba 16 a2) (by simp [go_sem])
  have s1 : w.heap.size + 3 ≤ w1.heap.size := by have := hb1.size; simp at this; omega
  have B1 := Lib.hid (onto B0.out (by simp; omega) hb1)
  clear hb1 B0
  go_wp2_with (refine wpl_build rfl 23 #[(0, .const (.int .u8 128))] rfl _ _ HB.out (by kernel_rfl) ?_)
  have r3 : row (w1.alloc (.cells (ba 16 one) 23)) w1.heap.size = some (ba 16 one) := row_alloc_at _ _ _ _ rfl
  have p0 := row_alloc r0 (.cells (ba 16 one) 23)
  have p1 := row_alloc r1 (.cells (ba 16 one) 23)
  have p2 := row_alloc r2 (.cells (ba 16 one) 23)
  have B2 := Lib.hid (B1.out.alloc (by omega) (.cells (ba 16 one) 23))
  have s2 : w.heap.size + 3 ≤ (w1.alloc (.cells (ba 16 one) 23)).heap.size := by simp; omega
  clear r0 r1 r2 B1
  revert r3 p0 p1 p2 B2 s2
  generalize w1.alloc (.cells (ba 16 one) 23) = w2
  intro r3 p0 p1 p2 B2 s2
  have q0 := After.row p0
  have q1 := After.row p1
  have q2 := After.row p2
  have q3 := After.row r3
  clear p0 p1 p2 r3
  refine seen_region (by kernel_rfl) (by kernel_rfl) ?_
  repeat (first | rw [h1] | rw [h2] | rw [h3] | rw [h4] | go_big_quiet_step ((first | (go_at_call 11; refine After.call _ (bmul_any _ _ _)) | (go_at_call 13; refine After.call _ (bxor_any _ _ _)) | (go_at_call 17; refine After.call _ (bnext_any _ _)))))
  refine wpQuiet_nil ?_
  rintro _ ⟨x, rfl⟩
  have hfin := Lib.hid (onto B2.out (by omega) x.below)
  clear q0 q1 q2 q3
  go_wp2
  go_ret
  exact ⟨rfl, hfin.out⟩

set_option maxRecDepth 100000 in
theorem lifted (os : Os) (started : os.Started) (H : Type) (enc : TypeId × Value → H) :
    ReturnsInHanded {} Try.checked os 4 .any (Rows.blockSpreadsSpec.pre6 enc Try.prog Try.f4 Rows.blockSpreadsRow.domain false) (Rows.blockSpreadsSpec.post enc Try.prog Try.f4 false true false false) := by
  refine returnsInHanded_of_change (C := Try.checked) own started (by kernel_rfl) Try.func4
    (ChangeSpec.witness6 (enc := enc) (C := Try.checked) false ⟨#[], #[.agg (Array.replicate 16 (.int .u8 0)), .agg (Array.replicate 16 (.int .u8 0)), .agg (Array.replicate 16 (.int .u8 0))], []⟩ 8 (by kernel_rfl) (by kernel_rfl) (by kernel_rfl) (by kernel_rfl)) ?_
  intro W base args ds gs before hval0 hW hcnd _
  have hval : ∀ (j : Nat) t v, Try.f4.params[j]? = some t → args[j]? = some v → Value.okWide Try.prog W .any base t v := hval0
  have hW' := hW
  obtain ⟨p, q, hA0, hV, rfl, hfz, hnd⟩ := hW
  have hA : DataW.TrodAll enc Try.prog W 0 (fun _ => true) true Try.f4.params.toList args.toList ds p := hA0
  rw [Try.params4] at hA hval
  obtain ⟨v0, vs0, d0, ds0, p0, q0, hargs, rfl, rfl, h0, r0⟩ := trodAll_cons hA
  obtain ⟨v1, vs1, d1, ds1, p1, q1, rfl, rfl, rfl, h1, r1⟩ := trodAll_cons r0
  obtain ⟨v2, vs2, d2, ds2, p2, q2, rfl, rfl, rfl, h2, r2⟩ := trodAll_cons r1
  obtain ⟨rfl, rfl, rfl⟩ := trodAll_nil r2
  obtain rfl : args = #[v0, v1, v2] := by cases args; simp_all
  obtain ⟨rfl, rfl⟩ := trodVars_none hV
  have k0 := h0
  have lt0 : ∀ x ∈ p0, x.block < W.heap.size := by obtain ⟨m, hm⟩ := k0; exact DataW.trod_lt m _ _ _ hm
  obtain ⟨a0, rfl⟩ := open_bytes Try.underlying23 Try.underlying5 (by kernel_rfl) (by kernel_rfl) (hval 0 23 v0 rfl rfl) h0
  have k1 := h1
  have lt1 : ∀ x ∈ p1, x.block < W.heap.size := by obtain ⟨m, hm⟩ := k1; exact DataW.trod_lt m _ _ _ hm
  obtain ⟨a1, rfl⟩ := open_bytes Try.underlying23 Try.underlying5 (by kernel_rfl) (by kernel_rfl) (hval 1 23 v1 rfl rfl) h1
  have k2 := h2
  have lt2 : ∀ x ∈ p2, x.block < W.heap.size := by obtain ⟨m, hm⟩ := k2; exact DataW.trod_lt m _ _ _ hm
  obtain ⟨a2, rfl⟩ := open_bytes Try.underlying23 Try.underlying5 (by kernel_rfl) (by kernel_rfl) (hval 2 23 v2 rfl rfl) h2
  clear hA0 hval0
  refine (walk a0 a1 a2 W ).mono fun e W' ⟨he, bel⟩ => ?_
  subst he
  exact ⟨_, rfl, _, _, _, [], _, [], hW', trodAll_mk1 (shut_bool Try.underlying4 _), (trodAll_cons_mk (Below.trod laidOut (by kernel_rfl) (of_decide_eq_true (by kernel_rfl)) k0 bel lt0) (trodAll_cons_mk (Below.trod laidOut (by kernel_rfl) (of_decide_eq_true (by kernel_rfl)) k1 bel lt1) (trodAll_cons_mk (Below.trod laidOut (by kernel_rfl) (of_decide_eq_true (by kernel_rfl)) k2 bel lt2) trodAll_mk0))), rfl, bel.frame _, fun h => by cases h⟩

theorem over : Rows.blockSpreadsRow.holds Try.pinned (OpenSpec.ofChange Rows.blockSpreadsSpec) :=
  OpenClaim.holds_of_wide 4 Try.f4 rfl rfl rfl rfl rfl rfl rfl ⟨rfl, rfl, rfl, rfl, rfl⟩ rfl rfl rfl rfl rfl (by kernel_rfl) Try.func4 (by kernel_rfl)
    (of_decide_eq_true (by kernel_rfl)) (by unfold Func.isWrapper; first | (rw [if_pos (by decide +kernel)]; kernel_rfl) | (rw [if_neg (by decide +kernel)]; exact ⟨rfl, rfl⟩))
    (fun os started H enc _ => lifted os started H enc)

theorem proved : Rows.BlockSpreadsSaid := over
#print axioms proved
end Go.Proofs.Ytaphjehcaabolaa.blockSpreads
