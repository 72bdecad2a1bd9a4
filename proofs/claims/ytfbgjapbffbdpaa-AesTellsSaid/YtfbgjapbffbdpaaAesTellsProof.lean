/- The statement AesTells: the law strongroomlaw02.AesTells answers true for every input, and leaves its arguments as they were. No further condition. -/
import Derived.Test.YtfbgjapbffbdpaaRows
import Derived.Test.YtfbgjapbffbdpaaOpen
import Derived.Test.YtfbgjapbffbdpaaAesS
import Derived.Test.YtfbgjapbffbdpaaSeen
import Derived.Test.YtfbgjapbffbdpaaAesInj
import Derived.Test.YtfbgjapbffbdpaaFloat
import Derived.Test.YtfbgjapbffbdpaaAesE
namespace Go.Proofs.Ytfbgjapbffbdpaa.aesTells
open Go.ChangeShapes Go.WideShapes Go.ChangeAt Go.RowKit
open Go.Proofs.Ytfbgjapbffbdpaa.Oct
set_option linter.unusedVariables false

theorem own : ownKnob Try.prog.godebug = none := by kernel_rfl
theorem laidOut : laidOutB Try.prog = true := by kernel_rfl

@[go_sem] theorem blk_at (a : Option Addr) (cap : Nat) (w : World) : (Instr.arrayAt 26 (.slice a 16 cap)).run Try.prog w = .ok (.pointer a) w := by
  simp [Instr.arrayAt, run_underlying blk_u]
theorem round_call (a : Act) (dst : Option Tmp) (xs : Array Operand) (ats : Array TypeId) (ty : TypeId) (pos : String) (af : Array Edge) (g : Option (Nat × Bool)) (w : World) :
    (execOp a.eval { dst, op := .call { callee := .value (.func 13), args := xs, argTypes := ats }, type := ty, pos, after := af, guard := g }).run Try.prog w = .ok (.enter 13 (xs.map a.eval)) w := by
  have hf : Try.prog.funcs[13]? = some Try.f13 := by kernel_rfl
  have hn : (Try.f13.name == "runtime.NumGoroutine") = false := by kernel_rfl
  have hn' : Try.f13.name ≠ "runtime.NumGoroutine" := by simpa using hn
  have hb : Try.f13.body.isSome = true := by kernel_rfl
  obtain ⟨c, hc⟩ := Option.isSome_iff_exists.1 hb
  rw [execOp_call_go]
  simp [callFunc, go_sem, hf, hn', hc]
set_option maxHeartbeats 4000000 in
theorem walk (a0 : Nat → BitVec 8) (a1 : Nat → BitVec 8) (a2 : Bool) (w : World)  :
    Calls Try.prog 6 #[.agg (ba 32 a0), .agg (ba 32 a1), .bool a2] w fun e w' => e = .returned (.bool true) ∧ Below w.heap.size w w' := by
  have B0 := Lib.hid (((Below.refl w.heap.size w).alloc (by simp) (.cells (ba 32 a0) 23)).alloc (by simp) (.cells (ba 32 a1) 34))
  go_enter Try.func6, Try.ntmps6
  go_wp2_with fail
  refine (shown_any _).mono ?_
  rintro e w1 ⟨rfl, hb1⟩
  have r0 := carry hb1 (b := w.heap.size) (c := ba 32 a0) (by simp [go_sem])
  have r1 := carry hb1 (b := w.heap.size + 1) (c := ba 32 a1) (by simp [go_sem])
  have s1 : w.heap.size + 2 ≤ w1.heap.size := by have := hb1.size; simp at this; omega
  have B1 := Lib.hid (onto B0.out (by simp; omega) hb1)
  clear hb1 B0
  go_wp2_with fail
  have q0 := After.row r0
  have q1 := After.row r1
  refine float_region 6 (.agg (ba 16 (rndF (a1) a0 a2))) (ba 16 fun _ => 0#8) _ _ _ (by kernel_rfl) (by kernel_rfl) rfl rfl rfl (fun ρ w => ?_) ?_
  · simp only [execOp, go_sem, Sem.run_bind, Result.andThen]
    exact ⟨_, rfl, by simp [go_sem], (Below.refl _ _).alloc (Nat.le_refl _) _⟩
  simp only [List.take_succ_cons, List.take_zero]
  iterate 6 (go_big_quiet_step (fail))
  refine wpQuiet_nil ⟨fun x => ⟨13, #[.agg (ba 16 (a1)), .agg (ba 16 a0), .bool a2], (round_call _ _ _ _ _ _ _ _ _).trans (by simp [Act.eval, go_sem]), round_any (a1) a0 a2 _⟩, ?_⟩
  intro x1 px hpx hr1
  go_wp2_with fail
  have t0 : row (x1.val.setRow px (ba 16 (rndF (a1) a0 a2))) (w.heap.size) = some (ba 32 a0) := by rw [row_setRow_other _ _ _ _ (by have := row_lt r0; omega)]; exact q0 x1
  have t1 : row (x1.val.setRow px (ba 16 (rndF (a1) a0 a2))) (w.heap.size + 1) = some (ba 32 a1) := by rw [row_setRow_other _ _ _ _ (by have := row_lt r1; omega)]; exact q1 x1
  have tx : row (x1.val.setRow px (ba 16 (rndF (a1) a0 a2))) px = some (ba 16 (rndF (a1) a0 a2)) := row_setRow hr1 _
  have B2 := Lib.hid (below_setRow (onto B1.out (by omega) x1.below) (b := px) (by omega) (ba 16 (rndF (a1) a0 a2)))
  have s2 : w.heap.size + 2 ≤ (x1.val.setRow px (ba 16 (rndF (a1) a0 a2))).heap.size := by have := row_lt t1; omega
  clear q0 q1 r0 r1 hr1 hpx B1 s1
  revert t0 t1 tx B2 s2
  generalize x1.val.setRow px (ba 16 (rndF (a1) a0 a2)) = w2
  intro r0 r1 rx B2 s2
  clear x1 w1
  have q0 := After.row r0
  have q1 := After.row r1
  have qx := After.row rx
  refine float_region 6 (.agg (ba 16 (rndF (offF a1 16) a0 a2))) (ba 16 fun _ => 0#8) _ _ _ (by kernel_rfl) (by kernel_rfl) rfl rfl rfl (fun ρ w => ?_) ?_
  · simp only [execOp, go_sem, Sem.run_bind, Result.andThen]
    exact ⟨_, rfl, by simp [go_sem], (Below.refl _ _).alloc (Nat.le_refl _) _⟩
  simp only [List.take_succ_cons, List.take_zero]
  iterate 6 (go_big_quiet_step (fail))
  refine wpQuiet_nil ⟨fun x => ⟨13, #[.agg (ba 16 (offF a1 16)), .agg (ba 16 a0), .bool a2], (round_call _ _ _ _ _ _ _ _ _).trans (by simp [Act.eval, go_sem]), round_any (offF a1 16) a0 a2 _⟩, ?_⟩
  intro x2 py hpy hr2
  go_wp2_with fail
  have t0 : row (x2.val.setRow py (ba 16 (rndF (offF a1 16) a0 a2))) (w.heap.size) = some (ba 32 a0) := by rw [row_setRow_other _ _ _ _ (by have := row_lt r0; omega)]; exact q0 x2
  have t1 : row (x2.val.setRow py (ba 16 (rndF (offF a1 16) a0 a2))) (w.heap.size + 1) = some (ba 32 a1) := by rw [row_setRow_other _ _ _ _ (by have := row_lt r1; omega)]; exact q1 x2
  have tx : row (x2.val.setRow py (ba 16 (rndF (offF a1 16) a0 a2))) (px) = some (ba 16 (rndF a1 a0 a2)) := by rw [row_setRow_other _ _ _ _ (by have := row_lt rx; omega)]; exact qx x2
  have ty : row (x2.val.setRow py (ba 16 (rndF (offF a1 16) a0 a2))) py = some (ba 16 (rndF (offF a1 16) a0 a2)) := row_setRow hr2 _
  have B3 := Lib.hid (below_setRow (onto B2.out (by omega) x2.below) (b := py) (by omega) (ba 16 (rndF (offF a1 16) a0 a2)))
  have s3 : w.heap.size + 2 ≤ (x2.val.setRow py (ba 16 (rndF (offF a1 16) a0 a2))).heap.size := by have := row_lt t1; omega
  clear q0 q1 qx r0 r1 rx hr2 hpy B2 s2
  revert t0 t1 tx ty B3 s3
  generalize x2.val.setRow py (ba 16 (rndF (offF a1 16) a0 a2)) = w3
  intro r0 r1 rx ry B3 s3
  clear x2 w2
  have q0 := After.row r0
  have q1 := After.row r1
  have qx := After.row rx
  have qy := After.row ry
  clear r0 r1 rx ry
  have h1 := eqB_enc a0 a1 (offF a1 16)
  have h2 := eqB_rnd a1 (offF a1 16) a0 a2
  refine seen_region (by kernel_rfl) (by kernel_rfl) ?_
  iterate 5 (go_big_quiet_step (fail))
  go_big_quiet_step (refine After.call _ (encrypt_any a0 a1 _))
  iterate 3 (go_big_quiet_step (fail))
  go_big_quiet_step (refine After.call _ (encrypt_any a0 (offF a1 16) _))
  revert h1 h2 qx qy
  generalize encF a0 a1 = E1
  generalize encF a0 (offF a1 16) = E2
  generalize rndF a1 a0 a2 = R1
  generalize rndF (offF a1 16) a0 a2 = R2
  generalize eqB 16 a1 (offF a1 16) = same
  intro h1 h2 qx qy
  repeat (go_big_quiet_step (fail))
  refine wpQuiet_nil ?_
  rintro _ ⟨x, rfl⟩
  have hfin := Lib.hid (onto B3.out (by omega) x.below)
  clear q0 q1 qx qy h1 h2
  go_wp2
  go_ret
  exact ⟨rfl, hfin.out⟩

set_option maxRecDepth 100000 in
theorem lifted (os : Os) (started : os.Started) (H : Type) (enc : TypeId × Value → H) :
    ReturnsInHanded {} Try.checked os 6 .any (Rows.aesTellsSpec.pre6 enc Try.prog Try.f6 Rows.aesTellsRow.domain false) (Rows.aesTellsSpec.post enc Try.prog Try.f6 false true false false) := by
  refine returnsInHanded_of_change (C := Try.checked) own started (by kernel_rfl) Try.func6
    (ChangeSpec.witness6 (enc := enc) (C := Try.checked) false ⟨#[], #[.agg (Array.replicate 32 (.int .u8 0)), .agg (Array.replicate 32 (.int .u8 0)), .bool false], []⟩ 8 (by kernel_rfl) (by kernel_rfl) (by kernel_rfl) (by kernel_rfl)) ?_
  intro W base args ds gs before hval0 hW hcnd _
  have hval : ∀ (j : Nat) t v, Try.f6.params[j]? = some t → args[j]? = some v → Value.okWide Try.prog W .any base t v := hval0
  have hW' := hW
  obtain ⟨p, q, hA0, hV, rfl, hfz, hnd⟩ := hW
  have hA : DataW.TrodAll enc Try.prog W 0 (fun _ => true) true Try.f6.params.toList args.toList ds p := hA0
  rw [Try.params6] at hA hval
  obtain ⟨v0, vs0, d0, ds0, p0, q0, hargs, rfl, rfl, h0, r0⟩ := trodAll_cons hA
  obtain ⟨v1, vs1, d1, ds1, p1, q1, rfl, rfl, rfl, h1, r1⟩ := trodAll_cons r0
  obtain ⟨v2, vs2, d2, ds2, p2, q2, rfl, rfl, rfl, h2, r2⟩ := trodAll_cons r1
  obtain ⟨rfl, rfl, rfl⟩ := trodAll_nil r2
  obtain rfl : args = #[v0, v1, v2] := by cases args; simp_all
  obtain ⟨rfl, rfl⟩ := trodVars_none hV
  have k0 := h0
  have lt0 : ∀ x ∈ p0, x.block < W.heap.size := by obtain ⟨m, hm⟩ := k0; exact DataW.trod_lt m _ _ _ hm
  obtain ⟨a0, rfl⟩ := open_bytes Try.underlying23 Try.underlying5 (by kernel_rfl) (by kernel_rfl) (hval 0 23 v0 rfl rfl) h0
  have k1 := h1
  have lt1 : ∀ x ∈ p1, x.block < W.heap.size := by obtain ⟨m, hm⟩ := k1; exact DataW.trod_lt m _ _ _ hm
  obtain ⟨a1, rfl⟩ := open_bytes2 Try.underlying34 Try.underlying26 Try.underlying5 (by decide : 2 * 16 = 32) (by kernel_rfl) (by kernel_rfl) (by kernel_rfl) (hval 1 34 v1 rfl rfl) h1
  obtain ⟨a2, rfl, rfl, rfl⟩ := open_bool Try.underlying4 (hval 2 4 v2 rfl rfl) h2
  clear hA0 hval0
  refine (walk a0 a1 a2 W ).mono fun e W' ⟨he, bel⟩ => ?_
  subst he
  exact ⟨_, rfl, _, _, _, [], _, [], hW', trodAll_mk1 (shut_bool Try.underlying4 _), (trodAll_cons_mk (Below.trod laidOut (by kernel_rfl) (of_decide_eq_true (by kernel_rfl)) k0 bel lt0) (trodAll_cons_mk (Below.trod laidOut (by kernel_rfl) (of_decide_eq_true (by kernel_rfl)) k1 bel lt1) (trodAll_cons_mk (shut_bool Try.underlying4 _) trodAll_mk0))), rfl, bel.frame _, fun h => by cases h⟩

theorem over : Rows.aesTellsRow.holds Try.pinned (OpenSpec.ofChange Rows.aesTellsSpec) :=
  OpenClaim.holds_of_wide 6 Try.f6 rfl rfl rfl rfl rfl rfl rfl ⟨rfl, rfl, rfl, rfl, rfl⟩ rfl rfl rfl rfl rfl (by kernel_rfl) Try.func6 (by kernel_rfl)
    (of_decide_eq_true (by kernel_rfl)) (by unfold Func.isWrapper; first | (rw [if_pos (by decide +kernel)]; kernel_rfl) | (rw [if_neg (by decide +kernel)]; exact ⟨rfl, rfl⟩))
    (fun os started H enc _ => lifted os started H enc)

theorem proved : Rows.AesTellsSaid := over
#print axioms proved
end Go.Proofs.Ytfbgjapbffbdpaa.aesTells
