/- The statement BlockNexts: the law strongroomlaw03.BlockNexts answers true for every input, and leaves its arguments as they were. No further condition. -/
import Derived.Test.YtaphjehcaabolaaRows
import Derived.Test.YtaphjehcaabolaaOpen
import Derived.Test.YtaphjehcaabolaaBlkS
namespace Go.Proofs.Ytaphjehcaabolaa.blockNexts
open Go.ChangeShapes Go.WideShapes Go.ChangeAt Go.RowKit
open Go.Proofs.Ytaphjehcaabolaa.Oct
set_option linter.unusedVariables false

theorem own : ownKnob Try.prog.godebug = none := by kernel_rfl
theorem laidOut : laidOutB Try.prog = true := by kernel_rfl

set_option maxRecDepth 20000 in
set_option maxHeartbeats 4000000 in
theorem walk (a0 : Nat → BitVec 8) (w : World)  :
    Calls Try.prog 7 #[.agg (ba 16 a0)] w fun e w' => e = .returned (.bool true) ∧ Below w.heap.size w w' := by
  have B0 := Lib.hid ((Below.refl w.heap.size w).alloc (by simp) (.cells (ba 16 a0) 23))
  have h1 : eqB 16 (nextF a0) (nextF a0) = true := eqB_refl _ _
  go_enter Try.func7, Try.ntmps7
  go_wp2_with fail
  refine (shown_any _).mono ?_
  rintro e w1 ⟨rfl, hb1⟩
  have r0 := carry hb1 (b := w.heap.size) (c := ba 16 a0) (by simp [go_sem])
  have s1 : w.heap.size + 1 ≤ w1.heap.size := by have := hb1.size; simp at this; omega
  have B1 := Lib.hid (onto B0.out (by simp) hb1)
  clear hb1 B0
  go_wp2_with fail
  refine (bnext_any a0 _).mono ?_
  rintro e w2 ⟨rfl, hb2⟩
  have p0 := row_alloc (carry hb2 r0) (.cells (ba 16 (nextF a0)) 23)
  have p1 : row (w2.alloc (.cells (ba 16 (nextF a0)) 23)) w2.heap.size = some (ba 16 (nextF a0)) := row_alloc_at _ _ _ _ rfl
  have s2 : w.heap.size + 1 ≤ (w2.alloc (.cells (ba 16 (nextF a0)) 23)).heap.size := by have := hb2.size; simp; omega
  have B2 := Lib.hid ((onto B1.out (by omega) hb2).alloc (by have := hb2.size; omega) (.cells (ba 16 (nextF a0)) 23))
  clear hb2 B1 r0
  go_wp2_with fail
  revert p0 p1 s2 B2
  generalize w2.alloc (.cells (ba 16 (nextF a0)) 23) = w3
  intro p0 p1 s2 B2
  go_loopw [5] (fun i wr => ∃ k : Nat, k ≤ 12 ∧ i = .int .i64 k ∧ ∃ m, wr = w3.drewN m) (fun i _ => 12 - (intOf i).toNat)
  case atStart => exact ⟨0, by omega, rfl, 0, rfl⟩
  case round =>
    obtain ⟨k, hk, rfl, m, rfl⟩ := hrel
    by_cases hlt : k < 12
    · have c0 := cell_row p0
      have c1 := cell_row p1
      have k16 : k < 16 := by omega
      have he := nextF_low a0 k hlt
      have hd : (I (nextF a0 k) != I (a0 k)) = false := by rw [he]; simp
      have HE := Lib.hid he
      clear he
      go_wp2_with fail
      go_quiet (fail)
      go_wp2_with fail
      go_roundw
      case rel => exact ⟨k + 1, by omega, by go_num, _, rfl⟩
      case measure => simp [intOf]; omega
    · obtain rfl : k = 12 := by omega
      have q0 := After.row (W := w3.drewN m) (by rw [row_drewN]; exact p0)
      have q1 := After.row (W := w3.drewN m) (by rw [row_drewN]; exact p1)
      clear p0 p1
      go_wp2_with fail
      refine seen_region (by kernel_rfl) (by kernel_rfl) ?_
      repeat (first | rw [h1] | go_big_quiet_step ((refine After.call _ (rbnext_any _ _))))
      refine wpQuiet_nil ?_
      rintro _ ⟨x, rfl⟩
      have hfin := Lib.hid (onto (below_drewN B2.out m) (Nat.le_of_succ_le s2) x.below)
      clear q0 q1
      go_wp2
      go_ret
      exact ⟨rfl, hfin.out⟩

set_option maxRecDepth 100000 in
theorem lifted (os : Os) (started : os.Started) (H : Type) (enc : TypeId × Value → H) :
    ReturnsInHanded {} Try.checked os 7 .any (Rows.blockNextsSpec.pre6 enc Try.prog Try.f7 Rows.blockNextsRow.domain false) (Rows.blockNextsSpec.post enc Try.prog Try.f7 false true false false) := by
  refine returnsInHanded_of_change (C := Try.checked) own started (by kernel_rfl) Try.func7
    (ChangeSpec.witness6 (enc := enc) (C := Try.checked) false ⟨#[], #[.agg (Array.replicate 16 (.int .u8 0))], []⟩ 8 (by kernel_rfl) (by kernel_rfl) (by kernel_rfl) (by kernel_rfl)) ?_
  intro W base args ds gs before hval0 hW hcnd _
  have hval : ∀ (j : Nat) t v, Try.f7.params[j]? = some t → args[j]? = some v → Value.okWide Try.prog W .any base t v := hval0
  have hW' := hW
  obtain ⟨p, q, hA0, hV, rfl, hfz, hnd⟩ := hW
  have hA : DataW.TrodAll enc Try.prog W 0 (fun _ => true) true Try.f7.params.toList args.toList ds p := hA0
  rw [Try.params7] at hA hval
  obtain ⟨v0, vs0, d0, ds0, p0, q0, hargs, rfl, rfl, h0, r0⟩ := trodAll_cons hA
  obtain ⟨rfl, rfl, rfl⟩ := trodAll_nil r0
  obtain rfl : args = #[v0] := by cases args; simp_all
  obtain ⟨rfl, rfl⟩ := trodVars_none hV
  have k0 := h0
  have lt0 : ∀ x ∈ p0, x.block < W.heap.size := by obtain ⟨m, hm⟩ := k0; exact DataW.trod_lt m _ _ _ hm
  obtain ⟨a0, rfl⟩ := open_bytes Try.underlying23 Try.underlying5 (by kernel_rfl) (by kernel_rfl) (hval 0 23 v0 rfl rfl) h0
  clear hA0 hval0
  refine (walk a0 W ).mono fun e W' ⟨he, bel⟩ => ?_
  subst he
  exact ⟨_, rfl, _, _, _, [], _, [], hW', trodAll_mk1 (shut_bool Try.underlying4 _), (trodAll_cons_mk (Below.trod laidOut (by kernel_rfl) (of_decide_eq_true (by kernel_rfl)) k0 bel lt0) trodAll_mk0), rfl, bel.frame _, fun h => by cases h⟩

theorem over : Rows.blockNextsRow.holds Try.pinned (OpenSpec.ofChange Rows.blockNextsSpec) :=
  OpenClaim.holds_of_wide 7 Try.f7 rfl rfl rfl rfl rfl rfl rfl ⟨rfl, rfl, rfl, rfl, rfl⟩ rfl rfl rfl rfl rfl (by kernel_rfl) Try.func7 (by kernel_rfl)
    (of_decide_eq_true (by kernel_rfl)) (by unfold Func.isWrapper; first | (rw [if_pos (by decide +kernel)]; kernel_rfl) | (rw [if_neg (by decide +kernel)]; exact ⟨rfl, rfl⟩))
    (fun os started H enc _ => lifted os started H enc)

theorem proved : Rows.BlockNextsSaid := over
#print axioms proved
end Go.Proofs.Ytaphjehcaabolaa.blockNexts
