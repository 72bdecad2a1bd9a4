/- The statement AesExpands: the law strongroomlaw02.AesExpands answers true for every input, and leaves its arguments as they were. No further condition. -/
import Derived.Test.YtfbgjapbffbdpaaRows
import Derived.Test.YtfbgjapbffbdpaaOpen
import Derived.Test.YtfbgjapbffbdpaaAesS
import Derived.Test.YtfbgjapbffbdpaaAesY
namespace Go.Proofs.Ytfbgjapbffbdpaa.aesExpands
open Go.ChangeShapes Go.WideShapes Go.ChangeAt Go.RowKit
open Go.Proofs.Ytfbgjapbffbdpaa.Oct
set_option linter.unusedVariables false

theorem own : ownKnob Try.prog.godebug = none := by kernel_rfl
theorem laidOut : laidOutB Try.prog = true := by kernel_rfl

set_option maxHeartbeats 2000000 in
theorem walk (a0 : Nat → BitVec 8) (w : World)  :
    Calls Try.prog 3 #[.agg (ba 32 a0)] w fun e w' => e = .returned (.bool true) ∧ Below w.heap.size w w' := by
  have B0 := Lib.hid ((Below.refl w.heap.size w).alloc (by simp) (.cells (ba 32 a0) 23))
  go_enter Try.func3, Try.ntmps3
  go_wp2_with fail
  refine (shown_any _).mono ?_
  rintro e w1 ⟨rfl, hb1⟩
  have r0 := carry hb1 (b := w.heap.size) (c := ba 32 a0) (by simp [go_sem])
  have s1 : w.heap.size + 1 ≤ w1.heap.size := by have := hb1.size; simp at this; omega
  have B1 := Lib.hid (onto B0.out (by simp) hb1)
  clear hb1 B0
  go_wp2_with fail
  refine (expand_any a0 _).mono ?_
  rintro e w2 ⟨rfl, hb2⟩
  have r02 := carry hb2 r0
  have s2 : w.heap.size + 1 ≤ w2.heap.size := by have := hb2.size; omega
  have s20 : w.heap.size < w2.heap.size := by omega
  have B2 := Lib.hid (onto B1.out (by omega) hb2)
  clear hb2 r0 B1 s1
  obtain ⟨F, hF⟩ : ∃ F, F = expF a0 := ⟨_, rfl⟩
  rw [← hF]
  have HF := Lib.hid hF
  clear hF
  go_wp2_with fail
  refine (refexpand_any a0 _).mono ?_
  rw [← HF.out]
  rintro e w3 ⟨rfl, hb3⟩
  have r03 := carry hb3 (row_alloc r02 (.cells (ba 240 F) 27))
  have rx3 := carry hb3 (b := w2.heap.size) (c := ba 240 F) (by simp [go_sem])
  have s3 : w2.heap.size < w3.heap.size := by have := hb3.size; simp at this; omega
  have s30 : w.heap.size < w3.heap.size := by omega
  have B3 := Lib.hid (onto (B2.out.alloc (by omega) _) (by simp; omega) hb3)
  clear hb3 r02
  have hfin := fun n => below_drewN (B3.out.alloc (by omega) (.cells (ba 240 F) 27)) n
  have HB := Lib.hid hfin
  clear hfin B2
  have hc0 := cell_row r03
  have hcx := cell_row rx3
  go_wp2_with fail
  go_loopw [6] (fun i wr => ∃ c : Nat, c ≤ 32 ∧ i = .int .i64 c ∧ ∃ n, wr = (w3.alloc (.cells (ba 240 F) 27)).drewN n) (fun i _ => 32 - (intOf i).toNat)
  case atStart => exact ⟨0, by omega, rfl, 0, rfl⟩
  case round =>
    obtain ⟨c, hc, rfl, n, rfl⟩ := hrel
    by_cases hlt : c < 32
    · have b1 : c / 16 * 16 + c % 16 < 240 := by omega
      have hne : (I (F (c / 16 * 16 + c % 16)) != I (a0 c)) = false := by
        rw [HF.out, show c / 16 * 16 + c % 16 = c by omega, exp_key a0 c hlt]; simp
      go_wp2
      go_quiet (fail)
      go_wp2
      go_roundw
      case rel => exact ⟨c + 1, by omega, by go_num, _, rfl⟩
      case measure => simp [intOf]; omega
    · obtain rfl : c = 32 := by omega
      have hx : eqB 240 F F = true := eqB_refl _ _
      clear hc0 hcx
      go_wp2
      go_ret
      exact ⟨rfl, HB.out n⟩

set_option maxRecDepth 100000 in
theorem lifted (os : Os) (started : os.Started) (H : Type) (enc : TypeId × Value → H) :
    ReturnsInHanded {} Try.checked os 3 .any (Rows.aesExpandsSpec.pre6 enc Try.prog Try.f3 Rows.aesExpandsRow.domain false) (Rows.aesExpandsSpec.post enc Try.prog Try.f3 false true false false) := by
  refine returnsInHanded_of_change (C := Try.checked) own started (by kernel_rfl) Try.func3
    (ChangeSpec.witness6 (enc := enc) (C := Try.checked) false ⟨#[], #[.agg (Array.replicate 32 (.int .u8 0))], []⟩ 8 (by kernel_rfl) (by kernel_rfl) (by kernel_rfl) (by kernel_rfl)) ?_
  intro W base args ds gs before hval0 hW hcnd _
  have hval : ∀ (j : Nat) t v, Try.f3.params[j]? = some t → args[j]? = some v → Value.okWide Try.prog W .any base t v := hval0
  have hW' := hW
  obtain ⟨p, q, hA0, hV, rfl, hfz, hnd⟩ := hW
  have hA : DataW.TrodAll enc Try.prog W 0 (fun _ => true) true Try.f3.params.toList args.toList ds p := hA0
  rw [Try.params3] at hA hval
  obtain ⟨v0, vs0, d0, ds0, p0, q0, hargs, rfl, rfl, h0, r0⟩ := trodAll_cons hA
  obtain ⟨rfl, rfl, rfl⟩ := trodAll_nil r0
  obtain rfl : args = #[v0] := by cases args; simp_all
  obtain ⟨rfl, rfl⟩ := trodVars_none hV
  have k0 := h0
  have lt0 : ∀ x ∈ p0, x.block < W.heap.size := by obtain ⟨m, hm⟩ := k0; exact DataW.trod_lt m _ _ _ hm
  obtain ⟨a0, rfl⟩ := open_bytes Try.underlying23 Try.underlying5 (by kernel_rfl) (by kernel_rfl) (hval 0 23 v0 rfl rfl) h0
  clear hA0 hval0
  refine (walk a0 W ).mono fun e W' ⟨he, bel⟩ => ?_
  subst he
  exact ⟨_, rfl, _, _, _, [], _, [], hW', trodAll_mk1 (shut_bool Try.underlying4 _), (trodAll_cons_mk (Below.trod laidOut (by kernel_rfl) (of_decide_eq_true (by kernel_rfl)) k0 bel lt0) trodAll_mk0), rfl, bel.frame _, fun h => by cases h⟩

theorem over : Rows.aesExpandsRow.holds Try.pinned (OpenSpec.ofChange Rows.aesExpandsSpec) :=
  OpenClaim.holds_of_wide 3 Try.f3 rfl rfl rfl rfl rfl rfl rfl ⟨rfl, rfl, rfl, rfl, rfl⟩ rfl rfl rfl rfl rfl (by kernel_rfl) Try.func3 (by kernel_rfl)
    (of_decide_eq_true (by kernel_rfl)) (by unfold Func.isWrapper; first | (rw [if_pos (by decide +kernel)]; kernel_rfl) | (rw [if_neg (by decide +kernel)]; exact ⟨rfl, rfl⟩))
    (fun os started H enc _ => lifted os started H enc)

theorem proved : Rows.AesExpandsSaid := over
#print axioms proved
end Go.Proofs.Ytfbgjapbffbdpaa.aesExpands
