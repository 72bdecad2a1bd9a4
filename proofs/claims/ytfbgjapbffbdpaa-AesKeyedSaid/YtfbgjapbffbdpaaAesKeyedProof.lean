/- The statement AesKeyed: the law strongroomlaw02.AesKeyed answers true for every input, and leaves its arguments as they were. No further condition. -/
import Derived.Test.YtfbgjapbffbdpaaRows
import Derived.Test.YtfbgjapbffbdpaaOpen
import Derived.Test.YtfbgjapbffbdpaaAesS
import Derived.Test.YtfbgjapbffbdpaaSeen
namespace Go.Proofs.Ytfbgjapbffbdpaa.aesKeyed
open Go.ChangeShapes Go.WideShapes Go.ChangeAt Go.RowKit
open Go.Proofs.Ytfbgjapbffbdpaa.Oct
set_option linter.unusedVariables false

theorem own : ownKnob Try.prog.godebug = none := by kernel_rfl
theorem laidOut : laidOutB Try.prog = true := by kernel_rfl

theorem keyed_at (s k : Bf) (last : Bool) (i : Nat) : rndF s (fun _ => 0#8) last i ^^^ k i = rndF s k last i := by
  unfold rndF xorF
  rw [BitVec.xor_zero]
set_option maxHeartbeats 2000000 in
theorem walk (a0 : Nat → BitVec 8) (a1 : Nat → BitVec 8) (a2 : Bool) (w : World)  :
    Calls Try.prog 9 #[.agg (ba 16 a0), .agg (ba 16 a1), .bool a2] w fun e w' => e = .returned (.bool true) ∧ Below w.heap.size w w' := by
  have B0 := Lib.hid (((Below.refl w.heap.size w).alloc (by simp) (.cells (ba 16 a0) 26)).alloc (by simp) (.cells (ba 16 a1) 26))
  go_enter Try.func9, Try.ntmps9
  go_wp2_with fail
  refine (shown_any _).mono ?_
  rintro e w1 ⟨rfl, hb1⟩
  have r0 := carry hb1 (b := w.heap.size) (c := ba 16 a0) (by simp [go_sem])
  have r1 := carry hb1 (b := w.heap.size + 1) (c := ba 16 a1) (by simp [go_sem])
  have s1 : w.heap.size + 2 ≤ w1.heap.size := by have := hb1.size; simp at this; omega
  have B1 := Lib.hid (onto B0.out (by simp; omega) hb1)
  clear hb1 B0
  go_wp2_with fail
  refine (round_any a0 (fun _ => 0#8) a2 _).mono ?_
  rintro e w2 ⟨rfl, hb2⟩
  have r02 := Lib.hid (carry hb2 r0)
  have r12 := Lib.hid (carry hb2 r1)
  have s2 : w.heap.size + 2 ≤ w2.heap.size := by have := hb2.size; omega
  have B2 := Lib.hid (onto B1.out (by omega) hb2)
  clear hb2 r0 r1 B1 s1
  have s21 : w.heap.size + 1 < w2.heap.size := by omega
  have s20 : w.heap.size < w2.heap.size := by omega
  obtain ⟨X, hX⟩ : ∃ X, X = rndF a0 (fun _ => 0#8) a2 := ⟨_, rfl⟩
  rw [← hX]
  have HX := Lib.hid hX
  clear hX
  have q1 := cell_row r12.out
  go_wp2_with fail
  go_loopw [9] (fun i wr => ∃ c : Nat, c ≤ 16 ∧ i = .int .i64 c ∧ ∃ n, wr = (w2.alloc (.cells (ba 16 (upto c (xorF X a1) X)) 26)).drewN n) (fun i _ => 16 - (intOf i).toNat)
  case atStart => exact ⟨0, by omega, rfl, 0, by rw [upto_zero]; rfl⟩
  case round =>
    obtain ⟨c, hc, rfl, n, rfl⟩ := hrel
    by_cases hlt : c < 16
    · have H := Lib.hid (upto_step c (xorF X a1) X)
      go_wp2
      refine quiet_tail 9 (by kernel_rfl) (by kernel_rfl) (fun _ _ _ _ _ h => h) ?_
      simp only [List.take_succ_cons, List.take_zero, List.drop_succ_cons, List.drop_zero]
      repeat (go_big_quiet_step (fail))
      refine wpQuiet_nil ?_
      rintro _ ⟨m, rfl⟩
      go_wp2
      go_roundw
      case rel => exact ⟨c + 1, by omega, by go_num, _, by rw [← H.out]; rfl⟩
      case measure => simp [intOf]; omega
    · obtain rfl : c = 16 := by omega
      rw [upto_all]
      clear q1
      have hx : eqB 16 (xorF X a1) (rndF a0 a1 a2) = true := (eqB_iff _ _ _).2 fun i _ => by rw [HX.out]; exact keyed_at a0 a1 a2 i
      have q0 := After.row (show row ((w2.alloc (.cells (ba 16 (xorF X a1)) 26)).drewN n) w.heap.size = some (ba 16 a0) by rw [row_drewN]; exact row_alloc r02.out _)
      have q1 := After.row (show row ((w2.alloc (.cells (ba 16 (xorF X a1)) 26)).drewN n) (w.heap.size + 1) = some (ba 16 a1) by rw [row_drewN]; exact row_alloc r12.out _)
      have q2 := After.row (show row ((w2.alloc (.cells (ba 16 (xorF X a1)) 26)).drewN n) w2.heap.size = some (ba 16 (xorF X a1)) by simp [go_sem])
      go_wp2_with fail
      refine seen_region (by kernel_rfl) (by kernel_rfl) ?_
      repeat (go_big_quiet_step ((refine After.call _ (round_any a0 a1 a2 _))))
      refine wpQuiet_nil ?_
      rintro _ ⟨x, rfl⟩
      have hfin := Lib.hid (onto (below_drewN (B2.out.alloc (by omega) (.cells (ba 16 (xorF X a1)) 26)) n) (by simp; omega) x.below)
      clear q0 q1 q2
      go_wp2
      go_ret
      exact ⟨rfl, hfin.out⟩

set_option maxRecDepth 100000 in
theorem lifted (os : Os) (started : os.Started) (H : Type) (enc : TypeId × Value → H) :
    ReturnsInHanded {} Try.checked os 9 .any (Rows.aesKeyedSpec.pre6 enc Try.prog Try.f9 Rows.aesKeyedRow.domain false) (Rows.aesKeyedSpec.post enc Try.prog Try.f9 false true false false) := by
  refine returnsInHanded_of_change (C := Try.checked) own started (by kernel_rfl) Try.func9
    (ChangeSpec.witness6 (enc := enc) (C := Try.checked) false ⟨#[], #[.agg (Array.replicate 16 (.int .u8 0)), .agg (Array.replicate 16 (.int .u8 0)), .bool false], []⟩ 8 (by kernel_rfl) (by kernel_rfl) (by kernel_rfl) (by kernel_rfl)) ?_
  intro W base args ds gs before hval0 hW hcnd _
  have hval : ∀ (j : Nat) t v, Try.f9.params[j]? = some t → args[j]? = some v → Value.okWide Try.prog W .any base t v := hval0
  have hW' := hW
  obtain ⟨p, q, hA0, hV, rfl, hfz, hnd⟩ := hW
  have hA : DataW.TrodAll enc Try.prog W 0 (fun _ => true) true Try.f9.params.toList args.toList ds p := hA0
  rw [Try.params9] at hA hval
  obtain ⟨v0, vs0, d0, ds0, p0, q0, hargs, rfl, rfl, h0, r0⟩ := trodAll_cons hA
  obtain ⟨v1, vs1, d1, ds1, p1, q1, rfl, rfl, rfl, h1, r1⟩ := trodAll_cons r0
  obtain ⟨v2, vs2, d2, ds2, p2, q2, rfl, rfl, rfl, h2, r2⟩ := trodAll_cons r1
  obtain ⟨rfl, rfl, rfl⟩ := trodAll_nil r2
  obtain rfl : args = #[v0, v1, v2] := by cases args; simp_all
  obtain ⟨rfl, rfl⟩ := trodVars_none hV
  have k0 := h0
  have lt0 : ∀ x ∈ p0, x.block < W.heap.size := by obtain ⟨m, hm⟩ := k0; exact DataW.trod_lt m _ _ _ hm
  obtain ⟨a0, rfl⟩ := open_bytes Try.underlying26 Try.underlying5 (by kernel_rfl) (by kernel_rfl) (hval 0 26 v0 rfl rfl) h0
  have k1 := h1
  have lt1 : ∀ x ∈ p1, x.block < W.heap.size := by obtain ⟨m, hm⟩ := k1; exact DataW.trod_lt m _ _ _ hm
  obtain ⟨a1, rfl⟩ := open_bytes Try.underlying26 Try.underlying5 (by kernel_rfl) (by kernel_rfl) (hval 1 26 v1 rfl rfl) h1
  obtain ⟨a2, rfl, rfl, rfl⟩ := open_bool Try.underlying4 (hval 2 4 v2 rfl rfl) h2
  clear hA0 hval0
  refine (walk a0 a1 a2 W ).mono fun e W' ⟨he, bel⟩ => ?_
  subst he
  exact ⟨_, rfl, _, _, _, [], _, [], hW', trodAll_mk1 (shut_bool Try.underlying4 _), (trodAll_cons_mk (Below.trod laidOut (by kernel_rfl) (of_decide_eq_true (by kernel_rfl)) k0 bel lt0) (trodAll_cons_mk (Below.trod laidOut (by kernel_rfl) (of_decide_eq_true (by kernel_rfl)) k1 bel lt1) (trodAll_cons_mk (shut_bool Try.underlying4 _) trodAll_mk0))), rfl, bel.frame _, fun h => by cases h⟩

theorem over : Rows.aesKeyedRow.holds Try.pinned (OpenSpec.ofChange Rows.aesKeyedSpec) :=
  OpenClaim.holds_of_wide 9 Try.f9 rfl rfl rfl rfl rfl rfl rfl ⟨rfl, rfl, rfl, rfl, rfl⟩ rfl rfl rfl rfl rfl (by kernel_rfl) Try.func9 (by kernel_rfl)
    (of_decide_eq_true (by kernel_rfl)) (by unfold Func.isWrapper; first | (rw [if_pos (by decide +kernel)]; kernel_rfl) | (rw [if_neg (by decide +kernel)]; exact ⟨rfl, rfl⟩))
    (fun os started H enc _ => lifted os started H enc)

theorem proved : Rows.AesKeyedSaid := over
#print axioms proved
end Go.Proofs.Ytfbgjapbffbdpaa.aesKeyed
