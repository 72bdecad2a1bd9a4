/- The statement BlockHashes: the law strongroomlaw03.BlockHashes answers true for every input, and leaves its arguments as they were. No further condition. -/
import Derived.Test.YtaphjehcaabolaaRows
import Derived.Test.YtaphjehcaabolaaOpen
import Derived.Test.YtaphjehcaabolaaBlkS
import Derived.Test.YtaphjehcaabolaaSlOpen
namespace Go.Proofs.Ytaphjehcaabolaa.blockHashes
open Go.ChangeShapes Go.WideShapes Go.ChangeAt Go.RowKit
open Go.Proofs.Ytaphjehcaabolaa.Oct
set_option linter.unusedVariables false

theorem own : ownKnob Try.prog.godebug = none := by kernel_rfl
theorem laidOut : laidOutB Try.prog = true := by kernel_rfl

theorem str_u : Try.prog.underlying 9 = some .string := by kernel_rfl
set_option maxRecDepth 20000 in
set_option maxHeartbeats 4000000 in
theorem walk (a0 : Nat → BitVec 8) (a1 : Nat → BitVec 8) (n1 c1 : Nat) (A1 : Option Addr) (w : World) (hs1 : Sl w w.heap.size A1 n1 c1 a1) (hm1 : c1 ≤ maxLen) :
    Calls Try.prog 5 #[.agg (ba 16 a0), .slice A1 n1 c1] w fun e w' => e = .returned (.bool true) ∧ Below w.heap.size w w' := by
  have B0 := Lib.hid ((Below.refl w.heap.size w).alloc (by simp) (.cells (ba 16 a0) 23))
  have HS0 := Lib.hid hs1
  unfold maxLen at hm1
  have hn1 : n1 ≤ c1 := hs1.le
  clear hs1
  go_enter Try.func5, Try.ntmps5
  go_wp2_with fail
  refine (shown_any _).mono ?_
  rintro e w1 ⟨rfl, hb1⟩
  have r0 := carry hb1 (b := w.heap.size) (c := ba 16 a0) (by simp [go_sem])
  have s1 : w.heap.size + 1 ≤ w1.heap.size := by have := hb1.size; simpa using this
  have B1 := Lib.hid (onto B0.out (by simp) hb1)
  clear hb1 B0
  have hcut : ∃ N, N ≤ 2000 ∧ N ≤ n1 ∧ ((2000 < n1 ∧ N = 2000) ∨ (n1 ≤ 2000 ∧ N = n1)) := ⟨min n1 2000, by omega, by omega, by omega⟩
  obtain ⟨N, hN, hNn, hcase⟩ := hcut
  have HS1 := Lib.hid ((HS0.out.below B1.out).upto N hNn)
  have HOE := Lib.hid (Own.empty w1 w1.heap.size 5 nF (Nat.le_refl _))
  have HSA := Lib.hid (HS1.out.below ((Below.refl w.heap.size w1).alloc (by omega) (.cells #[] 5)))
  rcases hcase with ⟨hlt, hN2⟩ | ⟨hlt, rfl⟩
  case' inl =>
    have hd : decide ((2000 : Int) < (n1 : Int)) = true := by simp; omega
    have hup := run_upto sli_u u8_i A1 n1 c1 N (by omega)
    rw [show ((N : Nat) : Int) = 2000 by omega] at hup
    clear hN2
  case' inr =>
    have hd : decide ((2000 : Int) < (N : Int)) = false := by simp; omega
  all_goals
    go_wp2_with (at_builtin; refine wpl_appB rfl (.tmp 13) (.tmp 14) rfl sli_u u8_info HOE.out HSA.out (by omega) (by simp) rfl rfl ?_; intro v' w2 ho hg ht)
    rw [catF_zero, Nat.zero_add] at ho
    have B2 := HOE.out.after hg ((Below.refl w1.heap.size w1).alloc (Nat.le_refl _) _) (by simp) (Nat.le_refl _)
    have r2 := carry B2 r0
    have q0 := After.row r2
    have HSI := Lib.hid (((HS1.out.below (B2.mono (by omega))).more (by have := B2.size; omega : w.heap.size ≤ w2.heap.size)))
    have BF := Lib.hid (onto B1.out (by omega) B2)
    have s2 : w.heap.size ≤ w2.heap.size := by have := B2.size; omega
    obtain ⟨A', c', hv, hsl, -, -⟩ := ho.sl
    subst hv
    have HSL := Lib.hid hsl
    have k1 : ∀ x : After w2, (convert 28 9 (.slice A' N c')).run Try.prog x.val = .ok (.string (strOf N a1)) x.val := fun x => run_str sli_u u8_u str_u (After.sl HSL.out x)
    have k2 : ∀ x : After w2, (convert 28 9 (.slice A1 N c1)).run Try.prog x.val = .ok (.string (strOf N a1)) x.val := fun x => run_str sli_u u8_u str_u (After.sl HSI.out x)
    have hx : eqB 16 (hshF a0 a1 N) (hshF a0 a1 N) = true := eqB_refl _ _
    clear ho hg ht B2 r2 r0 hsl hd
    refine seen_region (by kernel_rfl) (by kernel_rfl) ?_
    repeat (first | rw [hx] | go_big_quiet_step ((first | (go_at_call 15; refine After.call _ (bhash_any a0 a1 N c' A' _ (After.sl HSL.out _))) | (go_at_call 16; refine After.call _ (rbhash_any a0 a1 N c1 A1 _ (After.sl HSI.out _) (by omega))))))
    refine wpQuiet_nil ?_
    rintro _ ⟨x, rfl⟩
    have hfin := Lib.hid (onto BF.out s2 x.below)
    clear q0 k1 k2
    go_wp2
    go_ret
    exact ⟨rfl, hfin.out⟩

set_option maxRecDepth 100000 in
theorem lifted (os : Os) (started : os.Started) (H : Type) (enc : TypeId × Value → H) :
    ReturnsInHanded {} Try.checked os 5 .any (Rows.blockHashesSpec.pre6 enc Try.prog Try.f5 Rows.blockHashesRow.domain false) (Rows.blockHashesSpec.post enc Try.prog Try.f5 false true false false) := by
  refine returnsInHanded_of_change (C := Try.checked) own started (by kernel_rfl) Try.func5
    (ChangeSpec.witness6 (enc := enc) (C := Try.checked) false ⟨#[], #[.agg (Array.replicate 16 (.int .u8 0)), .slice none 0 0], []⟩ 8 (by kernel_rfl) (by kernel_rfl) (by kernel_rfl) (by kernel_rfl)) ?_
  intro W base args ds gs before hval0 hW hcnd _
  have hval : ∀ (j : Nat) t v, Try.f5.params[j]? = some t → args[j]? = some v → Value.okWide Try.prog W .any base t v := hval0
  have hW' := hW
  obtain ⟨p, q, hA0, hV, rfl, hfz, hnd⟩ := hW
  have hA : DataW.TrodAll enc Try.prog W 0 (fun _ => true) true Try.f5.params.toList args.toList ds p := hA0
  rw [Try.params5] at hA hval
  obtain ⟨v0, vs0, d0, ds0, p0, q0, hargs, rfl, rfl, h0, r0⟩ := trodAll_cons hA
  obtain ⟨v1, vs1, d1, ds1, p1, q1, rfl, rfl, rfl, h1, r1⟩ := trodAll_cons r0
  obtain ⟨rfl, rfl, rfl⟩ := trodAll_nil r1
  obtain rfl : args = #[v0, v1] := by cases args; simp_all
  obtain ⟨rfl, rfl⟩ := trodVars_none hV
  have k0 := h0
  have lt0 : ∀ x ∈ p0, x.block < W.heap.size := by obtain ⟨m, hm⟩ := k0; exact DataW.trod_lt m _ _ _ hm
  obtain ⟨a0, rfl⟩ := open_bytes Try.underlying23 Try.underlying5 (by kernel_rfl) (by kernel_rfl) (hval 0 23 v0 rfl rfl) h0
  have k1 := h1
  have lt1 : ∀ x ∈ p1, x.block < W.heap.size := by obtain ⟨m, hm⟩ := k1; exact DataW.trod_lt m _ _ _ hm
  obtain ⟨A1, n1, c1, a1, rfl, hs1, hm1⟩ := open_sl Try.underlying28 Try.underlying5 (by kernel_rfl) (hval 1 28 v1 rfl rfl) h1
  clear hA0 hval0
  refine (walk a0 a1 n1 c1 A1 W hs1 hm1).mono fun e W' ⟨he, bel⟩ => ?_
  subst he
  exact ⟨_, rfl, _, _, _, [], _, [], hW', trodAll_mk1 (shut_bool Try.underlying4 _), (trodAll_cons_mk (Below.trod laidOut (by kernel_rfl) (of_decide_eq_true (by kernel_rfl)) k0 bel lt0) (trodAll_cons_mk (Below.trod laidOut (by kernel_rfl) (of_decide_eq_true (by kernel_rfl)) k1 bel lt1) trodAll_mk0)), rfl, bel.frame _, fun h => by cases h⟩

theorem over : Rows.blockHashesRow.holds Try.pinned (OpenSpec.ofChange Rows.blockHashesSpec) :=
  OpenClaim.holds_of_wide 5 Try.f5 rfl rfl rfl rfl rfl rfl rfl ⟨rfl, rfl, rfl, rfl, rfl⟩ rfl rfl rfl rfl rfl (by kernel_rfl) Try.func5 (by kernel_rfl)
    (of_decide_eq_true (by kernel_rfl)) (by unfold Func.isWrapper; first | (rw [if_pos (by decide +kernel)]; kernel_rfl) | (rw [if_neg (by decide +kernel)]; exact ⟨rfl, rfl⟩))
    (fun os started H enc _ => lifted os started H enc)

theorem proved : Rows.BlockHashesSaid := over
#print axioms proved
end Go.Proofs.Ytaphjehcaabolaa.blockHashes
