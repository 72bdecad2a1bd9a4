/- The statement BlockLinear: the law strongroomlaw03.BlockLinear answers true for every input, and leaves its arguments as they were. No further condition. -/
import Derived.Test.YtaphjehcaabolaaRows
import Derived.Test.YtaphjehcaabolaaOpen
import Derived.Test.YtaphjehcaabolaaBlkS
import Derived.Test.YtaphjehcaabolaaSlOpen
import Derived.Laws.Cover1
namespace Go.Proofs.Ytaphjehcaabolaa.blockLinear
open Go.ChangeShapes Go.WideShapes Go.ChangeAt Go.RowKit
open Go.Proofs.Ytaphjehcaabolaa.Oct
set_option linter.unusedVariables false

theorem own : ownKnob Try.prog.godebug = none := by kernel_rfl
theorem laidOut : laidOutB Try.prog = true := by kernel_rfl

set_option maxRecDepth 20000 in
set_option maxHeartbeats 4000000 in
theorem walk (a0 : Nat → BitVec 8) (a1 : Nat → BitVec 8) (n1 c1 : Nat) (A1 : Option Addr) (a2 : Nat → BitVec 8) (n2 c2 : Nat) (A2 : Option Addr) (w : World) (hs1 : Sl w w.heap.size A1 n1 c1 a1) (hm1 : c1 ≤ maxLen) (hs2 : Sl w w.heap.size A2 n2 c2 a2) (hm2 : c2 ≤ maxLen) :
    Calls Try.prog 9 #[.agg (ba 16 a0), .slice A1 n1 c1, .slice A2 n2 c2] w fun e w' => e = .returned (.bool true) ∧ Below w.heap.size w w' := by
  have B0 := Lib.hid ((Below.refl w.heap.size w).alloc (by simp) (.cells (ba 16 a0) 23))
  have HS1 := Lib.hid hs1
  have HS2 := Lib.hid hs2
  unfold maxLen at hm1 hm2
  have hn1 : n1 ≤ c1 := hs1.le
  have hn2 : n2 ≤ c2 := hs2.le
  clear hs1 hs2
  go_enter Try.func9, Try.ntmps9
  go_wp2_with fail
  refine (shown_any _).mono ?_
  rintro e w1 ⟨rfl, hb1⟩
  have r0 := carry hb1 (b := w.heap.size) (c := ba 16 a0) (by simp [go_sem])
  have s1 : w.heap.size + 1 ≤ w1.heap.size := by have := hb1.size; simpa using this
  have B1 := Lib.hid (onto B0.out (by simp) hb1)
  clear hb1 B0
  obtain ⟨N, hN⟩ : ∃ N, N = min (min n1 n2) 2000 := ⟨_, rfl⟩
  have HN := Lib.hid hN
  clear hN
  have HOE := Lib.hid (Own.empty w1 w1.heap.size 5 (xorF a1 a2) (Nat.le_refl _))
  have hmin : ∀ w : World, (Builtin.min_ #[3, 3, 3] 3 #[.int .i64 (n1 : Int), .int .i64 (n2 : Int), .int .i64 2000]).run Try.prog w = .ok (.int .i64 (N : Int)) w := fun w => by
    rw [run_min_int3]
    congr 2
    have := HN.out
    (repeat split) <;> omega
  go_wp2_with fail
  clear hmin
  go_loopw [9, 10] (fun v i wr => ∃ k : Nat, k ≤ N ∧ i = .int .i64 k ∧ Own wr w1.heap.size 5 v k (xorF a1 a2) ∧ Below w1.heap.size w1 wr) (fun _ i _ => N - (intOf i).toNat)
  case atStart => exact ⟨0, by omega, rfl, HOE.out, (Below.refl _ _).alloc (Nat.le_refl _) _⟩
  case round =>
    clear HOE
    obtain ⟨k, hk, rfl, ho, hb⟩ := hrel
    have HO := Lib.hid ho
    have HB := Lib.hid hb
    clear ho hb
    by_cases hlt : k < N
    · have hd : decide ((k : Int) < (N : Int)) = true := by simp; omega
      obtain ⟨g1, o1, hA1, hg1, hcell1⟩ := HS1.out.at_ (by have := HN.out; omega)
      obtain ⟨g2, o2, hA2, hg2, hcell2⟩ := HS2.out.at_ (by have := HN.out; omega)
      have k1 : k < n1 := by have := HN.out; omega
      have k2 : k < n2 := by have := HN.out; omega
      have BB := onto B1.out (by omega) HB.out
      have e1 := hcell1 k k1
      have e2 := hcell2 k k2
      rw [← BB.cell (p := ⟨g1, o1 + k, none⟩) hg1] at e1
      rw [← BB.cell (p := ⟨g2, o2 + k, none⟩) hg2] at e2
      subst hA1
      subst hA2
      clear hcell1 hcell2 BB
      go_wp2_with fail
      refine quiet_tail' 1 10 (by kernel_rfl) (by kernel_rfl) (fun _ _ _ _ _ h => h) ?_
      simp only [List.take_succ_cons, List.take_zero, List.drop_succ_cons, List.drop_zero]
      repeat (go_big_quiet_step (fail))
      refine wpQuiet_nil ?_
      rintro _ ⟨m, rfl⟩
      clear e1 e2
      have HO2 := Lib.hid ((HO.out.alloc (.cells #[.int .u8 (I (a1 k ^^^ a2 k))] 5)).drewN m)
      have HSR := Lib.hid ((Sl.one wr 5 (a1 k ^^^ a2 k) (wr.heap.size + 1) (by omega)).drewN m)
      have hbase : w1.heap.size ≤ ((wr.alloc (.cells #[.int .u8 (I (a1 k ^^^ a2 k))] 5)).drewN m).heap.size := by have := HB.out.size; show _ ≤ (wr.alloc _).heap.size; simp; omega
      have HBB := Lib.hid hbase
      have hk47 : k + 1 ≤ 140737488355328 := by have := HN.out; omega
      clear hbase
      go_wp2_with (at_builtin; refine wpl_appB rfl (.tmp 23) (.tmp 33) rfl sli_u u8_info HO2.out HSR.out hk47 HBB.out rfl rfl ?_; intro v' w2 ho hg ht)
      have HF := Lib.hid (ho.congr (f' := xorF a1 a2) fun i hi => by
        unfold catF
        by_cases h : i < k
        · rw [if_pos h]
        · rw [if_neg h, show i = k by omega]; rfl)
      have HBF := Lib.hid (HO2.out.after hg (below_drewN (HB.out.alloc (by have := HB.out.size; omega) _) m) HBB.out (Nat.le_refl _))
      clear ho hg ht
      go_roundw
      case rel => exact ⟨k + 1, by omega, by go_num, HF.out, HBF.out⟩
      case measure => simp [intOf]; omega
    · obtain rfl : k = N := by omega
      have HKN := Lib.hid (show k ≤ n1 ∧ k ≤ n2 ∧ k ≤ 2000 by have := HN.out; omega)
      have hd : decide ((k : Int) < (k : Int)) = false := by simp
      have BB := onto B1.out (by omega) HB.out
      have r2 := carry HB.out r0
      have q0 := After.row r2
      have sz := HB.out.size
      have hle : w.heap.size ≤ wr.heap.size := by omega
      have HSI1 := Lib.hid (((HS1.out.upto k HKN.out.1).below BB).more hle)
      have HSI2 := Lib.hid (((HS2.out.upto k HKN.out.2.1).below BB).more hle)
      have BF := Lib.hid BB
      obtain ⟨A', c', hv, hsl, -, -⟩ := HO.out.sl
      subst hv
      have HSL := Lib.hid hsl
      have u1 := run_upto (P := Try.prog) sli_u u8_i A1 n1 c1 k (by have := HKN.out; omega)
      have u2 := run_upto (P := Try.prog) sli_u u8_i A2 n2 c2 k (by have := HKN.out; omega)
      have hx : eqB 16 (hshF a0 (xorF a1 a2) k) (xorF (hshF a0 a1 k) (hshF a0 a2 k)) = true := by rw [hshF_xor]; exact eqB_refl _ _
      clear BB r2 r0 hsl
      go_wp2_with fail
      clear hd
      refine seen_region (by kernel_rfl) (by kernel_rfl) ?_
      repeat (first | rw [hx] | go_big_quiet_step ((first | (go_at_call 15; first | ((with_reducible refine After.call _ (bhash_any a0 (xorF a1 a2) k c' A' _ ?_)); exact After.sl HSL.out _) | ((with_reducible refine After.call _ (bhash_any a0 a1 k c1 A1 _ ?_)); exact After.sl HSI1.out _) | ((with_reducible refine After.call _ (bhash_any a0 a2 k c2 A2 _ ?_)); exact After.sl HSI2.out _)) | (go_at_call 13; refine After.call _ (bxor_any _ _ _)))))
      refine wpQuiet_nil ?_
      rintro _ ⟨x, rfl⟩
      have hfin := Lib.hid (onto BF.out hle x.below)
      clear q0 u1 u2
      go_wp2
      go_ret
      exact ⟨rfl, hfin.out⟩

set_option maxRecDepth 100000 in
theorem lifted (os : Os) (started : os.Started) (H : Type) (enc : TypeId × Value → H) :
    ReturnsInHanded {} Try.checked os 9 .any (Rows.blockLinearSpec.pre6 enc Try.prog Try.f9 Rows.blockLinearRow.domain false) (Rows.blockLinearSpec.post enc Try.prog Try.f9 false true false false) := by
  refine returnsInHanded_of_change (C := Try.checked) own started (by kernel_rfl) Try.func9
    (ChangeSpec.witness6 (enc := enc) (C := Try.checked) false ⟨#[], #[.agg (Array.replicate 16 (.int .u8 0)), .slice none 0 0, .slice none 0 0], []⟩ 8 (by kernel_rfl) (by kernel_rfl) (by kernel_rfl) (by kernel_rfl)) ?_
  intro W base args ds gs before hval0 hW hcnd _
  have hval : ∀ (j : Nat) t v, Try.f9.params[j]? = some t → args[j]? = some v → Value.okWide Try.prog W .any base t v := hval0
  have hW' := hW
  obtain ⟨p, q, hA0, hV, rfl, hfz, hnd⟩ := hW
  have hA : DataW.TrodAll enc Try.prog W 0 (fun _ => true) true Try.f9.params.toList args.toList ds p := hA0
  rw [Try.params9] at hA hval
  obtain ⟨v0, vs0, d0, ds0, p0, q0, hargs, rfl, rfl, h0, r0⟩ := trodAll_cons hA
  obtain ⟨v1, vs1, d1, ds1, p1, q1, rfl, rfl, rfl, h1, r1⟩ := trodAll_cons r0
  obtain ⟨v2, vs2, d2, ds2, p2, q2, rfl, rfl, rfl, h2, r2⟩ := trodAll_cons r1
  obtain ⟨rfl, rfl, rfl⟩ := trodAll_nil r2
  obtain rfl : args = #[v0, v1, v2] := by cases args; simp_all
  obtain ⟨rfl, rfl⟩ := trodVars_none hV
  have k0 := h0
  have lt0 : ∀ x ∈ p0, x.block < W.heap.size := by obtain ⟨m, hm⟩ := k0; exact DataW.trod_lt m _ _ _ hm
  obtain ⟨a0, rfl⟩ := open_bytes Try.underlying23 Try.underlying5 (by kernel_rfl) (by kernel_rfl) (hval 0 23 v0 rfl rfl) h0
  have k1 := h1
  have lt1 : ∀ x ∈ p1, x.block < W.heap.size := by obtain ⟨m, hm⟩ := k1; exact DataW.trod_lt m _ _ _ hm
  obtain ⟨A1, n1, c1, a1, rfl, hs1, hm1⟩ := open_sl Try.underlying28 Try.underlying5 (by kernel_rfl) (hval 1 28 v1 rfl rfl) h1
  have k2 := h2
  have lt2 : ∀ x ∈ p2, x.block < W.heap.size := by obtain ⟨m, hm⟩ := k2; exact DataW.trod_lt m _ _ _ hm
  obtain ⟨A2, n2, c2, a2, rfl, hs2, hm2⟩ := open_sl Try.underlying28 Try.underlying5 (by kernel_rfl) (hval 2 28 v2 rfl rfl) h2
  clear hA0 hval0
  refine (walk a0 a1 n1 c1 A1 a2 n2 c2 A2 W hs1 hm1 hs2 hm2).mono fun e W' ⟨he, bel⟩ => ?_
  subst he
  exact ⟨_, rfl, _, _, _, [], _, [], hW', trodAll_mk1 (shut_bool Try.underlying4 _), (trodAll_cons_mk (Below.trod laidOut (by kernel_rfl) (of_decide_eq_true (by kernel_rfl)) k0 bel lt0) (trodAll_cons_mk (Below.trod laidOut (by kernel_rfl) (of_decide_eq_true (by kernel_rfl)) k1 bel lt1) (trodAll_cons_mk (Below.trod laidOut (by kernel_rfl) (of_decide_eq_true (by kernel_rfl)) k2 bel lt2) trodAll_mk0))), rfl, bel.frame _, fun h => by cases h⟩

theorem over : Rows.blockLinearRow.holds Try.pinned (OpenSpec.ofChange Rows.blockLinearSpec) :=
  OpenClaim.holds_of_wide 9 Try.f9 rfl rfl rfl rfl rfl rfl rfl ⟨rfl, rfl, rfl, rfl, rfl⟩ rfl rfl rfl rfl rfl (by kernel_rfl) Try.func9 (by kernel_rfl)
    (of_decide_eq_true (by kernel_rfl)) (by unfold Func.isWrapper; first | (rw [if_pos (by decide +kernel)]; kernel_rfl) | (rw [if_neg (by decide +kernel)]; exact ⟨rfl, rfl⟩))
    (fun os started H enc _ => lifted os started H enc)

theorem proved : Rows.BlockLinearSaid := over
#print axioms proved
end Go.Proofs.Ytaphjehcaabolaa.blockLinear
