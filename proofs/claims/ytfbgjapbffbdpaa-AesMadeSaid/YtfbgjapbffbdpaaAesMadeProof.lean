/- The statement AesMade: the law strongroomlaw02.AesMade answers true for every input, and leaves its arguments as they were. No further condition. -/
import Derived.Test.YtfbgjapbffbdpaaRows
import Derived.Test.YtfbgjapbffbdpaaOpen
import Derived.Test.YtfbgjapbffbdpaaAesS
import Derived.Test.YtfbgjapbffbdpaaSeen
namespace Go.Proofs.Ytfbgjapbffbdpaa.aesMade
open Go.ChangeShapes Go.WideShapes Go.ChangeAt Go.RowKit
open Go.Proofs.Ytfbgjapbffbdpaa.Oct
set_option linter.unusedVariables false

theorem own : ownKnob Try.prog.godebug = none := by kernel_rfl
theorem laidOut : laidOutB Try.prog = true := by kernel_rfl

/-- what is known in the second loop: blocks p (the keys) and q (the state) -/
structure MdInv (w : World) (k b : Bf) (p : Nat) (s : Bf) (wr : World) : Prop where
  below : Below w.heap.size w wr
  hp : w.heap.size + 2 ≤ p
  r0 : row wr w.heap.size = some (ba 32 k)
  r1 : row wr (w.heap.size + 1) = some (ba 16 b)
  rp : row wr p = some (ba 240 (expF k))
  rq : row wr (p + 1) = some (ba 16 s)
theorem MdInv.size {w : World} {k b : Bf} {p : Nat} {s : Bf} {wr : World} (h : MdInv w k b p s wr) : w.heap.size + 4 ≤ wr.heap.size := by
  have := row_lt h.rq; have := h.hp; omega
theorem MdInv.call {w : World} {k b : Bf} {p : Nat} {s : Bf} {wr w' : World} (h : MdInv w k b p s wr) (hb : Below wr.heap.size wr w') : MdInv w k b p s w' :=
  ⟨onto h.below (by have := h.size; omega) hb, h.hp, carry hb h.r0, carry hb h.r1, carry hb h.rp, carry hb h.rq⟩
theorem MdInv.drewN {w : World} {k b : Bf} {p : Nat} {s : Bf} {wr : World} (h : MdInv w k b p s wr) (n : Nat) : MdInv w k b p s (wr.drewN n) :=
  ⟨below_drewN h.below n, h.hp, by rw [row_drewN]; exact h.r0, by rw [row_drewN]; exact h.r1, by rw [row_drewN]; exact h.rp, by rw [row_drewN]; exact h.rq⟩
theorem MdInv.put {w : World} {k b : Bf} {p : Nat} {s : Bf} {wr : World} (h : MdInv w k b p s wr) (s' : Bf) : MdInv w k b p s' (wr.setRow (p + 1) (ba 16 s')) := by
  have hp := h.hp
  exact ⟨below_setRow h.below (by omega) _, hp, by rw [row_setRow_other _ _ _ _ (by omega)]; exact h.r0, by rw [row_setRow_other _ _ _ _ (by omega)]; exact h.r1, by rw [row_setRow_other _ _ _ _ (by omega)]; exact h.rp, row_setRow h.rq _⟩
set_option maxHeartbeats 2000000 in
theorem walk (a0 : Nat → BitVec 8) (a1 : Nat → BitVec 8) (w : World)  :
    Calls Try.prog 7 #[.agg (ba 32 a0), .agg (ba 16 a1)] w fun e w' => e = .returned (.bool true) ∧ Below w.heap.size w w' := by
  have B0 := Lib.hid (((Below.refl w.heap.size w).alloc (by simp) (.cells (ba 32 a0) 23)).alloc (by simp) (.cells (ba 16 a1) 26))
  go_enter Try.func7, Try.ntmps7
  go_wp2_with fail
  refine (shown_any _).mono ?_
  rintro e w1 ⟨rfl, hb1⟩
  have rk := carry hb1 (b := w.heap.size) (c := ba 32 a0) (by simp [go_sem])
  have rb := carry hb1 (b := w.heap.size + 1) (c := ba 16 a1) (by simp [go_sem])
  have s1 : w.heap.size + 2 ≤ w1.heap.size := by have := hb1.size; simp at this; omega
  have B1 := Lib.hid (onto B0.out (by simp; omega) hb1)
  clear hb1 B0
  go_wp2_with fail
  refine (expand_any a0 _).mono ?_
  rintro e w2 ⟨rfl, hb2⟩
  have rk2 := carry hb2 rk
  have rb2 := carry hb2 rb
  have s2 : w.heap.size + 2 ≤ w2.heap.size := by have := hb2.size; omega
  have B2 := Lib.hid (onto B1.out (by omega) hb2)
  clear hb2 rk rb B1 s1
  have s21 : w.heap.size + 1 < w2.heap.size := by omega
  go_wp2_with fail
  have RK := Lib.hid rk2
  have RB := Lib.hid rb2
  clear rk2 rb2
  obtain ⟨F, hF⟩ : ∃ F, F = expF a0 := ⟨_, rfl⟩
  rw [← hF]
  have HF := Lib.hid hF
  clear hF
  go_loopw [8] (fun i wr => ∃ c : Nat, c ≤ 16 ∧ i = .int .i64 c ∧ ∃ n, wr = ((w2.alloc (.cells (ba 240 F) 27)).alloc (.cells (ba 16 (upto c (xorF a1 F) a1)) 26)).drewN n) (fun i _ => 16 - (intOf i).toNat)
  case atStart => exact ⟨0, by omega, rfl, 0, by rw [upto_zero]; rfl⟩
  case round =>
    obtain ⟨c, hc, rfl, n, rfl⟩ := hrel
    by_cases hlt : c < 16
    · have H := Lib.hid (upto_step c (xorF a1 F) a1)
      have b1 : c < 240 := by omega
      go_wp2
      refine quiet_tail 10 (by kernel_rfl) (by kernel_rfl) (fun _ _ _ _ _ h => h) ?_
      simp only [List.take_succ_cons, List.take_zero, List.drop_succ_cons, List.drop_zero]
      repeat (go_big_quiet_step (fail))
      refine wpQuiet_nil ?_
      rintro _ ⟨m, rfl⟩
      go_wp2
      go_roundw
      case rel => exact ⟨c + 1, by omega, by go_num, _, by rw [← H.out]; rfl⟩
      case measure => simp [intOf]; omega
    · obtain rfl : c = 16 := by omega
      rw [upto_all, show ((16 : Nat) : Int) = 16 from rfl]
      have hd16 : decide ((16 : Int) < 16) = false := by decide
      have I0 := Lib.hid (show MdInv w a0 a1 w2.heap.size (stF a0 a1 0) (((w2.alloc (.cells (ba 240 F) 27)).alloc (.cells (ba 16 (xorF a1 F)) 26)).drewN n) from
        ⟨below_drewN ((B2.out.alloc (by omega) _).alloc (by simp; omega) _) _, by omega, by rw [row_drewN]; exact row_alloc (row_alloc RK.out _) _, by rw [row_drewN]; exact row_alloc (row_alloc RB.out _) _, by rw [HF.out]; simp [go_sem], by rw [HF.out]; simp [go_sem]; rfl⟩)
      go_wp2
      clear hd16
      go_loopw [9] (fun i wr => ∃ m : Nat, m ≤ 14 ∧ i = .int .i64 (m + 1) ∧ MdInv w a0 a1 w2.heap.size (stF a0 a1 m) wr) (fun i _ => 15 - (intOf i).toNat)
      case atStart => exact ⟨0, by omega, rfl, I0.out⟩
      case round =>
        clear I0
        obtain ⟨m, hm, rfl, hI⟩ := hrel
        have rp := hI.rp
        have rq := hI.rq
        have HI := Lib.hid hI
        by_cases hlt : m < 14
        · have b1 : (m + 1) * 16 + 16 ≤ 240 := by omega
          have ht : (((m : Int) + 1) == 14) = (m == 13) := by
            rw [Bool.eq_iff_iff]; simp; omega
          clear hI
          go_wp2_with fail
          refine quiet_tail 6 (by kernel_rfl) (by kernel_rfl) (fun _ _ _ _ _ h => h) ?_
          simp only [List.take_succ_cons, List.take_zero, List.drop_succ_cons, List.drop_zero]
          repeat (go_big_quiet_step (fail))
          refine wpQuiet_nil ?_
          rintro _ ⟨nq, rfl⟩
          go_wp2_with fail
          refine (round_any (stF a0 a1 m) (offF (expF a0) ((m + 1) * 16)) (m == 13) _).mono ?_
          rintro e w5 ⟨rfl, hb5⟩
          have I5 := (HI.out.drewN nq).call hb5
          have rq5 := I5.rq
          have H6 := Lib.hid (I5.put (rndF (stF a0 a1 m) (offF (expF a0) ((m + 1) * 16)) (m == 13)))
          clear hb5 I5 rq rp HI
          go_wp2
          go_roundw
          case rel => exact ⟨m + 1, by omega, by go_num, H6.out⟩
          case measure => simp [intOf]; omega
        · obtain rfl : m = 14 := by omega
          rw [show (((14 : Nat) : Int) + 1) = 15 from rfl]
          have hd15 : decide ((15 : Int) < 15) = false := by decide
          have hx : eqB 16 (stF a0 a1 14) (encF a0 a1) = true := eqB_refl _ _
          have HX := Lib.hid hx
          obtain ⟨S, hS⟩ : ∃ S, S = stF a0 a1 14 := ⟨_, rfl⟩
          rw [← hS] at rq hx
          clear hS
          have q0 := After.row hI.r0
          have q1 := After.row hI.r1
          have qq := After.row rq
          clear hI rp rq
          go_wp2_with fail
          refine seen_region (by kernel_rfl) (by kernel_rfl) ?_
          repeat (go_big_quiet_step ((refine After.call _ (encrypt_any a0 a1 _))))
          refine wpQuiet_nil ?_
          rintro _ ⟨x, rfl⟩
          have hfin := Lib.hid (onto HI.out.below (by have := HI.out.size; omega) x.below)
          clear q0 q1 qq
          go_wp2
          go_ret
          exact ⟨rfl, hfin.out⟩

set_option maxRecDepth 100000 in
theorem lifted (os : Os) (started : os.Started) (H : Type) (enc : TypeId × Value → H) :
    ReturnsInHanded {} Try.checked os 7 .any (Rows.aesMadeSpec.pre6 enc Try.prog Try.f7 Rows.aesMadeRow.domain false) (Rows.aesMadeSpec.post enc Try.prog Try.f7 false true false false) := by
  refine returnsInHanded_of_change (C := Try.checked) own started (by kernel_rfl) Try.func7
    (ChangeSpec.witness6 (enc := enc) (C := Try.checked) false ⟨#[], #[.agg (Array.replicate 32 (.int .u8 0)), .agg (Array.replicate 16 (.int .u8 0))], []⟩ 8 (by kernel_rfl) (by kernel_rfl) (by kernel_rfl) (by kernel_rfl)) ?_
  intro W base args ds gs before hval0 hW hcnd _
  have hval : ∀ (j : Nat) t v, Try.f7.params[j]? = some t → args[j]? = some v → Value.okWide Try.prog W .any base t v := hval0
  have hW' := hW
  obtain ⟨p, q, hA0, hV, rfl, hfz, hnd⟩ := hW
  have hA : DataW.TrodAll enc Try.prog W 0 (fun _ => true) true Try.f7.params.toList args.toList ds p := hA0
  rw [Try.params7] at hA hval
  obtain ⟨v0, vs0, d0, ds0, p0, q0, hargs, rfl, rfl, h0, r0⟩ := trodAll_cons hA
  obtain ⟨v1, vs1, d1, ds1, p1, q1, rfl, rfl, rfl, h1, r1⟩ := trodAll_cons r0
  obtain ⟨rfl, rfl, rfl⟩ := trodAll_nil r1
  obtain rfl : args = #[v0, v1] := by cases args; simp_all
  obtain ⟨rfl, rfl⟩ := trodVars_none hV
  have k0 := h0
  have lt0 : ∀ x ∈ p0, x.block < W.heap.size := by obtain ⟨m, hm⟩ := k0; exact DataW.trod_lt m _ _ _ hm
  obtain ⟨a0, rfl⟩ := open_bytes Try.underlying23 Try.underlying5 (by kernel_rfl) (by kernel_rfl) (hval 0 23 v0 rfl rfl) h0
  have k1 := h1
  have lt1 : ∀ x ∈ p1, x.block < W.heap.size := by obtain ⟨m, hm⟩ := k1; exact DataW.trod_lt m _ _ _ hm
  obtain ⟨a1, rfl⟩ := open_bytes Try.underlying26 Try.underlying5 (by kernel_rfl) (by kernel_rfl) (hval 1 26 v1 rfl rfl) h1
  clear hA0 hval0
  refine (walk a0 a1 W ).mono fun e W' ⟨he, bel⟩ => ?_
  subst he
  exact ⟨_, rfl, _, _, _, [], _, [], hW', trodAll_mk1 (shut_bool Try.underlying4 _), (trodAll_cons_mk (Below.trod laidOut (by kernel_rfl) (of_decide_eq_true (by kernel_rfl)) k0 bel lt0) (trodAll_cons_mk (Below.trod laidOut (by kernel_rfl) (of_decide_eq_true (by kernel_rfl)) k1 bel lt1) trodAll_mk0)), rfl, bel.frame _, fun h => by cases h⟩

theorem over : Rows.aesMadeRow.holds Try.pinned (OpenSpec.ofChange Rows.aesMadeSpec) :=
  OpenClaim.holds_of_wide 7 Try.f7 rfl rfl rfl rfl rfl rfl rfl ⟨rfl, rfl, rfl, rfl, rfl⟩ rfl rfl rfl rfl rfl (by kernel_rfl) Try.func7 (by kernel_rfl)
    (of_decide_eq_true (by kernel_rfl)) (by unfold Func.isWrapper; first | (rw [if_pos (by decide +kernel)]; kernel_rfl) | (rw [if_neg (by decide +kernel)]; exact ⟨rfl, rfl⟩))
    (fun os started H enc _ => lifted os started H enc)

theorem proved : Rows.AesMadeSaid := over
#print axioms proved
end Go.Proofs.Ytfbgjapbffbdpaa.aesMade
