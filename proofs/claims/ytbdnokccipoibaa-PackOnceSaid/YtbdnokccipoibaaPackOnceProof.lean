/- The statement PackOnce: the law strongroomlaw08.PackOnce answers true for every input, and leaves its arguments as they were. No further condition. -/
import Derived.Test.YtbdnokccipoibaaRows
import Derived.Test.YtbdnokccipoibaaLib
import Derived.Test.YtbdnokccipoibaaPkN
namespace Go.Proofs.Ytbdnokccipoibaa.packOnce
open Go.ChangeShapes Go.WideShapes Go.ChangeAt Go.RowKit
open Go.Proofs.Ytbdnokccipoibaa.Oct
set_option linter.unusedVariables false

theorem own : ownKnob Try.prog.godebug = none := by kernel_rfl
theorem laidOut : laidOutB Try.prog = true := by kernel_rfl

set_option maxRecDepth 20000 in
set_option maxHeartbeats 8000000 in
theorem walk (a0 : Nat → BitVec 8) (n0 c0 : Nat) (A0 : Option Addr) (w : World) (hs0 : Sl w w.heap.size A0 n0 c0 a0) (hm0 : c0 ≤ maxLen) :
    Calls Try.prog 7 #[.slice A0 n0 c0] w fun e w' => e = .returned (.bool true) ∧ Below w.heap.size w w' := by
  have HS0 := Lib.hid hs0
  have hn0 := hs0.le
  clear hs0 hm0
  go_enter Try.func7, Try.ntmps7
  go_wp2_with fail
  refine (shown_any w).mono ?_
  rintro e w1 ⟨rfl, hb1⟩
  have B1 := Lib.hid hb1
  have hw1 := hb1.size
  have S0 := Lib.hid ((HS0.out.below hb1).more hw1)
  clear hb1 HS0
  by_cases hbig : 2000 < n0
  case' pos =>
    have hd : decide (2000 < (n0 : Int)) = true := by simp; omega
    have hup := run_upto sli_u u8_i A0 n0 c0 2000 (by omega)
    rw [show ((2000 : Nat) : Int) = 2000 from rfl] at hup
    have T0 := Lib.hid (S0.out.upto 2000 (by omega))
    have hN : 2000 ≤ 2000 := by omega
    go_wp2_with fail
    clear hup
    obtain ⟨N, hNe⟩ : ∃ N : Nat, N = 2000 := ⟨_, rfl⟩
    rw [← hNe] at T0 ⊢
    have hN2 : N ≤ 2000 := by omega
    clear hN hNe
  case' neg =>
    have hd : decide (2000 < (n0 : Int)) = false := by simp; omega
    have T0 := Lib.hid S0.out
    go_wp2_with fail
    obtain ⟨N, rfl⟩ : ∃ N : Nat, N = n0 := ⟨_, rfl⟩
    have hN2 : N ≤ 2000 := by omega
  all_goals
    clear hd hbig S0
    obtain ⟨SX, hSX⟩ : ∃ SX, SX = strOf N a0 := ⟨_, rfl⟩
    have HSX := Lib.hid hSX
    have H2 := Lib.hid (take_num N c0 A0 a0 w1 T0.out (by omega))
    clear hSX
    refine H2.out.mono ?_
    intro e w2 h2
    by_cases hz : tkE N a0 = 0
    case' neg =>
      obtain ⟨rfl, hb2⟩ := h2.bad rfl hz
      have B2 := Lib.hid (onto B1.out hw1 hb2)
      have hw2 : w.heap.size ≤ w2.heap.size := by have := hb2.size; omega
      have T2 := Lib.hid ((T0.out.below hb2).more hb2.size)
      obtain ⟨E, hE⟩ : ∃ E, E = tkE N a0 := ⟨_, rfl⟩
      have hne : ((E : Int) == 0) = false := by rw [← hE] at hz; simp; omega
      rw [← hE]
      clear H2 h2 hb2 hE hz B1 T0
      go_wp2_with fail
      obtain ⟨x2, rfl⟩ : ∃ x2 : World, x2 = w2 := ⟨_, rfl⟩
      have C2 := Lib.hid B2.out
      have hx2 := hw2
      have U2 := Lib.hid T2.out
    case' pos =>
      obtain ⟨v2, rfl, ho2, hb2⟩ := h2.ok hz
      have O2 := Lib.hid ho2
      have B2 := Lib.hid (onto B1.out hw1 hb2)
      have hw2 : w.heap.size ≤ w2.heap.size := by have := hb2.size; omega
      have T2 := Lib.hid ((T0.out.below hb2).more hb2.size)
      have HJ := Lib.hid (once_num hz)
      have hL := encL_le (tkV a0)
      have hv := (tk_ok hz).2.2.2.2
      obtain ⟨SA, hSA⟩ : ∃ SA, SA = strOf (encL (tkV a0)) (encF (tkV a0)) := ⟨_, rfl⟩
      obtain ⟨SB, hSB⟩ : ∃ SB, SB = strOf (N - tkL a0) (offF a0 (tkL a0)) := ⟨_, rfl⟩
      have hsz : ¬ 9223372036854775807 < SA.size + SB.size := by rw [hSA, hSB, str_size, str_size]; omega
      rw [← hSA, ← hSB, ← HSX.out] at HJ
      have HSA := Lib.hid hSA
      have HSB := Lib.hid hSB
      have H3 := Lib.hid (put_nil (tkV a0) w2 hv)
      clear H2 h2 hb2 hz ho2 B1 T0 hSA hSB hL
      obtain ⟨V, hV⟩ : ∃ V, V = tkV a0 := ⟨_, rfl⟩
      rw [← hV] at H3 HSA ⊢
      clear hV hv
      go_wp2_with fail
      refine H3.out.mono ?_
      rintro e w3 ⟨v3, rfl, ho3, hb3⟩
      have B3 := Lib.hid (onto B2.out hw2 hb3)
      have k1 := conv_own ho3
      have k2 := conv_own (O2.out.below hb3 (Nat.le_refl _))
      have k3 := conv_sl (T2.out.below hb3)
      have U3 := Lib.hid ((T2.out.below hb3).more hb3.size)
      have hw3 : w.heap.size ≤ w3.heap.size := by have := hb3.size; omega
      rw [← HSA.out] at k1
      rw [← HSB.out] at k2
      rw [← HSX.out, ← HJ.out] at k3
      clear H3 ho3 hb3 B2 T2 O2 HSA HSB HJ
      go_wp2_with fail
      obtain ⟨x2, rfl⟩ : ∃ x2 : World, x2 = w3 := ⟨_, rfl⟩
      have C2 := Lib.hid B3.out
      have hx2 := hw3
      have U2 := Lib.hid U3.out
  all_goals
    first | clear k1 k2 k3 hsz | clear hne
    have H2 := Lib.hid (taket_any N c0 4096 A0 a0 x2 U2.out (by omega))
    refine H2.out.mono ?_
    intro e w2 h2
    by_cases hz : ttE N 4096 a0 = 0
    case' neg =>
      obtain ⟨rfl, hb2⟩ := h2.bad rfl hz
      have B2 := Lib.hid (onto C2.out hx2 hb2)
      have hw2 : w.heap.size ≤ w2.heap.size := by have := hb2.size; omega
      have T2 := Lib.hid ((U2.out.below hb2).more hb2.size)
      obtain ⟨E, hE⟩ : ∃ E, E = ttE N 4096 a0 := ⟨_, rfl⟩
      have hne : ((E : Int) == 0) = false := by rw [← hE] at hz; simp; omega
      rw [← hE]
      clear H2 h2 hb2 hE hz C2 U2 hx2
      go_wp2_with fail
      obtain ⟨x3, rfl⟩ : ∃ x3 : World, x3 = w2 := ⟨_, rfl⟩
      have C3 := Lib.hid B2.out
      have hx3 := hw2
      have U3 := Lib.hid T2.out
    case' pos =>
      obtain ⟨u2, v2, rfl, hp2, ho2, hb2⟩ := h2.ok hz
      have O2 := Lib.hid ho2
      have B2 := Lib.hid (onto C2.out hx2 hb2)
      have hw2 : w.heap.size ≤ w2.heap.size := by have := hb2.size; omega
      have T2 := Lib.hid ((U2.out.below hb2).more hb2.size)
      have HJ := Lib.hid (once_text hz)
      have hle := tt_le hz
      have hV4 : tkV a0 ≤ 4096 := by omega
      have hT2 : txL (tkV a0) = encL (tkV a0) + tkV a0 := rfl
      have hL := encL_le (tkV a0)
      obtain ⟨SA, hSA⟩ : ∃ SA, SA = strOf (txL (tkV a0)) (txF (tkV a0) (offF a0 (tkL a0))) := ⟨_, rfl⟩
      obtain ⟨SB, hSB⟩ : ∃ SB, SB = strOf (N - tkL a0 - tkV a0) (offF a0 (tkL a0 + tkV a0)) := ⟨_, rfl⟩
      have hsz : ¬ 9223372036854775807 < SA.size + SB.size := by rw [hSA, hSB, str_size, str_size]; omega
      rw [← hSA, ← hSB, ← HSX.out] at HJ
      have HSA := Lib.hid hSA
      have HSB := Lib.hid hSB
      obtain ⟨Au, cu, hvu, hsu, -, -⟩ := hp2.sl
      subst hvu
      have H3 := Lib.hid (putt_nil (tkV a0) cu Au _ w2 hsu hV4)
      clear H2 h2 hb2 hz ho2 hp2 C2 U2 hSA hSB hL hle hV4 hT2 hsu hx2
      obtain ⟨V, hV⟩ : ∃ V, V = tkV a0 := ⟨_, rfl⟩
      rw [← hV] at H3 HSA ⊢
      clear hV
      go_wp2_with fail
      refine H3.out.mono ?_
      rintro e w3 ⟨v3, rfl, ho3, hb3⟩
      have B3 := Lib.hid (onto B2.out hw2 hb3)
      have k1 := conv_own ho3
      have k2 := conv_own (O2.out.below hb3 (Nat.le_refl _))
      have k3 := conv_sl (T2.out.below hb3)
      have U3' := Lib.hid ((T2.out.below hb3).more hb3.size)
      have hw3 : w.heap.size ≤ w3.heap.size := by have := hb3.size; omega
      rw [← HSA.out] at k1
      rw [← HSB.out] at k2
      rw [← HSX.out, ← HJ.out] at k3
      clear H3 ho3 hb3 B2 T2 O2 HSA HSB HJ
      go_wp2_with fail
      obtain ⟨x3, rfl⟩ : ∃ x3 : World, x3 = w3 := ⟨_, rfl⟩
      have C3 := Lib.hid B3.out
      have hx3 := hw3
      have U3 := Lib.hid U3'.out
  all_goals
    first | clear k1 k2 k3 hsz | clear hne
    have H2 := Lib.hid (takel_any N c0 2000 A0 a0 x3 U3.out (by omega) (by omega))
    refine H2.out.mono ?_
    intro e w2 h2
    by_cases hz : tllE N 2000 a0 = 0
    case' neg =>
      obtain ⟨rfl, hb2⟩ := h2.bad rfl hz
      have B4 := Lib.hid (onto C3.out hx3 hb2)
      obtain ⟨E, hE⟩ : ∃ E, E = tllE N 2000 a0 := ⟨_, rfl⟩
      have hne : ((E : Int) == 0) = false := by rw [← hE] at hz; simp; omega
      rw [← hE]
      clear H2 h2 hb2 hE hz C3 U3 hx3
      go_wp2_with fail
      go_ret
      exact ⟨rfl, B4.out⟩
    case' pos =>
      obtain ⟨Al, cl, v2, rfl, hl2, -, ho2, hb2⟩ := h2.ok hz
      have O2 := Lib.hid ho2
      have B2 := Lib.hid (onto C3.out hx3 hb2)
      have hw2 : w.heap.size ≤ w2.heap.size := by have := hb2.size; omega
      have T2 := Lib.hid ((U3.out.below hb2).more hb2.size)
      have HJ := Lib.hid (once_list hz)
      have hok := tll_ok hz
      have hV2 : tkV a0 ≤ 2000 := by omega
      have hL := lsL_le (natS fun i => (tlX a0 i : Int)) (tkV a0) (tkV a0)
      have hlt := tlX_lt (tkV a0) hok.2.2
      obtain ⟨SA, hSA⟩ : ∃ SA, SA = strOf (lsL (natS fun i => (tlX a0 i : Int)) (tkV a0) (tkV a0)) (lsF (natS fun i => (tlX a0 i : Int)) (tkV a0) (tkV a0)) := ⟨_, rfl⟩
      obtain ⟨SB, hSB⟩ : ∃ SB, SB = strOf (N - tlO a0 (tkV a0)) (offF a0 (tlO a0 (tkV a0))) := ⟨_, rfl⟩
      have hsz : ¬ 9223372036854775807 < SA.size + SB.size := by rw [hSA, hSB, str_size, str_size]; omega
      rw [← hSA, ← hSB, ← HSX.out] at HJ
      have HSA := Lib.hid hSA
      have HSB := Lib.hid hSB
      have H3 := Lib.hid (putl_nil (tkV a0) cl Al (fun i => (tlX a0 i : Int)) w2 hl2 (fun i hi => by have := hlt i hi; omega) (by omega))
      clear H2 h2 hb2 hz ho2 hl2 C3 U3 hSA hSB hL hok hV2 hlt hx3
      obtain ⟨V, hV⟩ : ∃ V, V = tkV a0 := ⟨_, rfl⟩
      rw [← hV] at H3 HSA ⊢
      clear hV
      go_wp2_with fail
      refine H3.out.mono ?_
      rintro e w3 (⟨⟨i, hi, hx⟩, _, _⟩ | ⟨_, v3, rfl, ho3, hb3⟩)
      case' inl => exact absurd hx (by dsimp only; omega)
      case' inr =>
        have B3 := Lib.hid (onto B2.out hw2 hb3)
        have k1 := conv_own ho3
        have k2 := conv_own (O2.out.below hb3 (Nat.le_refl _))
        have k3 := conv_sl (T2.out.below hb3)
        rw [← HSA.out] at k1
        rw [← HSB.out] at k2
        rw [← HSX.out, ← HJ.out] at k3
        clear H3 ho3 hb3 B2 T2 O2 HSA HSB HJ
        go_wp2_with fail
        go_ret
        exact ⟨rfl, B3.out⟩

set_option maxRecDepth 100000 in
theorem lifted (os : Os) (started : os.Started) (H : Type) (enc : TypeId × Value → H) :
    ReturnsInHanded {} Try.checked os 7 .any (Rows.packOnceSpec.pre6 enc Try.prog Try.f7 Rows.packOnceRow.domain false) (Rows.packOnceSpec.post enc Try.prog Try.f7 false true false false) := by
  refine returnsInHanded_of_change (C := Try.checked) own started (by kernel_rfl) Try.func7
    (ChangeSpec.witness6 (enc := enc) (C := Try.checked) false ⟨#[], #[.slice none 0 0], []⟩ 8 (by kernel_rfl) (by kernel_rfl) (by kernel_rfl) (by kernel_rfl)) ?_
  intro W base args ds gs before hval0 hW hcnd _
  have hval : ∀ (j : Nat) t v, Try.f7.params[j]? = some t → args[j]? = some v → Value.okWide Try.prog W .any base t v := hval0
  have hW' := hW
  obtain ⟨p, q, hA0, hV, rfl, hfz, hnd⟩ := hW
  have hA : DataW.TrodAll enc Try.prog W 0 (fun _ => true) true Try.f7.params.toList args.toList ds p := hA0
  rw [Try.params7] at hA hval
  obtain ⟨v0, vs0, d0, ds0, p0, q0, hargs, rfl, rfl, h0, r0⟩ := trodAll_cons hA
  obtain ⟨rfl, rfl, rfl⟩ := trodAll_nil r0
  obtain rfl : args = #[v0] := by cases args; simp_all
  obtain ⟨rfl, rfl⟩ := trodVars_none hV
  have k0 := h0
  have lt0 : ∀ x ∈ p0, x.block < W.heap.size := by obtain ⟨m, hm⟩ := k0; exact DataW.trod_lt m _ _ _ hm
  obtain ⟨A0, n0, c0, a0, rfl, hs0, hm0⟩ := open_sl Try.underlying22 Try.underlying5 (by kernel_rfl) (hval 0 22 v0 rfl rfl) h0
  clear hA0 hval0
  refine (walk a0 n0 c0 A0 W hs0 hm0).mono fun e W' ⟨he, bel⟩ => ?_
  subst he
  exact ⟨_, rfl, _, _, _, [], _, [], hW', trodAll_mk1 (shut_bool Try.underlying4 _), (trodAll_cons_mk (Below.trod laidOut (by kernel_rfl) (of_decide_eq_true (by kernel_rfl)) k0 bel lt0) trodAll_mk0), rfl, bel.frame _, fun h => by cases h⟩

theorem over : Rows.packOnceRow.holds Try.pinned (OpenSpec.ofChange Rows.packOnceSpec) :=
  OpenClaim.holds_of_wide 7 Try.f7 rfl rfl rfl rfl rfl rfl rfl ⟨rfl, rfl, rfl, rfl, rfl⟩ rfl rfl rfl rfl rfl (by kernel_rfl) Try.func7 (by kernel_rfl)
    (of_decide_eq_true (by kernel_rfl)) (by unfold Func.isWrapper; first | (rw [if_pos (by decide +kernel)]; kernel_rfl) | (rw [if_neg (by decide +kernel)]; exact ⟨rfl, rfl⟩))
    (fun os started H enc _ => lifted os started H enc)

theorem proved : Rows.PackOnceSaid := over
#print axioms proved
end Go.Proofs.Ytbdnokccipoibaa.packOnce
