/- The statement PackSizes: the law strongroomlaw08.PackSizes answers true for every input, and leaves its arguments as they were. No further condition. -/
import Derived.Test.YtbdnokccipoibaaRows
import Derived.Test.YtbdnokccipoibaaLib
import Derived.Test.YtbdnokccipoibaaPkS
namespace Go.Proofs.Ytbdnokccipoibaa.packSizes
open Go.ChangeShapes Go.WideShapes Go.ChangeAt Go.RowKit
open Go.Proofs.Ytbdnokccipoibaa.Oct
set_option linter.unusedVariables false

theorem own : ownKnob Try.prog.godebug = none := by kernel_rfl
theorem laidOut : laidOutB Try.prog = true := by kernel_rfl

set_option maxRecDepth 20000 in
set_option maxHeartbeats 4000000 in
theorem walk (a0 : Int) (a1 : Nat → BitVec 8) (n1 c1 : Nat) (A1 : Option Addr) (w : World) (w0 : (Lit.int .i64 a0).wf = true) (hs1 : Sl w w.heap.size A1 n1 c1 a1) (hm1 : c1 ≤ maxLen) (hz1 : n1 ≤ 140737488351232) :
    Calls Try.prog 9 #[.int .i64 a0, .slice A1 n1 c1] w fun e w' => e = .returned (.bool true) ∧ Below w.heap.size w w' := by
  have HS1 := Lib.hid hs1
  obtain ⟨hlo, hhi⟩ := wf_bd w0
  have HLO := Lib.hid hlo
  clear hs1 w0 hm1 hlo
  go_enter Try.func9, Try.ntmps9
  go_wp2_with fail
  refine (shown_any w).mono ?_
  rintro e w1 ⟨rfl, hb1⟩
  have B1 := Lib.hid hb1
  have hw1 := hb1.size
  clear hb1
  by_cases hneg : a0 < 0
  case' pos =>
    have H2 := Lib.hid (put_neg a0 0 0 none w1 hneg)
    clear hneg
    go_wp2_with fail
    refine H2.out.mono ?_
    rintro e w2 ⟨rfl, hw2⟩
    subst hw2
    clear H2
    obtain ⟨x2, rfl⟩ : ∃ x2 : World, x2 = w1 := ⟨_, rfl⟩
    go_wp2_with fail
  case' neg =>
    obtain ⟨n, rfl⟩ : ∃ n : Nat, a0 = n := ⟨a0.toNat, by omega⟩
    have H2 := Lib.hid (put_nil n w1 (by omega))
    have hn : n < 9223372036854775808 := by omega
    clear hneg hhi HLO
    go_wp2_with fail
    refine H2.out.mono ?_
    rintro e w2 ⟨v2, rfl, ho2, hb2⟩
    obtain ⟨A2, c2, hv2, -, -, -⟩ := ho2.sl
    subst hv2
    have B2 := Lib.hid (onto B1.out hw1 hb2)
    have hw2 : w.heap.size ≤ w2.heap.size := by have := hb2.size; omega
    have HL := Lib.hid (show encL n = nd n + 1 from rfl)
    clear H2 ho2 hb2 B1 hw1
    obtain ⟨L, hL⟩ : ∃ L, L = encL n := ⟨_, rfl⟩
    rw [← hL] at HL ⊢
    clear hL
    go_wp2_with fail
    go_loopw [8, 9] (fun kv nv wr => ∃ m k : Nat, m ≤ n ∧ k + nd m = nd n ∧ nv = .int .i64 m ∧ kv = .int .i64 k ∧ wr = w2) (fun _ nv _ => (intOf nv).toNat)
    case' atStart => exact ⟨n, 0, Nat.le_refl _, by omega, rfl, rfl, rfl⟩
    case' round =>
      obtain ⟨m, k, hm, hk, rfl, rfl, rfl⟩ := hrel
      have hk8 := nd_le n
      by_cases h0 : m = 0
      case' neg =>
        have hd : decide ((0 : Int) < (m : Int)) = true := by simp; omega
        have hs := nd_step m (by omega) (by omega)
        have HS := Lib.hid hs
        have HK := Lib.hid hk
        have hk9 : k ≤ 8 := by omega
        clear hs hk
        go_wp2_with fail
        go_roundw
        case' rel => exact ⟨m / 256, k + 1, by omega, by have := HS.out; have := HK.out; omega, rfl, rfl, trivial⟩
        case' measure => simp [intOf]; omega
      case' pos =>
        subst h0
        have hk0 : k = nd n := by rw [nd_zero] at hk; omega
        have hLk : L = k + 1 := by rw [HL.out, hk0]
        have hk9 : k ≤ 8 := by omega
        clear HL hk hk0
        subst hLk
        have hq : (((k + 1 : Nat) : Int) == (k : Int) + 1) = true := by simp
        obtain ⟨x2, rfl⟩ : ∃ x2 : World, x2 = wr := ⟨_, rfl⟩
        go_wp2_with fail
        have B1 := Lib.hid B2.out
        have hw1 := hw2
  all_goals
    have S2 := Lib.hid ((HS1.out.below B1.out).more hw1)
    by_cases hT : 4096 < n1
    case' pos =>
      have H3 := Lib.hid (putt_long 0 0 n1 c1 none A1 x2 hT)
      go_wp2_with fail
      refine H3.out.mono ?_
      rintro e x3 ⟨rfl, hw3⟩
      clear H3
      subst hw3
      have H4 := Lib.hid (put_nil n1 x2 (by omega))
      go_wp2_with fail
      refine H4.out.mono ?_
      rintro e x4 ⟨v4, rfl, ho4, hb4⟩
      obtain ⟨A4, c4, hv4, -, -, -⟩ := ho4.sl
      subst hv4
      have B4 := Lib.hid (onto B1.out hw1 hb4)
      clear H4 ho4 hb4
      go_wp2_with fail
      go_ret
      exact ⟨rfl, B4.out⟩
    case' neg =>
      have H3 := Lib.hid (putt_nil n1 c1 A1 a1 x2 S2.out (by omega))
      go_wp2_with fail
      refine H3.out.mono ?_
      rintro e x3 ⟨v3, rfl, ho3, hb3⟩
      obtain ⟨A3, c3, hv3, -, -, -⟩ := ho3.sl
      subst hv3
      have B3 := Lib.hid (onto B1.out hw1 hb3)
      have hw3 : w.heap.size ≤ x3.heap.size := by have := hb3.size; omega
      have H4 := Lib.hid (put_nil n1 x3 (by omega))
      have hE := encL_le n1
      have HT := Lib.hid (show txL n1 = encL n1 + n1 from rfl)
      obtain ⟨T, hT2⟩ : ∃ T, T = txL n1 := ⟨_, rfl⟩
      obtain ⟨E, hE2⟩ : ∃ E, E = encL n1 := ⟨_, rfl⟩
      rw [← hE2] at H4 HT hE
      rw [← hT2] at HT ⊢
      have hq : ((T : Int) == (E : Int) + (n1 : Int)) = true := by have := HT.out; simp; omega
      clear H3 ho3 hb3 hT2 hE2 HT
      go_wp2_with fail
      refine H4.out.mono ?_
      rintro e x4 ⟨v4, rfl, ho4, hb4⟩
      obtain ⟨A4, c4, hv4, -, -, -⟩ := ho4.sl
      subst hv4
      have B4 := Lib.hid (onto B3.out hw3 hb4)
      clear H4 ho4 hb4
      go_wp2_with fail
      go_ret
      exact ⟨rfl, B4.out⟩

set_option maxRecDepth 100000 in
theorem lifted (os : Os) (started : os.Started) (H : Type) (enc : TypeId × Value → H) :
    ReturnsInHanded {} Try.checked os 9 .any (Rows.packSizesSpec.pre6 enc Try.prog Try.f9 Rows.packSizesRow.domain false) (Rows.packSizesSpec.post enc Try.prog Try.f9 false true false false) := by
  refine returnsInHanded_of_change_sized (C := Try.checked) own started (by kernel_rfl) Try.func9
    (ChangeSpec.witness6 (enc := enc) (C := Try.checked) false ⟨#[], #[.int .i64 0, .slice none 0 0], []⟩ 8 (by kernel_rfl) (by kernel_rfl) (by kernel_rfl) (by kernel_rfl)) ?_
  intro W base args ds gs before hval0 hW hcnd hsz0 _
  have hval : ∀ (j : Nat) t v, Try.f9.params[j]? = some t → args[j]? = some v → Value.okWide Try.prog W .any base t v := hval0
  have hW' := hW
  obtain ⟨p, q, hA0, hV, rfl, hfz, hnd⟩ := hW
  have hA : DataW.TrodAll enc Try.prog W 0 (fun _ => true) true Try.f9.params.toList args.toList ds p := hA0
  rw [Try.params9] at hA hval
  have hsz : (DataW.weightsEach Try.prog (Try.f9.params.toList ++ Rows.packSizesSpec.plain.varTypes Try.prog) (ds ++ gs)).all (· ≤ reachBytes) = true := hsz0
  rw [Try.params9] at hsz
  clear hsz0
  obtain ⟨v0, vs0, d0, ds0, p0, q0, hargs, rfl, rfl, h0, r0⟩ := trodAll_cons hA
  obtain ⟨v1, vs1, d1, ds1, p1, q1, rfl, rfl, rfl, h1, r1⟩ := trodAll_cons r0
  obtain ⟨rfl, rfl, rfl⟩ := trodAll_nil r1
  obtain rfl : args = #[v0, v1] := by cases args; simp_all
  obtain ⟨rfl, rfl⟩ := trodVars_none hV
  obtain ⟨a0, rfl, rfl, rfl, w0⟩ := open_int Try.underlying3 (hval 0 3 v0 rfl rfl) h0
  have k1 := h1
  have lt1 : ∀ x ∈ p1, x.block < W.heap.size := by obtain ⟨m, hm⟩ := k1; exact DataW.trod_lt m _ _ _ hm
  obtain ⟨A1, n1, c1, a1, rfl, hs1, hm1⟩ := open_sl Try.underlying22 Try.underlying5 (by kernel_rfl) (hval 1 22 v1 rfl rfl) h1
  have hz1 : n1 ≤ 140737488351232 := by have := reach_sl Try.underlying22 k1 hsz (j := 1) rfl rfl; rw [show Try.prog.bytesOf 5 = 1 by kernel_rfl] at this; omega
  clear hA0 hval0
  refine (walk a0 a1 n1 c1 A1 W w0 hs1 hm1 hz1).mono fun e W' ⟨he, bel⟩ => ?_
  subst he
  exact ⟨_, rfl, _, _, _, [], _, [], hW', trodAll_mk1 (shut_bool Try.underlying4 _), (trodAll_cons_mk (shut_int Try.underlying3 w0) (trodAll_cons_mk (Below.trod laidOut (by kernel_rfl) (of_decide_eq_true (by kernel_rfl)) k1 bel lt1) trodAll_mk0)), rfl, bel.frame _, fun h => by cases h⟩

theorem over : Rows.packSizesRow.holds Try.pinned (OpenSpec.ofChange Rows.packSizesSpec) :=
  OpenClaim.holds_of_wide 9 Try.f9 rfl rfl rfl rfl rfl rfl rfl ⟨rfl, rfl, rfl, rfl, rfl⟩ rfl rfl rfl rfl rfl (by kernel_rfl) Try.func9 (by kernel_rfl)
    (of_decide_eq_true (by kernel_rfl)) (by unfold Func.isWrapper; first | (rw [if_pos (by decide +kernel)]; kernel_rfl) | (rw [if_neg (by decide +kernel)]; exact ⟨rfl, rfl⟩))
    (fun os started H enc _ => lifted os started H enc)

theorem proved : Rows.PackSizesSaid := over
#print axioms proved
end Go.Proofs.Ytbdnokccipoibaa.packSizes
