/- The statement SessionsOf: the law strongroomlaw15.SessionsOf answers true for every input, and leaves its arguments as they were. No further condition. -/
import Derived.Test.YthokiohdeclmhaaRows
import Derived.Test.YthokiohdeclmhaaLib
import Derived.Test.YthokiohdeclmhaaSsZa
namespace Go.Proofs.Ythokiohdeclmhaa.sessionsOf
open Go.ChangeShapes Go.WideShapes Go.ChangeAt Go.RowKit
open Go.Proofs.Ythokiohdeclmhaa.Oct
set_option linter.unusedVariables false

theorem own : ownKnob Try.prog.godebug = none := by kernel_rfl
theorem laidOut : laidOutB Try.prog = true := by kernel_rfl

set_option maxRecDepth 20000 in
set_option maxHeartbeats 16000000 in
theorem walk (v0 : Value) (l0 : List Se) (a1 : Int) (w : World) (hl0 : InS 6 seE w v0 l0) (w1 : (Lit.int .i64 a1).wf = true) :
    Calls Try.prog 4 #[v0, .int .i64 a1] w fun e w' => e = .returned (.bool true) ∧ Below w.heap.size w w' := by
  obtain ⟨A0, c0, rfl, hs0, hcm0, hb0⟩ := hl0.serd
  have hle0 := hs0.le
  obtain ⟨n, hn⟩ : ∃ n, n = a1 := ⟨_, rfl⟩
  rw [← hn]
  have HS0 := Lib.hid hs0
  have HB0 := Lib.hid (show SeB l0 from hb0)
  clear hl0 hs0 hb0 hn w1
  go_enter Try.func4, Try.ntmps4
  go_wp2_with fail
  refine (shown15_any w).mono ?_
  rintro e w1 ⟨rfl, hb⟩
  have B1 := Lib.hid hb
  clear hb
  by_cases h12 : 12 < l0.length
  · have d12 : decide (12 < (l0.length : Int)) = true := decide_eq_true (by omega)
    have qU2 : (Instr.slice 43 (.slice A0 l0.length c0) none (some (.int .i64 12)) none).run Try.prog w1 = .ok (.slice A0 12 c0) w1 := run_uptoJ (P := Try.prog) (m := 6) ssl_u se_i A0 l0.length c0 12 (by omega) w1
    have hl12 : (l0.take 12).length = 12 := by rw [List.length_take]; omega
    have HS := Lib.hid (HS0.out.upto 12)
    have HB := Lib.hid (show SeB (l0.take 12) from fun s hs => HB0.out s (List.mem_of_mem_take hs))
    obtain ⟨l, hl⟩ : ∃ l, l = l0.take 12 := ⟨_, rfl⟩
    rw [← hl] at HS HB hl12
    obtain ⟨m, hm⟩ : ∃ m, m = l.length := ⟨_, rfl⟩
    have hm12 : m ≤ 12 := by omega
    clear h12 hl HS0 HB0
    go_upto_region 4 with fail
    rw [show (Value.slice A0 12 c0) = .slice A0 m c0 by rw [hm, hl12]]
    clear hl12 qU2 d12 hle0
    as_aux_lemma =>
    have hl12 : l.length ≤ 12 := by omega
    have HM := Lib.hid hm
    subst hm
    have b2 := B1.out.alloc B1.out.size (.cells #[] 50)
    have F2 := Lib.hid (Fr.new (T := fun _ => 0) (H := fun x => x ≠ 0) b2 0)
    clear b2
    go_wp2_with (at_builtin; refine wpl_appSe rfl (.tmp 28) (.tmp 29) rfl HS.out F2.out (by simp) (by omega) w1.heap.size 50 (by omega) (by simp [Act.eval]) (by simp [Act.eval]) ?_; intro A5 c5 w5 e5 f5)
    have F5 := Lib.hid (F2.out.trans (f5.mono (H' := fun x => x ≠ 0) fun c hc => by omega))
    have E5 := Lib.hid e5
    obtain ⟨T5, hT5⟩ : ∃ T5, T5 = paint (paint (fun _ => 0) w.heap.size 0) (w1.alloc (.cells #[] 50)).heap.size 50 := ⟨_, rfl⟩
    rw [← hT5] at F5 E5
    clear e5 f5 hT5 F2
    refine (pof15_any T5 1 50 A5 c5 l n w5 E5.out (by omega) (by omega) (by omega) (by omega) HB.out).mono ?_
    rintro e w6 ⟨T6, f6, h6⟩
    have F6 := Lib.hid (F5.out.trans (f6.mono (H' := fun x => x ≠ 0) fun c hc => by unfold H2 at hc; omega))
    have H7 := Lib.hid (rof15_any T6 10 A0 c0 l n w w6 HS.out F6.out (by omega) (by omega) HB.out)
    clear f6 F5 E5
    rcases h6 with ⟨hok, B, mv, rfl, hp⟩ | ⟨hno, rfl⟩
    · have HOK := Lib.hid hok
      have HK := Lib.hid (hok.ok fun s hs => by have := (HB.out s hs).2.2.2.2.2; omega)
      have P6 := Lib.hid hp
      clear hok hp
      go_wp2_with fail
      refine H7.out.mono ?_
      rintro e w7 ⟨T7, f7, h7⟩
      have F7 := Lib.hid (F6.out.trans (f7.mono (H' := fun x => x ≠ 0) fun c hc => by omega))
      have P7 := Lib.hid (P6.out.fr f7 (by omega) (by omega) (by omega))
      obtain ⟨-, B7, A7, c7, rfl, -⟩ := h7.resolve_right fun hh => absurd HOK.out hh.1
      have n1 : ((0 : Int) != 0) = false := rfl
      have H8 := Lib.hid (pseats_any T7 1 20 B mv l (n - 1) w7 P7.out (by omega) (by omega) (by omega) (by omega) HK.out)
      clear f7 F6 P6 H7
      go_wp2_with fail
      refine H8.out.mono ?_
      rintro e w8 ⟨A8, c8, T8, rfl, e8, f8⟩
      have F8 := Lib.hid (F7.out.trans (f8.mono (H' := fun x => x ≠ 0) fun c hc => by omega))
      have P8 := Lib.hid (P7.out.fr f8 (by omega) (by omega) (by omega))
      have B8 := Lib.hid (show Below w.heap.size w w8 from F8.out.below (Nat.le_refl _) fun k _ => by simp)
      have H9 := Lib.hid (rsame15_any A8 A0 c8 c0 l w8 e8.serd (HS.out.below B8.out) (by omega))
      clear f8 e8 F7 P7 H8
      go_wp2_with fail
      refine H9.out.mono ?_
      rintro e w9 ⟨rfl, hb9⟩
      have f9 := Fr.calm (T := T8) (T' := T8) (H := fun _ => False) hb9 fun _ _ => rfl
      have F9 := Lib.hid (F8.out.trans (f9.mono (H' := fun x => x ≠ 0) fun c hc => hc.elim))
      have P9 := Lib.hid (P8.out.fr f9 (fun h => h) (fun h => h) (fun h => h))
      have H10 := Lib.hid (rof15_any T8 30 A0 c0 l n w w9 HS.out F9.out (by omega) (by omega) HB.out)
      clear f9 hb9 F8 P8 B8 H9
      go_wp2_with fail
      refine H10.out.mono ?_
      rintro e w10 ⟨T10, f10, h10⟩
      have F10 := Lib.hid (F9.out.trans (f10.mono (H' := fun x => x ≠ 0) fun c hc => by omega))
      have P10 := Lib.hid (P9.out.fr f10 (by omega) (by omega) (by omega))
      obtain ⟨-, B', A', c', rfl, hy⟩ := h10.resolve_right fun hh => absurd HOK.out hh.1
      have Y10 := Lib.hid hy
      have H11 := Lib.hid (popen_any T10 1 B mv l (n - 1) w10 P10.out (by omega) HK.out)
      clear f10 hy F9 P9 H10
      go_wp2_with fail
      refine H11.out.mono ?_
      rintro e w11 ⟨rfl, T11, mv1, f11, hp⟩
      have F11 := Lib.hid (F10.out.trans (f11.mono (H' := fun x => x ≠ 0) fun c hc => by unfold H2 at hc; omega))
      have P11 := Lib.hid hp
      have Y11 := Lib.hid (Y10.out.fr f11 (by unfold H2; omega) (by unfold H2; omega) (by unfold H2; omega))
      have H12 := Lib.hid (ropen15_any T11 30 B' A' c' l (n - 1) w11 Y11.out (by omega) HK.out)
      obtain ⟨L2, hL2⟩ : ∃ x, x = opL l (n - 1) := ⟨_, rfl⟩
      obtain ⟨G2, hG2⟩ : ∃ x, x = opG l (n - 1) := ⟨_, rfl⟩
      obtain ⟨N2, hN2⟩ : ∃ x, x = opN l (n - 1) := ⟨_, rfl⟩
      obtain ⟨E2, hE2⟩ : ∃ x, x = opE l (n - 1) := ⟨_, rfl⟩
      have HK2 := Lib.hid HK.out.opn
      rw [← hL2, ← hG2] at P11 H12 HK2
      rw [← hN2, ← hE2] at H12 ⊢
      clear f11 hp F10 P10 Y10 H11 hL2 hG2 hN2 hE2
      go_wp2_with fail
      refine H12.out.mono ?_
      rintro e w12 ⟨rfl, T12, A2, c2, f12, hy⟩
      have F12 := Lib.hid (F11.out.trans (f12.mono (H' := fun x => x ≠ 0) fun c hc => by unfold H2 at hc; omega))
      have P12 := Lib.hid (P11.out.fr f12 (by unfold H2; omega) (by unfold H2; omega) (by unfold H2; omega))
      have Y12 := Lib.hid hy
      have H13 := Lib.hid (pseats_any T12 1 40 B mv1 L2 G2 w12 P12.out (by omega) (by omega) (by omega) (by omega) HK2.out)
      clear f12 hy F11 P11 Y11 H12
      go_wp2_with fail
      refine H13.out.mono ?_
      rintro e w13 ⟨A13, c13, T13, rfl, e13, f13⟩
      have F13 := F12.out.trans (f13.mono (H' := fun x => x ≠ 0) fun c hc => by omega)
      have B13 := Lib.hid (show Below w.heap.size w w13 from F13.below (Nat.le_refl _) fun k _ => by simp)
      have Y13 := Y12.out.fr f13 (by omega) (by omega) (by omega)
      obtain ⟨y0, y1⟩ := cells2S Y13.row
      have n2 : (n - 1 + 1 == n) = true := by simp
      have n3 : (N2 == N2) = true := by simp
      have n4 : (E2 == E2) = true := by simp
      have n5 : (G2 + 1 == G2 + 1) = true := by simp
      clear f13 e13 F12 F13 P12 Y12 Y13 H13
      go_wp2_with fail
      go_ret
      exact ⟨rfl, B13.out⟩
    · have HNO := Lib.hid hno
      clear hno
      go_wp2_with fail
      refine H7.out.mono ?_
      rintro e w7 ⟨T7, f7, h7⟩
      have F7 := F6.out.trans (f7.mono (H' := fun x => x ≠ 0) fun c hc => by omega)
      have B7 := Lib.hid (show Below w.heap.size w w7 from F7.below (Nat.le_refl _) fun k _ => by simp)
      rcases h7 with ⟨hok, -⟩ | ⟨-, rfl⟩
      · exact absurd hok HNO.out
      clear f7 F6 F7 H7
      go_wp2_with fail
      go_ret
      exact ⟨rfl, B7.out⟩
  · have d12 : decide (12 < (l0.length : Int)) = false := decide_eq_false (by omega)
    have HS := HS0
    have HB := HB0
    obtain ⟨l, hl⟩ : ∃ l, l = l0 := ⟨_, rfl⟩
    rw [← hl] at HS HB d12 h12 hle0 ⊢
    obtain ⟨m, hm⟩ : ∃ m, m = l.length := ⟨_, rfl⟩
    rw [← hm] at d12 h12 hle0 ⊢
    have hm12 : m ≤ 12 := by omega
    clear h12 HS0 HB0 hl
    go_upto_region 4 with fail
    clear d12 hle0
    as_aux_lemma =>
    have hl12 : l.length ≤ 12 := by omega
    have HM := Lib.hid hm
    subst hm
    have b2 := B1.out.alloc B1.out.size (.cells #[] 50)
    have F2 := Lib.hid (Fr.new (T := fun _ => 0) (H := fun x => x ≠ 0) b2 0)
    clear b2
    go_wp2_with (at_builtin; refine wpl_appSe rfl (.tmp 28) (.tmp 29) rfl HS.out F2.out (by simp) (by omega) w1.heap.size 50 (by omega) (by simp [Act.eval]) (by simp [Act.eval]) ?_; intro A5 c5 w5 e5 f5)
    have F5 := Lib.hid (F2.out.trans (f5.mono (H' := fun x => x ≠ 0) fun c hc => by omega))
    have E5 := Lib.hid e5
    obtain ⟨T5, hT5⟩ : ∃ T5, T5 = paint (paint (fun _ => 0) w.heap.size 0) (w1.alloc (.cells #[] 50)).heap.size 50 := ⟨_, rfl⟩
    rw [← hT5] at F5 E5
    clear e5 f5 hT5 F2
    refine (pof15_any T5 1 50 A5 c5 l n w5 E5.out (by omega) (by omega) (by omega) (by omega) HB.out).mono ?_
    rintro e w6 ⟨T6, f6, h6⟩
    have F6 := Lib.hid (F5.out.trans (f6.mono (H' := fun x => x ≠ 0) fun c hc => by unfold H2 at hc; omega))
    have H7 := Lib.hid (rof15_any T6 10 A0 c0 l n w w6 HS.out F6.out (by omega) (by omega) HB.out)
    clear f6 F5 E5
    rcases h6 with ⟨hok, B, mv, rfl, hp⟩ | ⟨hno, rfl⟩
    · have HOK := Lib.hid hok
      have HK := Lib.hid (hok.ok fun s hs => by have := (HB.out s hs).2.2.2.2.2; omega)
      have P6 := Lib.hid hp
      clear hok hp
      go_wp2_with fail
      refine H7.out.mono ?_
      rintro e w7 ⟨T7, f7, h7⟩
      have F7 := Lib.hid (F6.out.trans (f7.mono (H' := fun x => x ≠ 0) fun c hc => by omega))
      have P7 := Lib.hid (P6.out.fr f7 (by omega) (by omega) (by omega))
      obtain ⟨-, B7, A7, c7, rfl, -⟩ := h7.resolve_right fun hh => absurd HOK.out hh.1
      have n1 : ((0 : Int) != 0) = false := rfl
      have H8 := Lib.hid (pseats_any T7 1 20 B mv l (n - 1) w7 P7.out (by omega) (by omega) (by omega) (by omega) HK.out)
      clear f7 F6 P6 H7
      go_wp2_with fail
      refine H8.out.mono ?_
      rintro e w8 ⟨A8, c8, T8, rfl, e8, f8⟩
      have F8 := Lib.hid (F7.out.trans (f8.mono (H' := fun x => x ≠ 0) fun c hc => by omega))
      have P8 := Lib.hid (P7.out.fr f8 (by omega) (by omega) (by omega))
      have B8 := Lib.hid (show Below w.heap.size w w8 from F8.out.below (Nat.le_refl _) fun k _ => by simp)
      have H9 := Lib.hid (rsame15_any A8 A0 c8 c0 l w8 e8.serd (HS.out.below B8.out) (by omega))
      clear f8 e8 F7 P7 H8
      go_wp2_with fail
      refine H9.out.mono ?_
      rintro e w9 ⟨rfl, hb9⟩
      have f9 := Fr.calm (T := T8) (T' := T8) (H := fun _ => False) hb9 fun _ _ => rfl
      have F9 := Lib.hid (F8.out.trans (f9.mono (H' := fun x => x ≠ 0) fun c hc => hc.elim))
      have P9 := Lib.hid (P8.out.fr f9 (fun h => h) (fun h => h) (fun h => h))
      have H10 := Lib.hid (rof15_any T8 30 A0 c0 l n w w9 HS.out F9.out (by omega) (by omega) HB.out)
      clear f9 hb9 F8 P8 B8 H9
      go_wp2_with fail
      refine H10.out.mono ?_
      rintro e w10 ⟨T10, f10, h10⟩
      have F10 := Lib.hid (F9.out.trans (f10.mono (H' := fun x => x ≠ 0) fun c hc => by omega))
      have P10 := Lib.hid (P9.out.fr f10 (by omega) (by omega) (by omega))
      obtain ⟨-, B', A', c', rfl, hy⟩ := h10.resolve_right fun hh => absurd HOK.out hh.1
      have Y10 := Lib.hid hy
      have H11 := Lib.hid (popen_any T10 1 B mv l (n - 1) w10 P10.out (by omega) HK.out)
      clear f10 hy F9 P9 H10
      go_wp2_with fail
      refine H11.out.mono ?_
      rintro e w11 ⟨rfl, T11, mv1, f11, hp⟩
      have F11 := Lib.hid (F10.out.trans (f11.mono (H' := fun x => x ≠ 0) fun c hc => by unfold H2 at hc; omega))
      have P11 := Lib.hid hp
      have Y11 := Lib.hid (Y10.out.fr f11 (by unfold H2; omega) (by unfold H2; omega) (by unfold H2; omega))
      have H12 := Lib.hid (ropen15_any T11 30 B' A' c' l (n - 1) w11 Y11.out (by omega) HK.out)
      obtain ⟨L2, hL2⟩ : ∃ x, x = opL l (n - 1) := ⟨_, rfl⟩
      obtain ⟨G2, hG2⟩ : ∃ x, x = opG l (n - 1) := ⟨_, rfl⟩
      obtain ⟨N2, hN2⟩ : ∃ x, x = opN l (n - 1) := ⟨_, rfl⟩
      obtain ⟨E2, hE2⟩ : ∃ x, x = opE l (n - 1) := ⟨_, rfl⟩
      have HK2 := Lib.hid HK.out.opn
      rw [← hL2, ← hG2] at P11 H12 HK2
      rw [← hN2, ← hE2] at H12 ⊢
      clear f11 hp F10 P10 Y10 H11 hL2 hG2 hN2 hE2
      go_wp2_with fail
      refine H12.out.mono ?_
      rintro e w12 ⟨rfl, T12, A2, c2, f12, hy⟩
      have F12 := Lib.hid (F11.out.trans (f12.mono (H' := fun x => x ≠ 0) fun c hc => by unfold H2 at hc; omega))
      have P12 := Lib.hid (P11.out.fr f12 (by unfold H2; omega) (by unfold H2; omega) (by unfold H2; omega))
      have Y12 := Lib.hid hy
      have H13 := Lib.hid (pseats_any T12 1 40 B mv1 L2 G2 w12 P12.out (by omega) (by omega) (by omega) (by omega) HK2.out)
      clear f12 hy F11 P11 Y11 H12
      go_wp2_with fail
      refine H13.out.mono ?_
      rintro e w13 ⟨A13, c13, T13, rfl, e13, f13⟩
      have F13 := F12.out.trans (f13.mono (H' := fun x => x ≠ 0) fun c hc => by omega)
      have B13 := Lib.hid (show Below w.heap.size w w13 from F13.below (Nat.le_refl _) fun k _ => by simp)
      have Y13 := Y12.out.fr f13 (by omega) (by omega) (by omega)
      obtain ⟨y0, y1⟩ := cells2S Y13.row
      have n2 : (n - 1 + 1 == n) = true := by simp
      have n3 : (N2 == N2) = true := by simp
      have n4 : (E2 == E2) = true := by simp
      have n5 : (G2 + 1 == G2 + 1) = true := by simp
      clear f13 e13 F12 F13 P12 Y12 Y13 H13
      go_wp2_with fail
      go_ret
      exact ⟨rfl, B13.out⟩
    · have HNO := Lib.hid hno
      clear hno
      go_wp2_with fail
      refine H7.out.mono ?_
      rintro e w7 ⟨T7, f7, h7⟩
      have F7 := F6.out.trans (f7.mono (H' := fun x => x ≠ 0) fun c hc => by omega)
      have B7 := Lib.hid (show Below w.heap.size w w7 from F7.below (Nat.le_refl _) fun k _ => by simp)
      rcases h7 with ⟨hok, -⟩ | ⟨-, rfl⟩
      · exact absurd hok HNO.out
      clear f7 F6 F7 H7
      go_wp2_with fail
      go_ret
      exact ⟨rfl, B7.out⟩

set_option maxRecDepth 100000 in
theorem lifted (os : Os) (started : os.Started) (H : Type) (enc : TypeId × Value → H) :
    ReturnsInHanded {} Try.checked os 4 .any (Rows.sessionsOfSpec.pre6 enc Try.prog Try.f4 Rows.sessionsOfRow.domain false) (Rows.sessionsOfSpec.post enc Try.prog Try.f4 false true false false) := by
  refine returnsInHanded_of_change_sized (C := Try.checked) own started (by kernel_rfl) Try.func4
    (ChangeSpec.witness6 (enc := enc) (C := Try.checked) false ⟨#[], #[.slice none 0 0, .int .i64 0], []⟩ 8 (by kernel_rfl) (by kernel_rfl) (by kernel_rfl) (by kernel_rfl)) ?_
  intro W base args ds gs before hval0 hW hcnd hsz0 _
  have hval : ∀ (j : Nat) t v, Try.f4.params[j]? = some t → args[j]? = some v → Value.okWide Try.prog W .any base t v := hval0
  have hW' := hW
  obtain ⟨p, q, hA0, hV, rfl, hfz, hnd⟩ := hW
  have hA : DataW.TrodAll enc Try.prog W 0 (fun _ => true) true Try.f4.params.toList args.toList ds p := hA0
  rw [Try.params4] at hA hval
  have hsz : (DataW.weightsEach Try.prog (Try.f4.params.toList ++ Rows.sessionsOfSpec.plain.varTypes Try.prog) (ds ++ gs)).all (· ≤ reachBytes) = true := hsz0
  rw [Try.params4] at hsz
  clear hsz0
  obtain ⟨v0, vs0, d0, ds0, p0, q0, hargs, rfl, rfl, h0, r0⟩ := trodAll_cons hA
  obtain ⟨v1, vs1, d1, ds1, p1, q1, rfl, rfl, rfl, h1, r1⟩ := trodAll_cons r0
  obtain ⟨rfl, rfl, rfl⟩ := trodAll_nil r1
  obtain rfl : args = #[v0, v1] := by cases args; simp_all
  obtain ⟨rfl, rfl⟩ := trodVars_none hV
  have k0 := h0
  have lt0 : ∀ x ∈ p0, x.block < W.heap.size := by obtain ⟨m, hm⟩ := k0; exact DataW.trod_lt m _ _ _ hm
  obtain ⟨l0, hl0⟩ := open_seS (hval 0 43 v0 rfl rfl) h0 hsz (j := 0) rfl rfl
  obtain ⟨a1, rfl, rfl, rfl, w1⟩ := open_int Try.underlying3 (hval 1 3 v1 rfl rfl) h1
  clear hA0 hval0
  refine (walk v0 l0 a1 W hl0 w1).mono fun e W' ⟨he, bel⟩ => ?_
  subst he
  exact ⟨_, rfl, _, _, _, [], _, [], hW', trodAll_mk1 (shut_bool Try.underlying4 _), (trodAll_cons_mk (Below.trod laidOut (by kernel_rfl) (of_decide_eq_true (by kernel_rfl)) k0 bel lt0) (trodAll_cons_mk (shut_int Try.underlying3 w1) trodAll_mk0)), rfl, bel.frame _, fun h => by cases h⟩

theorem over : Rows.sessionsOfRow.holds Try.pinned (OpenSpec.ofChange Rows.sessionsOfSpec) :=
  OpenClaim.holds_of_wide 4 Try.f4 rfl rfl rfl rfl rfl rfl rfl ⟨rfl, rfl, rfl, rfl, rfl⟩ rfl rfl rfl rfl rfl (by kernel_rfl) Try.func4 (by kernel_rfl)
    (of_decide_eq_true (by kernel_rfl)) (by unfold Func.isWrapper; first | (rw [if_pos (by decide +kernel)]; kernel_rfl) | (rw [if_neg (by decide +kernel)]; exact ⟨rfl, rfl⟩))
    (fun os started H enc _ => lifted os started H enc)

theorem proved : Rows.SessionsOfSaid := over
#print axioms proved
end Go.Proofs.Ythokiohdeclmhaa.sessionsOf
