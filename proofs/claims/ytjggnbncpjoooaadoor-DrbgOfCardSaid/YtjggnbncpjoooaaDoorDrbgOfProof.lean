/- The statement DrbgOf: the law strongroomlaw07.DrbgOf answers true for every input, and leaves its arguments as they were. Condition: the package variables that the row lists read at the call as the text of the program lays them; the card ties that. -/
import Derived.Test.YtjggnbncpjoooaaDoorRows
import Derived.Test.YtjggnbncpjoooaaDoorLib
import Derived.Test.YtjggnbncpjoooaaDoorDrO
import Derived.Test.YtjggnbncpjoooaaDoorTab
import Derived.Test.YtjggnbncpjoooaaDoorCards
import Derived.Test.YtjggnbncpjoooaaDoorTie
import Derived.SevenTiedAt
namespace Go.Proofs.YtjggnbncpjoooaaDoor.drbgOf
open Go.ChangeShapes Go.WideShapes Go.ChangeAt Go.RowKit
open Go.Proofs.YtjggnbncpjoooaaDoor.Oct
set_option linter.unusedVariables false

theorem own : ownKnob Tryd.prog.godebug = none := by kernel_rfl
theorem laidOut : laidOutB Tryd.prog = true := by kernel_rfl

set_option maxRecDepth 20000 in
set_option maxHeartbeats 8000000 in
theorem walk (a0 : Nat → BitVec 8) (a1 : Nat → BitVec 8) (f2 : Nat → BitVec 8) (n2 c2 : Nat) (A2 : Option Addr) (k2 x2 : Int) (w : World) (hs2 : Sl w w.heap.size A2 n2 c2 f2) (hm2 : c2 ≤ maxLen) (hk2 : (Lit.int .i64 k2).wf = true) (hx2 : (Lit.int .i64 x2).wf = true) (htab : Tab w) :
    Calls Tryd.prog 4 #[.agg (ba 32 a0), .agg (ba 32 a1), .agg #[.int .i64 k2, .int .i64 x2, .slice A2 n2 c2]] w fun e w' => e = .returned (.bool true) ∧ Below w.heap.size w w' := by
  have HT := Lib.hid htab
  have HS := Lib.hid hs2
  have hn : n2 ≤ c2 := hs2.le
  have HM := Lib.hid hm2
  have hk := bounds_i64 hk2
  have KB := Lib.hid hk
  have HX := Lib.hid hx2
  have hpos := htab.pos
  clear hs2 htab hk2 hx2 hm2 hk
  go_enter Tryd.func4, Tryd.ntmps4
  go_wp2_with fail
  have h1 := Hd3.start w a0 a1 #[.int .i64 k2, .int .i64 x2, .slice A2 n2 c2] 41 41 31
  obtain ⟨w1, hw1⟩ : ∃ w1, w1 = ((w.alloc (.cells (ba 32 a0) 41)).alloc (.cells (ba 32 a1) 41)).alloc (.cells #[.int .i64 k2, .int .i64 x2, .slice A2 n2 c2] 31) := ⟨_, rfl⟩
  rw [← hw1] at h1 ⊢
  clear hw1
  refine (shown_any w1 (HT.out.below h1.b hpos)).mono ?_
  rintro e w2 ⟨rfl, hb2⟩
  have H2 := Lib.hid (h1.below hb2)
  have z2 := H2.out.z
  have q1 := H2.out.rk
  have q2 := H2.out.rv
  have q3 := H2.out.c0
  clear hb2 h1
  go_wp2_with fail
  refine (dof_any a0 a1 k2 w2).mono ?_
  rintro e w3 ⟨g, rfl, hg, rg, hb3⟩
  have H3 := Lib.hid (H2.out.below hb3)
  have RG := Lib.hid rg
  have z3 := hb3.size
  have hgz := row_lt rg
  clear q1 q2 q3 hb3 rg H2
  have q1 := H3.out.rk
  have q2 := H3.out.rv
  have q3 := H3.out.c0
  go_wp2_with fail
  refine (dof_any a0 a1 k2 w3).mono ?_
  rintro e w4 ⟨t, rfl, ht, rt, hb4⟩
  have H4 := Lib.hid (H3.out.below hb4)
  have RG4 := Lib.hid (carry hb4 RG.out)
  have RT4 := Lib.hid rt
  have z4 := hb4.size
  have htz := row_lt rt
  clear q1 q2 q3 hb4 rt H3 RG
  have q1 := H4.out.c1
  have q2 := H4.out.c2
  go_wp2_with fail
  have HK := Lib.hid (kind_any x2 257 HX.out (by omega) (by omega) w4)
  rw [show ((257 : Nat) : Int) = 257 from rfl] at HK
  refine HK.out.mono ?_
  rintro e w4' ⟨rfl, rfl⟩
  have hK : knd x2 257 < 257 := knd_lt _ (by omega)
  obtain ⟨K, hKK⟩ : ∃ K, K = knd x2 257 := ⟨_, rfl⟩
  rw [← hKK] at hK ⊢
  clear HK hKK HX
  go_wp2_with fail
  refine (few_any A2 n2 c2 hn HM.out w4).mono ?_
  rintro e w4' ⟨rfl, rfl⟩
  obtain ⟨N, hN⟩ : ∃ N, N = min n2 300 := ⟨_, rfl⟩
  have S4 := Lib.hid ((HS.out.below H4.out.b).upto N (by omega))
  have hN3 : N ≤ 300 := by omega
  have HN := Lib.hid hN
  have zz := H4.out.z
  clear hN HS q1 q2
  rw [← HN.out]
  by_cases hk : 1048576 < k2
  · have hd3 : decide (1048576 < k2) = true := by simpa using hk
    have HD := Lib.hid (ddraw_seed (a0, a1) g K N c2 A2 k2 w4 RG4.out (by omega) hk)
    go_wp2_with fail
    refine HD.out.mono ?_
    rintro e w5 ⟨rfl, rfl⟩
    clear HD
    have q2 := H4.out.c2
    go_wp2_with fail
    refine (few_any A2 n2 c2 hn HM.out w4).mono ?_
    rintro e w4' ⟨rfl, rfl⟩
    rw [← HN.out]
    have HD := Lib.hid (ddraw_seed (a0, a1) t K N c2 A2 k2 w4 RT4.out (by omega) hk)
    clear q2
    go_wp2_with fail
    refine HD.out.mono ?_
    rintro e w5 ⟨rfl, rfl⟩
    clear HD
    have HD := Lib.hid (dstate_any (a0, a1) k2 g w4 RG4.out)
    go_wp2_with fail
    refine HD.out.mono ?_
    rintro e w6 ⟨rfl, hb6⟩
    have b7 : Below w6.heap.size w6 ((w6.alloc (.cells (ba 32 a0) 41)).alloc (.cells (ba 32 a1) 41)) := ((Below.refl _ _).alloc (Nat.le_refl _) _).alloc (by simp) _
    have H7 := Lib.hid ((H4.out.below hb6).below b7)
    have z6 := hb6.size
    have q1 := H7.out.rk
    have q2 := H7.out.rv
    have q3 := H7.out.c0
    have e1 := eqB_refl 32 a0
    have e2 := eqB_refl 32 a1
    clear HD hb6 b7
    go_wp2_with fail
    go_ret
    exact ⟨rfl, H7.out.b⟩
  · have hd3 : decide (1048576 < k2) = false := by simp; omega
    have hpos2 := hpos
    have HD := Lib.hid (ddraw_any (a0, a1) g K N c2 A2 f2 k2 w4 (HT.out.below H4.out.b hpos) RG4.out (by omega) (S4.out.more (by omega)) (by omega) (S4.out.off (by omega)) (by omega) (by omega) KB.out.1)
    go_wp2_with fail
    refine HD.out.mono ?_
    rintro e w5 ⟨x, rfl, hx, rx, hp5⟩
    obtain ⟨D, hD⟩ : ∃ D, D = drwF (a0, a1) f2 N := ⟨_, rfl⟩
    rw [← hD] at rx
    have DD := Lib.hid hD
    obtain ⟨F, hF⟩ : ∃ F : St, F = drwS (a0, a1) K f2 N := ⟨_, rfl⟩
    rw [← hF] at hp5
    have H5 := Lib.hid (H4.out.put hp5 (by omega))
    have RG5 := Lib.hid (hp5.row RG4.out)
    have RT5 := Lib.hid (hp5.other (by omega) RT4.out)
    have RX5 := Lib.hid rx
    have S5 := Lib.hid (hp5.sl S4.out (by omega) (S4.out.off (by omega)))
    have z5 := hp5.size
    have hxz := row_lt rx
    have q2 := H5.out.c2
    clear HD hD hF hp5 rx RG4 RT4 H4 S4
    go_wp2_with fail
    refine (few_any A2 n2 c2 hn HM.out w5).mono ?_
    rintro e w4' ⟨rfl, rfl⟩
    rw [← HN.out]
    clear q2
    have HD := Lib.hid (ddraw_any (a0, a1) t K N c2 A2 f2 k2 w5 (HT.out.below H5.out.b hpos) RT5.out (by omega) (S5.out.more (by omega)) (by omega) (S5.out.off (by omega)) (by omega) (by omega) KB.out.1)
    go_wp2_with fail
    refine HD.out.mono ?_
    rintro e w6 ⟨y, rfl, hy, ry, hp6⟩
    rw [← DD.out] at ry
    have H6 := Lib.hid (H5.out.put hp6 (by omega))
    have RG6 := Lib.hid (hp6.other (by omega) RG5.out)
    have RX6 := Lib.hid (hp6.other (by omega) RX5.out)
    have RY6 := Lib.hid ry
    have z6 := hp6.size
    have hyz := row_lt ry
    clear HD hp6 ry RG5 RT5 RX5 H5 S5 DD
    have HD := Lib.hid (dstate_any F (k2 + 1) g w6 RG6.out)
    go_wp2_with fail
    refine HD.out.mono ?_
    rintro e w7 ⟨rfl, hb7⟩
    have H7 := Lib.hid (H6.out.below hb7)
    have RG7 := Lib.hid (carry hb7 RG6.out)
    have RX7 := Lib.hid (carry hb7 RX6.out)
    have RY7 := Lib.hid (carry hb7 RY6.out)
    have z7 := hb7.size
    clear HD hb7 RG6 RX6 RY6 H6
    have b8 : Below w7.heap.size w7 ((w7.alloc (.cells (ba 32 F.1) 41)).alloc (.cells (ba 32 F.2) 41)) := ((Below.refl _ _).alloc (Nat.le_refl _) _).alloc (by simp) _
    have H8 := Lib.hid (H7.out.below b8)
    have q3 := H8.out.c0
    go_wp2_with fail
    have RG8 := Lib.hid (carry b8 RG7.out)
    have RX8 := Lib.hid (carry b8 RX7.out)
    have RY8 := Lib.hid (carry b8 RY7.out)
    have z8 : w7.heap.size ≤ ((w7.alloc (.cells (ba 32 F.1) 41)).alloc (.cells (ba 32 F.2) 41)).heap.size := b8.size
    obtain ⟨w8, hw8⟩ : ∃ w8, w8 = (w7.alloc (.cells (ba 32 F.1) 41)).alloc (.cells (ba 32 F.2) 41) := ⟨_, rfl⟩
    rw [← hw8] at RG8 RX8 RY8 H8 z8 ⊢
    clear hw8 q3 b8 RG7 RX7 RY7 H7
    refine (dof_any F.1 F.2 (k2 + 1) w8).mono ?_
    rintro e w9 ⟨u, rfl, hu, ru, hb9⟩
    have H9 := Lib.hid (H8.out.below hb9)
    have RG9 := Lib.hid (carry hb9 RG8.out)
    have RX9 := Lib.hid (carry hb9 RX8.out)
    have RY9 := Lib.hid (carry hb9 RY8.out)
    have RU9 := Lib.hid ru
    have z9 := hb9.size
    have huz := row_lt ru
    obtain ⟨SD, hSD⟩ : ∃ SD, SD = strOf K D := ⟨_, rfl⟩
    have HSD := Lib.hid hSD
    have hwr : IntKind.i64.wrap k2 = k2 := IntWalk.i64_in _ KB.out
    clear hb9 ru RG8 RX8 RY8 H8 hSD
    by_cases hk2 : 1048576 < k2 + 1
    · have HD := Lib.hid (ddraw_seed F g 16 0 0 none (k2 + 1) w9 RG9.out (by omega) hk2)
      rw [show ((16 : Nat) : Int) = 16 from rfl] at HD
      go_wp2_with fail
      refine HD.out.mono ?_
      rintro e w9' ⟨rfl, rfl⟩
      clear HD
      have HD := Lib.hid (ddraw_seed F u 16 0 0 none (k2 + 1) w9 RU9.out (by omega) hk2)
      rw [show ((16 : Nat) : Int) = 16 from rfl] at HD
      go_wp2_with fail
      refine HD.out.mono ?_
      rintro e w9' ⟨rfl, rfl⟩
      clear HD
      have q3 := H9.out.c0
      have cv1 := run_str (P := Tryd.prog) sli_u u8_u str_u (Sl.of_row RX9.out w9.heap.size (row_lt RX9.out))
      have cv2 := run_str (P := Tryd.prog) sli_u u8_u str_u (Sl.of_row RY9.out w9.heap.size (row_lt RY9.out))
      rw [← HSD.out] at cv1 cv2
      have cv3 := run_str (P := Tryd.prog) sli_u u8_u str_u (Sl.nothing w9 w9.heap.size none 0 nF)
      obtain ⟨SE, hSE⟩ : ∃ SE, SE = strOf 0 nF := ⟨_, rfl⟩
      rw [← hSE] at cv3
      clear hSE
      go_wp2_with fail
      go_ret
      exact ⟨rfl, H9.out.b⟩
    · have HD := Lib.hid (ddraw_any F g 16 0 0 none nF (k2 + 1) w9 (HT.out.below H9.out.b hpos) RG9.out (by omega) (Sl.nothing _ _ _ _ _) (by omega) (fun h => absurd h (by omega)) (by omega) (by omega) (by have := KB.out.1; omega))
      rw [show ((16 : Nat) : Int) = 16 from rfl] at HD
      go_wp2_with fail
      refine HD.out.mono ?_
      rintro e w10 ⟨c, rfl, hc, rc, hp10⟩
      have H10 := Lib.hid (H9.out.put hp10 (by omega))
      have RU10 := Lib.hid (hp10.other (by omega) RU9.out)
      have RX10 := Lib.hid (hp10.other (by omega) RX9.out)
      have RY10 := Lib.hid (hp10.other (by omega) RY9.out)
      have RC10 := Lib.hid rc
      have z10 := hp10.size
      have hcz := row_lt rc
      obtain ⟨E, hE⟩ : ∃ E, E = drwF F nF 0 := ⟨_, rfl⟩
      rw [← hE] at RC10
      have HE := Lib.hid hE
      clear HD hp10 rc H9 RU9 RX9 RY9 RG9 hE
      have HD := Lib.hid (ddraw_any F u 16 0 0 none nF (k2 + 1) w10 (HT.out.below H10.out.b hpos) RU10.out (by omega) (Sl.nothing _ _ _ _ _) (by omega) (fun h => absurd h (by omega)) (by omega) (by omega) (by have := KB.out.1; omega))
      rw [show ((16 : Nat) : Int) = 16 from rfl] at HD
      go_wp2_with fail
      refine HD.out.mono ?_
      rintro e w11 ⟨d, rfl, hd', rd, hp11⟩
      rw [← HE.out] at rd
      have H11 := Lib.hid (H10.out.put hp11 (by omega))
      have rx := hp11.other (by omega) RX10.out
      have ry := hp11.other (by omega) RY10.out
      have rc := hp11.other (by omega) RC10.out
      have z11 := hp11.size
      have q3 := H11.out.c0
      have cv1 := run_str (P := Tryd.prog) sli_u u8_u str_u (Sl.of_row rx w11.heap.size (row_lt rx))
      have cv2 := run_str (P := Tryd.prog) sli_u u8_u str_u (Sl.of_row ry w11.heap.size (row_lt ry))
      have cv3 := run_str (P := Tryd.prog) sli_u u8_u str_u (Sl.of_row rc w11.heap.size (row_lt rc))
      have cv4 := run_str (P := Tryd.prog) sli_u u8_u str_u (Sl.of_row rd w11.heap.size (row_lt rd))
      rw [← HSD.out] at cv1 cv2
      obtain ⟨SE, hSE⟩ : ∃ SE, SE = strOf 16 E := ⟨_, rfl⟩
      rw [← hSE] at cv3 cv4
      clear hSE HD hp11 rd rx ry rc RU10 RX10 RY10 RC10 H10
      go_wp2_with fail
      go_ret
      exact ⟨rfl, H11.out.b⟩

set_option maxRecDepth 100000 in
theorem lifted (os : Os) (started : os.Started) (H : Type) (enc : TypeId × Value → H) :
    ReturnsInHanded {} Tryd.checked os 4 .any (fun w args => (Rows.drbgOfSpec.pre enc Tryd.prog Tryd.f4 [] false w args ∧ laidMetH Tryd.prog laidL w) ∧ sizedMet enc Tryd.prog Tryd.f4 (OpenSpec.ofChange Rows.drbgOfSpec) false w args) (Rows.drbgOfSpec.post enc Tryd.prog Tryd.f4 false true false false) := by
  refine returnsInHanded_of_change_and (C := Tryd.checked) (X := fun w _ => laidMetH Tryd.prog laidL w) (fun _ _ _ hh h => h.of_heap hh) own started (by kernel_rfl) Tryd.func4
    (ChangeSpec.witness_shaped (enc := enc) (C := Tryd.checked) (os := os) (X := fun w _ => laidMetH Tryd.prog laidL w) false (World.doorLaid Tryd.prog 14 os) #[.agg (Array.replicate 32 (.int .u8 0)), .agg (Array.replicate 32 (.int .u8 0)), .agg #[.int .i64 0, .int .i64 0, .slice none 0 0]] 8 rfl (World.shaped_of_RefB (by kernel_rfl) (by kernel_rfl)) (by kernel_rfl) (by kernel_rfl) (by kernel_rfl) (door_met os _)) ?_
  intro W base args ds gs before hval0 hW _ _ hL _
  have hval : ∀ (j : Nat) t v, Tryd.f4.params[j]? = some t → args[j]? = some v → Value.okWide Tryd.prog W .any base t v := hval0
  have hW' := hW
  obtain ⟨p, q, hA0, hV, rfl, hfz, hnd⟩ := hW
  have hA : DataW.TrodAll enc Tryd.prog W 0 (fun _ => true) true Tryd.f4.params.toList args.toList ds p := hA0
  rw [Tryd.params4] at hA hval
  obtain ⟨v0, vs0, d0, ds0, p0, q0, hargs, rfl, rfl, h0, r0⟩ := trodAll_cons hA
  obtain ⟨v1, vs1, d1, ds1, p1, q1, rfl, rfl, rfl, h1, r1⟩ := trodAll_cons r0
  obtain ⟨v2, vs2, d2, ds2, p2, q2, rfl, rfl, rfl, h2, r2⟩ := trodAll_cons r1
  obtain ⟨rfl, rfl, rfl⟩ := trodAll_nil r2
  obtain rfl : args = #[v0, v1, v2] := by cases args; simp_all
  obtain ⟨rfl, rfl⟩ := trodVars_none hV
  have k0 := h0
  have lt0 : ∀ x ∈ p0, x.block < W.heap.size := by obtain ⟨m, hm⟩ := k0; exact DataW.trod_lt m _ _ _ hm
  obtain ⟨a0, rfl⟩ := open_bytes Tryd.underlying41 Tryd.underlying5 (by kernel_rfl) (by kernel_rfl) (hval 0 41 v0 rfl rfl) h0
  have k1 := h1
  have lt1 : ∀ x ∈ p1, x.block < W.heap.size := by obtain ⟨m, hm⟩ := k1; exact DataW.trod_lt m _ _ _ hm
  obtain ⟨a1, rfl⟩ := open_bytes Tryd.underlying41 Tryd.underlying5 (by kernel_rfl) (by kernel_rfl) (hval 1 41 v1 rfl rfl) h1
  have k2 := h2
  have lt2 : ∀ x ∈ p2, x.block < W.heap.size := by obtain ⟨m, hm⟩ := k2; exact DataW.trod_lt m _ _ _ hm
  obtain ⟨kb2, xb2, A2, n2, c2, fb2, rfl, hs2, hm2, hk2', hx2'⟩ := open_op (hval 2 31 v2 rfl rfl) h2
  clear hA0 hval0
  refine (walk a0 a1 fb2 n2 c2 A2 kb2 xb2 W hs2 hm2 hk2' hx2' (tab_of hL)).mono fun e W' ⟨he, bel⟩ => ?_
  subst he
  exact ⟨_, rfl, _, _, _, [], _, [], hW', trodAll_mk1 (shut_bool Tryd.underlying4 _), (trodAll_cons_mk (Below.trod laidOut (by kernel_rfl) (of_decide_eq_true (by kernel_rfl)) k0 bel lt0) (trodAll_cons_mk (Below.trod laidOut (by kernel_rfl) (of_decide_eq_true (by kernel_rfl)) k1 bel lt1) (trodAll_cons_mk (Below.trod laidOut (by kernel_rfl) (of_decide_eq_true (by kernel_rfl)) k2 bel lt2) trodAll_mk0))), rfl, bel.frame _, fun h => by cases h⟩

theorem over : Rows.drbgOfRow.holds Tryd.pinned (OpenSpec.ofChange Rows.drbgOfSpec) :=
  OpenClaim.holds_of_wide 4 Tryd.f4 rfl rfl rfl rfl rfl rfl rfl ⟨rfl, rfl, rfl, rfl, rfl⟩ rfl rfl rfl rfl rfl (by kernel_rfl) Tryd.func4 (by kernel_rfl)
    (of_decide_eq_true (by kernel_rfl)) (by unfold Func.isWrapper; first | (rw [if_pos (by decide +kernel)]; kernel_rfl) | (rw [if_neg (by decide +kernel)]; exact ⟨rfl, rfl⟩))
    (fun os started H enc _ => lifted os started H enc)

theorem proved : Rows.DrbgOfCardSaid :=
  Claim7.holds_tied_plain_at .later [] [.data] true (true, "4642ee307c21727693058ea21c92daa3e951da6297322ad112cfe872a294e37d") false
    over (fun _ h => by cases h) (by kernel_rfl) (fun _ h => by cases h) drbgOf_row_tie rfl ⟨rfl, rfl⟩ (by kernel_rfl) rfl
    (fun f fn hf hfn => by
      obtain rfl : f = 4 := Option.some.inj ((show Tryd.prog.funcNamed "strongroom/strongroomlaw07.DrbgOf" = some 4 by kernel_rfl).symm.trans hf) |>.symm
      obtain rfl : fn = Tryd.f4 := (Option.some.inj (Tryd.func4.symm.trans hfn)).symm
      exact ⟨by kernel_rfl, fun j t ht => by
        rw [Tryd.params4] at ht
        have hm : t ∈ [41, 31] := by simpa using Array.mem_of_getElem? ht
        have hall : ([41, 31].all fun u => !Tryd.prog.wantsStandIn u) = true := by kernel_rfl
        exact (show Tryd.prog.wantsStandIn t = false by simpa using List.all_eq_true.1 hall t hm)⟩)
    (by kernel_rfl)
#print axioms proved
end Go.Proofs.YtjggnbncpjoooaaDoor.drbgOf
