/- The statement DrbgRefuses: the law strongroomlaw07.DrbgRefuses answers true for every input, and leaves its arguments as they were. Condition: the package variables that the row lists read at the call as the text of the program lays them; the card ties that. -/
import Derived.Test.YtjggnbncpjoooaaDoorRows
import Derived.Test.YtjggnbncpjoooaaDoorLib
import Derived.Test.YtjggnbncpjoooaaDoorDrO
import Derived.Test.YtjggnbncpjoooaaDoorTab
import Derived.Test.YtjggnbncpjoooaaDoorCards
import Derived.Test.YtjggnbncpjoooaaDoorTie
import Derived.SevenTiedAt
namespace Go.Proofs.YtjggnbncpjoooaaDoor.drbgRefuses
open Go.ChangeShapes Go.WideShapes Go.ChangeAt Go.RowKit
open Go.Proofs.YtjggnbncpjoooaaDoor.Oct
set_option linter.unusedVariables false

theorem own : ownKnob Tryd.prog.godebug = none := by kernel_rfl
theorem laidOut : laidOutB Tryd.prog = true := by kernel_rfl

set_option maxRecDepth 20000 in
set_option maxHeartbeats 4000000 in
theorem walk (a0 : Nat → BitVec 8) (a1 : Nat → BitVec 8) (f2 : Nat → BitVec 8) (n2 c2 : Nat) (A2 : Option Addr) (k2 x2 : Int) (w : World) (hs2 : Sl w w.heap.size A2 n2 c2 f2) (hm2 : c2 ≤ maxLen) (hk2 : (Lit.int .i64 k2).wf = true) (hx2 : (Lit.int .i64 x2).wf = true) (htab : Tab w) :
    Calls Tryd.prog 7 #[.agg (ba 32 a0), .agg (ba 32 a1), .agg #[.int .i64 k2, .int .i64 x2, .slice A2 n2 c2]] w fun e w' => e = .returned (.bool true) ∧ Below w.heap.size w w' := by
  have HT := Lib.hid htab
  have HS := Lib.hid hs2
  have hn : n2 ≤ c2 := hs2.le
  have HM := Lib.hid hm2
  have hk := bounds_i64 hk2
  have K2 := Lib.hid hk
  have hpos := htab.pos
  clear hs2 htab hk2 hx2 hm2 hk
  go_enter Tryd.func7, Tryd.ntmps7
  go_wp2_with fail
  have h1 := Hd3.start w a0 a1 #[.int .i64 k2, .int .i64 x2, .slice A2 n2 c2] 41 41 31
  obtain ⟨w1, hw1⟩ : ∃ w1, w1 = ((w.alloc (.cells (ba 32 a0) 41)).alloc (.cells (ba 32 a1) 41)).alloc (.cells #[.int .i64 k2, .int .i64 x2, .slice A2 n2 c2] 31) := ⟨_, rfl⟩
  rw [← hw1] at h1 ⊢
  clear hw1
  refine (shown_any w1 (HT.out.below h1.b hpos)).mono ?_
  rintro e w2 ⟨rfl, hb2⟩
  have H2 := Lib.hid (h1.below hb2)
  have z2 := H2.out.z
  have q1 := H2.out.rk
  have q2 := H2.out.rv
  have q3 := H2.out.c0
  clear hb2 h1
  go_wp2_with fail
  refine (dof_any a0 a1 k2 w2).mono ?_
  rintro e w3 ⟨g, rfl, hg, rg, hb3⟩
  have H3 := Lib.hid (H2.out.below hb3)
  have RG := Lib.hid rg
  have z3 := H3.out.z
  have hgz := row_lt rg
  clear q1 q2 q3 hb3 rg H2
  go_wp2_with fail
  refine flow_seen [([0, 1, 2, 3, 4], 5, false), ([], 6, true)] [7, 8, 9, 10, 11] (by kernel_rfl) (by kernel_rfl) (fun _ _ _ _ _ h => h) fun X => ?_
  have H4 := Lib.hid (H3.out.below X.below)
  have R4 := Lib.hid (carry X.below RG.out)
  have z4 := X.below.size
  have z4' := H4.out.z
  obtain ⟨w4, hw4⟩ : ∃ w4, w4 = X.val := ⟨_, rfl⟩
  rw [← hw4] at H4 R4 z4 z4' ⊢
  clear hw4 X H3 RG
  have q1 : ∀ x : After w4, x.val.cell? ⟨w.heap.size + 1 + 1, 1, none⟩ = some (.int .i64 x2) := fun x => (H4.out.below x.below).c1
  have q2 : ∀ x : After w4, x.val.cell? ⟨w.heap.size + 1 + 1, 2, none⟩ = some (.slice A2 n2 c2) := fun x => (H4.out.below x.below).c2
  simp only [wpFs, pk, List.getElem?_cons_zero, List.getElem?_cons_succ]
  repeat (go_big_quiet_step (fail))
  refine wpQuiet_nil ?_
  clear q1 q2
  go_wp2_with fail
  refine (few_any A2 n2 c2 hn HM.out w4).mono ?_
  rintro e w4' ⟨rfl, rfl⟩
  go_wp2_with fail
  refine ⟨.inr (Below.refl _ _), ?_⟩
  show wpQuiet _ _ _ _ _ _
  refine wpQuiet_nil ?_
  obtain ⟨N, hN⟩ : ∃ N, N = min n2 300 := ⟨_, rfl⟩
  have S4 := Lib.hid ((HS.out.below H4.out.b).upto N (by omega))
  rw [← hN]
  have hN3 : N ≤ 300 := by omega
  have T4 := Lib.hid (HT.out.below H4.out.b hpos)
  have S4' := Lib.hid (S4.out.more (show w.heap.size ≤ w4.heap.size by omega))
  have OF := Lib.hid (S4.out.off (B := g) (by omega))
  clear hN HS hn
  go_wp2_with fail
  by_cases hx : x2 < 0 ∨ 256 < x2
  · have HD := Lib.hid (ddraw_arg g N c2 A2 x2 w4 hx)
    refine HD.out.mono ?_
    rintro e w5 ⟨rfl, rfl⟩
    clear HD
    go_wp2_with fail
    refine ⟨.inl trivial, ?_⟩
    show wpQuiet _ _ _ _ _ _
    repeat (go_big_quiet_step (fail))
    refine wpQuiet_nil ?_
    have HD := Lib.hid (dstate_any (a0, a1) k2 g w4 R4.out)
    go_wp2_with fail
    refine HD.out.mono ?_
    rintro e w6 ⟨rfl, hb6⟩
    have b7 : Below w6.heap.size w6 ((w6.alloc (.cells (ba 32 a0) 41)).alloc (.cells (ba 32 a1) 41)) := ((Below.refl _ _).alloc (Nat.le_refl _) _).alloc (by simp) _
    have H7 := Lib.hid ((H4.out.below hb6).below b7)
    have z6 := hb6.size
    have q1 := H7.out.rk
    have q2 := H7.out.rv
    have q3 := H7.out.c0
    have q4 := H7.out.c1
    have e1 := eqB_refl 32 a0
    have e2 := eqB_refl 32 a1
    clear HD hb6 b7
    go_wp2_with fail
    all_goals
      go_ret
      exact ⟨rfl, H7.out.b⟩
  · obtain ⟨n, rfl⟩ : ∃ n : Nat, x2 = (n : Int) := ⟨x2.toNat, by omega⟩
    have hn : n ≤ 256 := by omega
    have hd1 : decide ((n : Int) < 0) = false := by simp
    have hd2 : decide ((256 : Int) < (n : Int)) = false := by simp; omega
    clear hx
    by_cases hk : 1048576 < k2
    · have hd3 : decide (1048576 < k2) = true := by simpa using hk
      have HD := Lib.hid (ddraw_seed (a0, a1) g n N c2 A2 k2 w4 R4.out hn hk)
      refine HD.out.mono ?_
      rintro e w5 ⟨rfl, rfl⟩
      clear HD
      go_wp2_with fail
      refine ⟨.inl trivial, ?_⟩
      show wpQuiet _ _ _ _ _ _
      repeat (go_big_quiet_step (fail))
      refine wpQuiet_nil ?_
      have HD := Lib.hid (dstate_any (a0, a1) k2 g w4 R4.out)
      go_wp2_with fail
      refine HD.out.mono ?_
      rintro e w6 ⟨rfl, hb6⟩
      have b7 : Below w6.heap.size w6 ((w6.alloc (.cells (ba 32 a0) 41)).alloc (.cells (ba 32 a1) 41)) := ((Below.refl _ _).alloc (Nat.le_refl _) _).alloc (by simp) _
      have H7 := Lib.hid ((H4.out.below hb6).below b7)
      have z6 := hb6.size
      have q1 := H7.out.rk
      have q2 := H7.out.rv
      have q3 := H7.out.c0
      have q4 := H7.out.c1
      have e1 := eqB_refl 32 a0
      have e2 := eqB_refl 32 a1
      clear HD hb6 b7
      go_wp2_with fail
      go_ret
      exact ⟨rfl, H7.out.b⟩
    · have hd3 : decide (1048576 < k2) = false := by simp; omega
      have HD := Lib.hid (ddraw_any (a0, a1) g n N c2 A2 f2 k2 w4 T4.out R4.out (by omega) S4'.out (by omega) OF.out hn (by omega) K2.out.1)
      refine HD.out.mono ?_
      rintro e w5 ⟨y, rfl, hy, -, hp5⟩
      have H5 := Lib.hid (H4.out.put hp5 (by omega))
      have R5 := Lib.hid (hp5.row R4.out)
      clear HD hp5
      go_wp2_with fail
      refine ⟨.inl trivial, ?_⟩
      show wpQuiet _ _ _ _ _ _
      repeat (go_big_quiet_step (fail))
      refine wpQuiet_nil ?_
      have HD := Lib.hid (dstate_any (drwS (a0, a1) n f2 N) (k2 + 1) g w5 R5.out)
      go_wp2_with fail
      refine HD.out.mono ?_
      rintro e w6 ⟨rfl, hb6⟩
      obtain ⟨F, hF⟩ : ∃ F : St, F = drwS (a0, a1) n f2 N := ⟨_, rfl⟩
      rw [← hF]
      clear hF
      have b7 : Below w6.heap.size w6 ((w6.alloc (.cells (ba 32 F.1) 41)).alloc (.cells (ba 32 F.2) 41)) := ((Below.refl _ _).alloc (Nat.le_refl _) _).alloc (by simp) _
      have H7 := Lib.hid ((H5.out.below hb6).below b7)
      have z6 := hb6.size
      have q1 := H7.out.rk
      have q2 := H7.out.rv
      have q3 := H7.out.c0
      have q4 := H7.out.c1
      clear HD hb6 b7
      go_wp2_with fail
      go_ret
      exact ⟨rfl, H7.out.b⟩

set_option maxRecDepth 100000 in
theorem lifted (os : Os) (started : os.Started) (H : Type) (enc : TypeId × Value → H) :
    ReturnsInHanded {} Tryd.checked os 7 .any (fun w args => (Rows.drbgRefusesSpec.pre enc Tryd.prog Tryd.f7 [] false w args ∧ laidMetH Tryd.prog laidL w) ∧ sizedMet enc Tryd.prog Tryd.f7 (OpenSpec.ofChange Rows.drbgRefusesSpec) false w args) (Rows.drbgRefusesSpec.post enc Tryd.prog Tryd.f7 false true false false) := by
  refine returnsInHanded_of_change_and (C := Tryd.checked) (X := fun w _ => laidMetH Tryd.prog laidL w) (fun _ _ _ hh h => h.of_heap hh) own started (by kernel_rfl) Tryd.func7
    (ChangeSpec.witness_shaped (enc := enc) (C := Tryd.checked) (os := os) (X := fun w _ => laidMetH Tryd.prog laidL w) false (World.doorLaid Tryd.prog 14 os) #[.agg (Array.replicate 32 (.int .u8 0)), .agg (Array.replicate 32 (.int .u8 0)), .agg #[.int .i64 0, .int .i64 0, .slice none 0 0]] 8 rfl (World.shaped_of_RefB (by kernel_rfl) (by kernel_rfl)) (by kernel_rfl) (by kernel_rfl) (by kernel_rfl) (door_met os _)) ?_
  intro W base args ds gs before hval0 hW _ _ hL _
  have hval : ∀ (j : Nat) t v, Tryd.f7.params[j]? = some t → args[j]? = some v → Value.okWide Tryd.prog W .any base t v := hval0
  have hW' := hW
  obtain ⟨p, q, hA0, hV, rfl, hfz, hnd⟩ := hW
  have hA : DataW.TrodAll enc Tryd.prog W 0 (fun _ => true) true Tryd.f7.params.toList args.toList ds p := hA0
  rw [Tryd.params7] at hA hval
  obtain ⟨v0, vs0, d0, ds0, p0, q0, hargs, rfl, rfl, h0, r0⟩ := trodAll_cons hA
  obtain ⟨v1, vs1, d1, ds1, p1, q1, rfl, rfl, rfl, h1, r1⟩ := trodAll_cons r0
  obtain ⟨v2, vs2, d2, ds2, p2, q2, rfl, rfl, rfl, h2, r2⟩ := trodAll_cons r1
  obtain ⟨rfl, rfl, rfl⟩ := trodAll_nil r2
  obtain rfl : args = #[v0, v1, v2] := by cases args; simp_all
  obtain ⟨rfl, rfl⟩ := trodVars_none hV
  have k0 := h0
  have lt0 : ∀ x ∈ p0, x.block < W.heap.size := by obtain ⟨m, hm⟩ := k0; exact DataW.trod_lt m _ _ _ hm
  obtain ⟨a0, rfl⟩ := open_bytes Tryd.underlying41 Tryd.underlying5 (by kernel_rfl) (by kernel_rfl) (hval 0 41 v0 rfl rfl) h0
  have k1 := h1
  have lt1 : ∀ x ∈ p1, x.block < W.heap.size := by obtain ⟨m, hm⟩ := k1; exact DataW.trod_lt m _ _ _ hm
  obtain ⟨a1, rfl⟩ := open_bytes Tryd.underlying41 Tryd.underlying5 (by kernel_rfl) (by kernel_rfl) (hval 1 41 v1 rfl rfl) h1
  have k2 := h2
  have lt2 : ∀ x ∈ p2, x.block < W.heap.size := by obtain ⟨m, hm⟩ := k2; exact DataW.trod_lt m _ _ _ hm
  obtain ⟨kb2, xb2, A2, n2, c2, fb2, rfl, hs2, hm2, hk2', hx2'⟩ := open_op (hval 2 31 v2 rfl rfl) h2
  clear hA0 hval0
  refine (walk a0 a1 fb2 n2 c2 A2 kb2 xb2 W hs2 hm2 hk2' hx2' (tab_of hL)).mono fun e W' ⟨he, bel⟩ => ?_
  subst he
  exact ⟨_, rfl, _, _, _, [], _, [], hW', trodAll_mk1 (shut_bool Tryd.underlying4 _), (trodAll_cons_mk (Below.trod laidOut (by kernel_rfl) (of_decide_eq_true (by kernel_rfl)) k0 bel lt0) (trodAll_cons_mk (Below.trod laidOut (by kernel_rfl) (of_decide_eq_true (by kernel_rfl)) k1 bel lt1) (trodAll_cons_mk (Below.trod laidOut (by kernel_rfl) (of_decide_eq_true (by kernel_rfl)) k2 bel lt2) trodAll_mk0))), rfl, bel.frame _, fun h => by cases h⟩

theorem over : Rows.drbgRefusesRow.holds Tryd.pinned (OpenSpec.ofChange Rows.drbgRefusesSpec) :=
  OpenClaim.holds_of_wide 7 Tryd.f7 rfl rfl rfl rfl rfl rfl rfl ⟨rfl, rfl, rfl, rfl, rfl⟩ rfl rfl rfl rfl rfl (by kernel_rfl) Tryd.func7 (by kernel_rfl)
    (of_decide_eq_true (by kernel_rfl)) (by unfold Func.isWrapper; first | (rw [if_pos (by decide +kernel)]; kernel_rfl) | (rw [if_neg (by decide +kernel)]; exact ⟨rfl, rfl⟩))
    (fun os started H enc _ => lifted os started H enc)

theorem proved : Rows.DrbgRefusesCardSaid :=
  Claim7.holds_tied_plain_at .later [] [.data] true (true, "4642ee307c21727693058ea21c92daa3e951da6297322ad112cfe872a294e37d") false
    over (fun _ h => by cases h) (by kernel_rfl) (fun _ h => by cases h) drbgRefuses_row_tie rfl ⟨rfl, rfl⟩ (by kernel_rfl) rfl
    (fun f fn hf hfn => by
      obtain rfl : f = 7 := Option.some.inj ((show Tryd.prog.funcNamed "strongroom/strongroomlaw07.DrbgRefuses" = some 7 by kernel_rfl).symm.trans hf) |>.symm
      obtain rfl : fn = Tryd.f7 := (Option.some.inj (Tryd.func7.symm.trans hfn)).symm
      exact ⟨by kernel_rfl, fun j t ht => by
        rw [Tryd.params7] at ht
        have hm : t ∈ [41, 31] := by simpa using Array.mem_of_getElem? ht
        have hall : ([41, 31].all fun u => !Tryd.prog.wantsStandIn u) = true := by kernel_rfl
        exact (show Tryd.prog.wantsStandIn t = false by simpa using List.all_eq_true.1 hall t hm)⟩)
    (by kernel_rfl)
#print axioms proved
end Go.Proofs.YtjggnbncpjoooaaDoor.drbgRefuses
