/- The statement SessionsOnce: the law strongroomlaw15.SessionsOnce answers true for every input, and leaves its arguments as they were. No further condition. -/
import Derived.Test.YthokiohdeclmhaaRows
import Derived.Test.YthokiohdeclmhaaLib
import Derived.Test.YthokiohdeclmhaaSsV
namespace Go.Proofs.Ythokiohdeclmhaa.sessionsOnce
open Go.ChangeShapes Go.WideShapes Go.ChangeAt Go.RowKit
open Go.Proofs.Ythokiohdeclmhaa.Oct
set_option linter.unusedVariables false

theorem own : ownKnob Try.prog.godebug = none := by kernel_rfl
theorem laidOut : laidOutB Try.prog = true := by kernel_rfl

set_option maxRecDepth 20000 in
set_option maxHeartbeats 16000000 in
theorem walk (v0 : Value) (l0 : List OpS) (w : World) (hl0 : InS 7 osE w v0 l0) :
    Calls Try.prog 5 #[v0] w fun e w' => e = .returned (.bool true) ∧ Below w.heap.size w w' := by
  have HL := Lib.hid hl0
  obtain ⟨A0, c0, rfl, hle0, hcm0, -⟩ := hl0.at_
  have s0 := Stb.triv
  clear hl0
  go_enter Try.func5, Try.ntmps5
  go_wp2_with fail
  refine (shown15_any w).mono ?_
  rintro e w1 ⟨rfl, hb⟩
  have B1 := Lib.hid hb
  have H2 := Lib.hid (ps_new w1)
  clear hb
  go_wp2_with fail
  refine H2.out.mono ?_
  rintro e w2 ⟨B, rfl, h⟩
  have P2 := Lib.hid h
  clear h H2
  go_wp2_with fail
  go_loopw [5, 6] (fun lv iv wr => ∃ (j : Nat) (l : List Se) (g : Int), j ≤ l0.length ∧ j ≤ 100 ∧ iv = .int .i64 (j : Int) ∧ lv = .int .i64 g ∧ PS (fun _ _ => True) w1 wr B l g ∧ SsQ l) (fun _ iv _ => 100 - (intOf iv).toNat)
  case atStart => exact ⟨0, [], 0, by omega, by omega, rfl, rfl, P2.out, SsQ.nil⟩
  case round =>
    obtain ⟨j, l, g, hj, hj1, rfl, rfl, hp, hq⟩ := hrel
    obtain ⟨wo, rfl⟩ : ∃ wo : World, wo = wr := ⟨_, rfl⟩
    have P := Lib.hid hp
    have HQ := Lib.hid hq
    have hK := hp.ok
    have hg0 := hK.g0
    have hg1 := hK.g1
    have Bo := Lib.hid (onto B1.out B1.out.size hp.bel)
    clear hp hq P2 hK
    by_cases hlt : j < l0.length
    · have hd : decide ((j : Int) < (l0.length : Int)) = true := by simp; omega
      by_cases h100 : j < 100
      · have hd2 : decide ((j : Int) < 100) = true := by simp; omega
        obtain ⟨gk, ok, c, ev, hlc, hldr, how⟩ := ops_at HL.out Bo.out hlt
        cases ev
        obtain ⟨o, ho⟩ : ∃ o, o = l0[j] := ⟨_, rfl⟩
        rw [← ho] at hldr how
        have HO := Lib.hid how
        have hw : IntKind.i64.wrap ((j : Int) + 1) = (j : Int) + 1 := IntWalk.i64_in _ (by omega)
        have bx := (Below.refl wo.heap.size wo).alloc (Nat.le_refl _) (.cells (osA o) 33)
        have P1 := Lib.hid (P.out.add s0 bx 50 (Nat.le_refl _) (K' := fun T y => row y wo.heap.size = some (osA o) ∧ T wo.heap.size = 50) fun T => ⟨row_alloc_at _ _ _ _ rfl, paint_new (Nat.le_refl _)⟩)
        have s1 := Stb.and s0 (Stb.row 50 wo.heap.size (osA o) (Nat.le_refl _))
        obtain ⟨x1, hx1⟩ : ∃ x1, x1 = wo.alloc (.cells (osA o) 33) := ⟨_, rfl⟩
        have R1 := Lib.hid (show row x1 wo.heap.size = some (osA o) by rw [hx1]; exact row_alloc_at _ _ _ _ rfl)
        rw [← hx1] at bx P1
        have X1 := Lib.hid (onto Bo.out Bo.out.size bx)
        clear ho how bx
        go_upto_region 10 with fail
        rw [← hx1]
        clear hx1 hldr
        obtain ⟨a0, a1, a2⟩ := cells7S R1.out
        have H3 := Lib.hid (kindS_any o.k 4 HO.out.k (by omega) x1)
        obtain ⟨hk0, hk1⟩ := kdS_nn o.k 4 (by omega)
        obtain ⟨K, hKK⟩ : ∃ K, K = kdS o.k 4 := ⟨_, rfl⟩
        rw [← hKK] at H3 hk0 hk1
        clear hKK
        go_wp2_with fail
        refine H3.out.mono ?_
        rintro e w3 ⟨rfl, rfl⟩
        by_cases hK0 : K = 0
        · subst hK0
          have H4 := Lib.hid (ps_open P1.out s1)
          go_wp2_with fail
          refine H4.out.mono ?_
          rintro e w4 ⟨rfl, h⟩
          have P4 := Lib.hid h
          have Q4 := Lib.hid (HQ.out.opn (g := g))
          clear h H4
          cases hF : opF l g with
          | true =>
            have e1 : opN l g = 0 := by unfold opN; rw [hF]; rfl
            have e2 : opE l g = 134 := by unfold opE; rw [hF]; rfl
            have e3 := Lib.hid (show opG l g = g by unfold opG; rw [hF]; rfl)
            rw [e1, e2]
            clear e1 e2 hF
            go_wp2_with fail
            refine ⟨⟨j + 1, opL l g, opG l g, by omega, by omega, by rw [Int.natCast_succ], by rw [e3.out], P4.out.mono fun _ _ => trivial, Q4.out⟩, ?_⟩
            simp only [intOf]
            omega
          | false =>
            have e1 : opN l g = g + 1 := by unfold opN; rw [hF]; rfl
            have e2 : opE l g = 0 := by unfold opE; rw [hF]; rfl
            have e3 := Lib.hid (show opG l g = g + 1 by unfold opG; rw [hF]; rfl)
            have hw2 : IntKind.i64.wrap (g + 1) = g + 1 := IntWalk.i64_in _ (by omega)
            rw [e1, e2]
            clear e1 e2 hF
            go_wp2_with fail
            refine ⟨⟨j + 1, opL l g, opG l g, by omega, by omega, by rw [Int.natCast_succ], by rw [e3.out], P4.out.mono fun _ _ => trivial, Q4.out⟩, ?_⟩
            simp only [intOf]
            omega
        · have d0 : (K == 0) = false := beq_eq_false_iff_ne.2 hK0
          by_cases hK1 : K = 1
          · subst hK1
            have H4 := Lib.hid (ps_exp P1.out s1 o.id HO.out.id)
            go_wp2_with fail
            refine H4.out.mono ?_
            rintro e w4 ⟨rfl, h⟩
            have H5 := ps_ask h s1 o.id o.q HO.out.id
            obtain ⟨g1, g2, g3⟩ := ak_gone l o.id o.q
            rw [g1, g2, g3] at H5
            have H5' := Lib.hid H5
            obtain ⟨T4, -, r4, -⟩ := h.fact
            obtain ⟨b0, b1, b2⟩ := cells7S r4
            clear h H5 g1 g2 g3 r4 H4
            go_wp2_with fail
            refine H5'.out.mono ?_
            rintro e w5 ⟨A5, c5, rfl, -, -, h, -⟩
            rw [show repV (Se.new 0).c (Se.new 0).n (Se.new 0).m (.slice A5 (Se.new 0).T c5) = repV 0 0 0 (.slice A5 0 c5) from rfl]
            have P6 := Lib.hid ((h.calm s1 ((Below.refl _ _).alloc (Nat.le_refl _) (.cells #[.int .i64 0, .int .i64 0, .int .i64 0, .slice A5 0 c5] 31))).mono (K' := fun _ _ => True) fun _ _ => trivial)
            have Q6 := Lib.hid (HQ.out.drop o.id)
            clear h H5' b0 b1 b2
            go_wp2_with fail
            refine ⟨⟨j + 1, ssX l o.id, g, by omega, by omega, by rw [Int.natCast_succ], rfl, P6.out, Q6.out⟩, ?_⟩
            simp only [intOf]
            omega
          · have d1 : (K == 1) = false := beq_eq_false_iff_ne.2 hK1
            go_upto_region 11 with fail
            refine flow_seen [([0, 1, 2, 3, 4, 5, 6], 7, false), ([], 8, true)] [9] (by kernel_rfl) (by kernel_rfl) (fun _ _ _ _ _ h => h) fun Z => ?_
            have P2 := Lib.hid (P1.out.calm s1 Z.below)
            have X2 := Lib.hid (onto X1.out X1.out.size Z.below)
            obtain ⟨w2, hw2⟩ : ∃ w2, w2 = Z.val := ⟨_, rfl⟩
            rw [← hw2] at P2 X2 ⊢
            clear hw2 Z
            obtain ⟨T2, -, r2, -⟩ := P2.out.fact
            have H4 := Lib.hid (ps_own P2.out s1 o.c o.n o.m o.T o.e o.A o.f ((HO.out.s.below X2.out).more X2.out.size))
            have cR := fun y : After w2 => After.row r2 y
            have cC := fun y : After w2 => cells7S (After.row r2 y)
            simp only [wpFs, pk, List.getElem?_cons_zero, List.getElem?_cons_succ]
            repeat (go_big_quiet_step (fail))
            refine wpQuiet_nil ?_
            clear cR cC
            go_wp2_with fail
            refine H4.out.mono ?_
            rintro e w4 ⟨A4, c4, rfl, h, -, -, hb⟩
            obtain ⟨N, hN⟩ : ∃ N, N = min o.T 100 := ⟨_, rfl⟩
            have hN100 : N ≤ 100 := by omega
            have HN := Lib.hid hN
            rw [← hN] at h ⊢
            clear hN
            have H5 := Lib.hid (ps_done ⟨o.id, o.q, o.c, o.n, o.m, N, o.f⟩ h s1 HO.out.id (by simp only; omega))
            have X4 := Lib.hid (onto X2.out X2.out.size hb)
            go_wp2_with fail
            refine ⟨.inr hb, ?_⟩
            clear hb h H4 r2
            obtain ⟨X, hX⟩ : ∃ X : Se, X = ⟨o.id, o.q, o.c, o.n, o.m, N, o.f⟩ := ⟨_, rfl⟩
            have HX := Lib.hid hX
            have H5x := H5.out
            rw [← hX] at H5x
            have hXi : X.id = o.id := by rw [hX]
            have hXq : X.q = o.q := by rw [hX]
            obtain ⟨D, hD⟩ : ∃ D, D = dnE l o.id o.q := ⟨_, rfl⟩
            rw [← hD] at H5x
            have HD := Lib.hid hD
            have H5' := Lib.hid H5x
            have HI := Lib.hid (And.intro hXi hXq)
            clear hX hXi hXq hD H5x H5 P2 P1 P
            show wpQuiet _ _ _ _ _ _
            refine wpQuiet_nil ?_
            go_wp2_with fail
            refine H5'.out.mono ?_
            rintro e w5 ⟨rfl, h⟩
            have P5 := Lib.hid (h.mono (K' := fun T y => True ∧ row y wo.heap.size = some (osA o) ∧ T wo.heap.size = 50) fun _ k => k.1)
            have Q5 := Lib.hid (HQ.out.dn X)
            have X5 := Lib.hid (onto B1.out B1.out.size h.bel)
            clear h H5' X4
            go_wp2_with fail
            refine ⟨.inl trivial, ?_⟩
            show wpQuiet _ _ _ _ _ _
            repeat (go_big_quiet_step (fail))
            refine wpQuiet_nil ?_
            by_cases hD0 : D = 0
            · have hh : dnE l X.id X.q = 0 := by rw [HI.out.1, HI.out.2, ← HD.out]; exact hD0
              obtain ⟨k1, k2, k3, k4, k5⟩ := ak_done HQ.out hh
              rw [HI.out.1, HI.out.2] at k1 k2 k3 k4
              obtain ⟨L, hL⟩ : ∃ L, L = dnL l X := ⟨_, rfl⟩
              rw [← hL] at k1 k2 k3 k4 k5 P5 Q5
              subst hD0
              have K45 := Lib.hid (And.intro k4 k5)
              have H6 := ps_ask P5.out s1 o.id o.q HO.out.id
              rw [k1, k2, k3] at H6
              have H6' := Lib.hid H6
              obtain ⟨T5, -, r5, -⟩ := P5.out.fact
              obtain ⟨b0, b1, b2⟩ := cells7S r5
              clear hh k1 k2 k3 k4 k5 hL H6 r5 HD
              go_upto_region 13 with fail
              go_wp2_with fail
              refine H6'.out.mono ?_
              rintro e w6 ⟨A6, c6, rfl, -, hs6, h, hb⟩
              have hXV : repV X.c X.n X.m (.slice A6 X.T c6) = repV o.c o.n o.m (.slice A6 N c6) := by rw [HX.out]
              have hs6 : Sl w6 w6.heap.size A6 N c6 o.f := by rw [HX.out] at hs6; exact hs6
              rw [hXV]
              have bx : Below w6.heap.size w6 (w6.alloc (.cells #[.int .i64 o.c, .int .i64 o.n, .int .i64 o.m, .slice A6 N c6] 31)) := (Below.refl _ _).alloc (Nat.le_refl _) _
              obtain ⟨w7, hw7⟩ : ∃ w7, w7 = w6.alloc (.cells #[.int .i64 o.c, .int .i64 o.n, .int .i64 o.m, .slice A6 N c6] 31) := ⟨_, rfl⟩
              rw [← hw7] at bx
              have P7 := Lib.hid (h.calm s1 bx)
              have X7 := Lib.hid (onto B1.out B1.out.size P7.out.bel)
              have R7 := Lib.hid (show row w7 w6.heap.size = some #[.int .i64 o.c, .int .i64 o.n, .int .i64 o.m, .slice A6 N c6] by rw [hw7]; exact row_alloc_at _ _ _ _ rfl)
              have S7 := Lib.hid ((hs6.below bx).more bx.size)
              clear bx h hb hs6 H6' b0 b1 b2 hXV P5
              go_upto_region 14 with fail
              rw [← hw7]
              clear hw7
              refine flow_seen [([0, 1, 2], 3, false), ([], 4, true)] [5] (by kernel_rfl) (by kernel_rfl) (fun _ _ _ _ _ h => h) fun Z => ?_
              have P8 := Lib.hid (P7.out.calm s1 Z.below)
              have X8 := Lib.hid (onto X7.out X7.out.size Z.below)
              have R8 := Lib.hid (carry Z.below R7.out)
              have S8 := Lib.hid ((S7.out.below Z.below).more Z.below.size)
              obtain ⟨w8, hw8⟩ : ∃ w8, w8 = Z.val := ⟨_, rfl⟩
              rw [← hw8] at P8 X8 R8 S8 ⊢
              clear hw8 Z P7 X7 R7 S7
              obtain ⟨T8, -, r8, -⟩ := P8.out.fact
              have H9 := ps_own P8.out s1 o.c o.n o.m o.T o.e o.A o.f ((HO.out.s.below X8.out).more X8.out.size)
              rw [← HN.out] at H9
              have H9' := Lib.hid H9
              have cR := fun y : After w8 => After.row r8 y
              have cQ := fun y : After w8 => After.row R8.out y
              clear H9
              simp only [wpFs, pk, List.getElem?_cons_zero, List.getElem?_cons_succ]
              repeat (go_big_quiet_step (fail))
              refine wpQuiet_nil ?_
              clear cR cQ
              go_wp2_with fail
              refine H9'.out.mono ?_
              rintro e w9 ⟨A9, c9, rfl, h, -, hs9, hb⟩
              have P9 := Lib.hid (h.mono (K' := fun T y => True ∧ row y wo.heap.size = some (osA o) ∧ T wo.heap.size = 50) fun _ k => k.1)
              have hs8 := (S8.out.below hb).more hb.size
              have H10 := samerep_any o.c o.n o.m o.c o.n o.m N N c6 c9 A6 A9 o.f o.f w9 hs8 hs9
              rw [repS_refl] at H10
              have H10' := Lib.hid H10
              go_wp2_with fail
              refine ⟨.inr hb, ?_⟩
              clear hb h hs9 hs8 H10 H9' R8 S8 P8 r8
              show wpQuiet _ _ _ _ _ _
              refine wpQuiet_nil ?_
              go_wp2_with fail
              refine H10'.out.mono ?_
              rintro e w10 ⟨rfl, hb⟩
              have P10 := Lib.hid (P9.out.calm s1 hb)
              go_wp2_with fail
              refine ⟨.inl trivial, ?_⟩
              clear hb P9 H10'
              show wpQuiet _ _ _ _ _ _
              repeat (go_big_quiet_step (fail))
              refine wpQuiet_nil ?_
              go_upto_region 15 with fail
              refine flow_seen [([0, 1, 2, 3, 4, 5, 6, 7, 8, 9, 10, 11, 12, 13, 14, 15, 16, 17], 18, false), ([], 19, true)] [20, 21] (by kernel_rfl) (by kernel_rfl) (fun _ _ _ _ _ h => h) fun Z => ?_
              have P11 := Lib.hid (P10.out.calm s1 Z.below)
              have X11 := Lib.hid (onto B1.out B1.out.size P11.out.bel)
              obtain ⟨w11, hw11⟩ : ∃ w11, w11 = Z.val := ⟨_, rfl⟩
              rw [← hw11] at P11 X11 ⊢
              clear hw11 Z P10
              obtain ⟨T11, -, r11, -⟩ := P11.out.fact
              have H12 := ps_own P11.out s1 o.c o.n o.m o.T o.e o.A o.f ((HO.out.s.below X11.out).more X11.out.size)
              rw [← HN.out] at H12
              have H12' := Lib.hid H12
              have cR := fun y : After w11 => After.row r11 y
              have cC := fun y : After w11 => cells7S (After.row r11 y)
              clear H12
              simp only [wpFs, pk, List.getElem?_cons_zero, List.getElem?_cons_succ]
              repeat (go_big_quiet_step (fail))
              refine wpQuiet_nil ?_
              clear cR cC
              go_wp2_with fail
              refine H12'.out.mono ?_
              rintro e w12 ⟨A12, c12, rfl, h, -, -, hb⟩
              have H13 := ps_done ⟨o.id, o.q, o.c, o.n, o.m, N, o.f⟩ h s1 HO.out.id (by simp only; omega)
              have k5 : dnL L ⟨o.id, o.q, o.c, o.n, o.m, N, o.f⟩ = L := by
                have := K45.out.2
                rw [HX.out] at this
                exact this
              rw [k5, K45.out.1] at H13
              have H13' := Lib.hid H13
              clear H13 k5
              go_wp2_with fail
              refine ⟨.inr hb, ?_⟩
              clear hb h H12' P11 r11
              show wpQuiet _ _ _ _ _ _
              refine wpQuiet_nil ?_
              go_wp2_with fail
              refine H13'.out.mono ?_
              rintro e w13 ⟨rfl, h⟩
              have P13 := Lib.hid (h.mono (K' := fun _ _ => True) fun _ _ => trivial)
              clear h H13'
              go_wp2_with fail
              refine ⟨.inl trivial, ?_⟩
              show wpQuiet _ _ _ _ _ _
              repeat (go_big_quiet_step (fail))
              refine wpQuiet_nil ?_
              go_wp2_with fail
              refine ⟨⟨j + 1, L, g, by omega, by omega, by rw [Int.natCast_succ], rfl, P13.out, Q5.out⟩, ?_⟩
              simp only [intOf]
              omega
            · have d2 : (D == 0) = false := beq_eq_false_iff_ne.2 hD0
              clear hD0 HD
              go_wp2_with fail
              refine ⟨⟨j + 1, dnL l X, g, by omega, by omega, by rw [Int.natCast_succ], rfl, P5.out.mono fun _ _ => trivial, Q5.out⟩, ?_⟩
              simp only [intOf]
              omega
      · have hd2 : decide ((j : Int) < 100) = false := by simp; omega
        go_wp2_with fail
        go_ret
        exact ⟨rfl, Bo.out⟩
    · have hd : decide ((j : Int) < (l0.length : Int)) = false := by simp; omega
      go_wp2_with fail
      go_ret
      exact ⟨rfl, Bo.out⟩

set_option maxRecDepth 100000 in
theorem lifted (os : Os) (started : os.Started) (H : Type) (enc : TypeId × Value → H) :
    ReturnsInHanded {} Try.checked os 5 .any (Rows.sessionsOnceSpec.pre6 enc Try.prog Try.f5 Rows.sessionsOnceRow.domain false) (Rows.sessionsOnceSpec.post enc Try.prog Try.f5 false true false false) := by
  refine returnsInHanded_of_change_sized (C := Try.checked) own started (by kernel_rfl) Try.func5
    (ChangeSpec.witness6 (enc := enc) (C := Try.checked) false ⟨#[], #[.slice none 0 0], []⟩ 8 (by kernel_rfl) (by kernel_rfl) (by kernel_rfl) (by kernel_rfl)) ?_
  intro W base args ds gs before hval0 hW hcnd hsz0 _
  have hval : ∀ (j : Nat) t v, Try.f5.params[j]? = some t → args[j]? = some v → Value.okWide Try.prog W .any base t v := hval0
  have hW' := hW
  obtain ⟨p, q, hA0, hV, rfl, hfz, hnd⟩ := hW
  have hA : DataW.TrodAll enc Try.prog W 0 (fun _ => true) true Try.f5.params.toList args.toList ds p := hA0
  rw [Try.params5] at hA hval
  have hsz : (DataW.weightsEach Try.prog (Try.f5.params.toList ++ Rows.sessionsOnceSpec.plain.varTypes Try.prog) (ds ++ gs)).all (· ≤ reachBytes) = true := hsz0
  rw [Try.params5] at hsz
  clear hsz0
  obtain ⟨v0, vs0, d0, ds0, p0, q0, hargs, rfl, rfl, h0, r0⟩ := trodAll_cons hA
  obtain ⟨rfl, rfl, rfl⟩ := trodAll_nil r0
  obtain rfl : args = #[v0] := by cases args; simp_all
  obtain ⟨rfl, rfl⟩ := trodVars_none hV
  have k0 := h0
  have lt0 : ∀ x ∈ p0, x.block < W.heap.size := by obtain ⟨m, hm⟩ := k0; exact DataW.trod_lt m _ _ _ hm
  obtain ⟨l0, hl0⟩ := open_opsS (hval 0 22 v0 rfl rfl) h0 hsz (j := 0) rfl rfl
  clear hA0 hval0
  refine (walk v0 l0 W hl0).mono fun e W' ⟨he, bel⟩ => ?_
  subst he
  exact ⟨_, rfl, _, _, _, [], _, [], hW', trodAll_mk1 (shut_bool Try.underlying4 _), (trodAll_cons_mk (Below.trod laidOut (by kernel_rfl) (of_decide_eq_true (by kernel_rfl)) k0 bel lt0) trodAll_mk0), rfl, bel.frame _, fun h => by cases h⟩

theorem over : Rows.sessionsOnceRow.holds Try.pinned (OpenSpec.ofChange Rows.sessionsOnceSpec) :=
  OpenClaim.holds_of_wide 5 Try.f5 rfl rfl rfl rfl rfl rfl rfl ⟨rfl, rfl, rfl, rfl, rfl⟩ rfl rfl rfl rfl rfl (by kernel_rfl) Try.func5 (by kernel_rfl)
    (of_decide_eq_true (by kernel_rfl)) (by unfold Func.isWrapper; first | (rw [if_pos (by decide +kernel)]; kernel_rfl) | (rw [if_neg (by decide +kernel)]; exact ⟨rfl, rfl⟩))
    (fun os started H enc _ => lifted os started H enc)

theorem proved : Rows.SessionsOnceSaid := over
#print axioms proved
end Go.Proofs.Ythokiohdeclmhaa.sessionsOnce
