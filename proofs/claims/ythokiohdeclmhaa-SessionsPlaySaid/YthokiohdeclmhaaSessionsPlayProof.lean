/- The statement SessionsPlay: the law strongroomlaw15.SessionsPlay answers true for every input, and leaves its arguments as they were. No further condition. -/
import Derived.Test.YthokiohdeclmhaaRows
import Derived.Test.YthokiohdeclmhaaLib
import Derived.Test.YthokiohdeclmhaaSsX
import Derived.Deep.DeepCutAuto
import Derived.Deep.CutBlock
namespace Go.Proofs.Ythokiohdeclmhaa.sessionsPlay
open Go.ChangeShapes Go.WideShapes Go.ChangeAt Go.RowKit
open Go.Proofs.Ythokiohdeclmhaa.Oct
set_option linter.unusedVariables false

theorem own : ownKnob Try.prog.godebug = none := by kernel_rfl
theorem laidOut : laidOutB Try.prog = true := by kernel_rfl

/-- worlds in which two variables are as they are -/
structure Rw15 (Z Z2 : Nat) (c c2 : Array Value) where
  val : World
  r1 : row val Z = some c
  r2 : row val Z2 = some c2
theorem rp_b5 (w : World) : (Instr.build 31 #[(1, .int .i64 5)]).run Try.prog w = .ok (repV 0 5 0 (.slice none 0 0)) w := by kernel_rfl
set_option maxRecDepth 20000 in
set_option maxHeartbeats 16000000 in
theorem walk (v0 : Value) (l0 : List OpS) (w : World) (hl0 : InS 7 osE w v0 l0) :
    Calls Try.prog 3 #[v0] w fun e w' => e = .returned (.bool true) ∧ Below w.heap.size w w' := by
  have HL := Lib.hid hl0
  obtain ⟨A0, c0, rfl, hle0, hcm0, -⟩ := hl0.at_
  have s0 := Sto.triv
  clear hl0
  go_enter Try.func3, Try.ntmps3
  go_wp2_with fail
  refine (shown15_any w).mono ?_
  rintro e w1 ⟨rfl, hb⟩
  have B1 := Lib.hid hb
  have H2 := Lib.hid (snew_any (fun _ => 50) 1 w1)
  clear hb
  go_wp2_with fail
  refine H2.out.mono ?_
  rintro e w2 ⟨Bi, rfl, hp, hb⟩
  have Q2 := Lib.hid hp
  have F2 := Lib.hid (Fr.new (T := fun _ => 50) (H := fun c => 0 < c ∧ c ≠ 50) hb 1)
  obtain ⟨T2, hT2⟩ : ∃ T2, T2 = paint (fun _ => 50) w1.heap.size 1 := ⟨_, rfl⟩
  rw [← hT2] at Q2 F2
  have H3 := Lib.hid (rnew15_any T2 60 w2)
  clear hp hb H2 hT2
  go_wp2_with fail
  refine H3.out.mono ?_
  rintro e w3 ⟨B', rfl, hy, hb⟩
  have P3 := Lib.hid (show PZ (fun _ _ => True) w1 w3 Bi B' [] [] 0 0 from ⟨_, none, none, 0, F2.out.trans (Fr.new hb 60), Q2.out.fr (Fr.new (H := fun _ => False) hb 60) (fun h => h) (fun h => h) (fun h => h), hy, SsOk.nil, SsOk.nil, trivial⟩)
  clear hy hb H3 F2 Q2
  go_wp2_with fail
  go_loopw [4, 6] (fun tv iv wr => ∃ (j : Nat) (B : Nat) (l : List Se) (g : Int), j ≤ l0.length ∧ j ≤ 100 ∧ iv = .int .i64 (j : Int) ∧ tv = .pointer (some ⟨B, 0, none⟩) ∧ PZ (fun _ _ => True) w1 wr B B' l l g g) (fun _ iv _ => 100 - (intOf iv).toNat)
  case atStart => exact ⟨0, Bi, [], 0, by omega, by omega, rfl, rfl, P3.out⟩
  case round =>
    clear P3
    obtain ⟨j, B, l, g, hj, hj1, rfl, rfl, hp⟩ := hrel
    obtain ⟨wo, rfl⟩ : ∃ wo : World, wo = wr := ⟨_, rfl⟩
    have P := Lib.hid hp
    have Bo := Lib.hid (onto B1.out B1.out.size hp.bel)
    clear hp
    by_cases hlt : j < l0.length
    · have hd : decide ((j : Int) < (l0.length : Int)) = true := by simp; omega
      by_cases h100 : j < 100
      · have hd2 : decide ((j : Int) < 100) = true := by simp; omega
        obtain ⟨gk, ok, c, ev, hlc, hldr, how⟩ := ops_at HL.out Bo.out hlt
        cases ev
        obtain ⟨o, ho⟩ : ∃ o, o = l0[j] := ⟨_, rfl⟩
        rw [← ho] at hldr how
        have HO := Lib.hid how
        have hw : IntKind.i64.wrap ((j : Int) + 1) = (j : Int) + 1 := IntWalk.i64_in _ (by omega)
        have bx := (Below.refl wo.heap.size wo).alloc (Nat.le_refl _) (.cells (osA o) 33)
        have P1 := Lib.hid ((P.out.add s0.stz bx 50 (by omega) (K' := fun T y => row y wo.heap.size = some (osA o) ∧ T wo.heap.size = 50) fun T => ⟨row_alloc_at _ _ _ _ rfl, paint_new (Nat.le_refl _)⟩).mono (K' := fun T y => row y wo.heap.size = some (osA o) ∧ T wo.heap.size = 50) fun _ k => k.2)
        obtain ⟨Z, hZ⟩ : ∃ Z, Z = wo.heap.size := ⟨_, rfl⟩
        obtain ⟨x1, hx1⟩ : ∃ x1, x1 = wo.alloc (.cells (osA o) 33) := ⟨_, rfl⟩
        rw [← hx1] at bx P1
        rw [← hZ] at P1
        have s1 := Sto.row Z (osA o)
        have X1 := Lib.hid (onto Bo.out Bo.out.size bx)
        have HZ := Lib.hid hZ
        clear ho how bx P hZ
        go_upto_region 10 with fail
        rw [← hx1, ← HZ.out]
        clear hx1 hldr
        obtain ⟨T1, r1, -⟩ := P1.out.fact
        obtain ⟨a0, a1, a2⟩ := cells7S r1
        have H3 := Lib.hid (kindS_any o.k 8 HO.out.k (by omega) x1)
        obtain ⟨hk0, hk1⟩ := kdS_nn o.k 8 (by omega)
        obtain ⟨q, hq⟩ : ∃ q, q = kdS o.k 8 := ⟨_, rfl⟩
        rw [← hq] at H3 hk0 hk1
        have hcase : q = 0 ∨ q = 1 ∨ q = 2 ∨ q = 3 ∨ q = 4 ∨ q = 5 ∨ q = 6 ∨ q = 7 := by omega
        clear hq hk0 hk1 r1
        go_wp2_with fail
        refine H3.out.mono ?_
        rintro e w4 ⟨rfl, rfl⟩
        clear H3
        go_upto_block 2 with fail
        go_cut [4, 8, 9, 10, 11, 12, 13, 14, 15, 16, 17, 18, 19, 20, 21, 22] from 53 to 181 (fun x4 x8 x9 x10 x11 x12 x13 x14 x15 x16 x17 x18 x19 x20 x21 x22 wx => ∃ (B : Nat) (l : List Se) (g : Int), x4 = .pointer (some ⟨B, 0, none⟩) ∧ PZ (fun _ _ => True) w1 wx B B' l l g g)
        case first =>
          rcases hcase with rfl | rfl | rfl | rfl | rfl | rfl | rfl | rfl
          · as_aux_lemma => -- Open
            go_wp2_with fail
            refine (pz_open P1.out s1.stz).mono ?_
            rintro e w5 ⟨rfl, h⟩
            have P5 := Lib.hid h
            obtain ⟨N, hN⟩ : ∃ N, N = opN l g := ⟨_, rfl⟩
            obtain ⟨E, hE⟩ : ∃ E, E = opE l g := ⟨_, rfl⟩
            rw [← hN, ← hE]
            have HN := Lib.hid hN
            have HE := Lib.hid hE
            clear h hN hE a0 a1 a2
            go_wp2_with fail
            refine (rz_open P5.out s1.stz).mono ?_
            rintro e w6 ⟨rfl, h⟩
            rw [← HN.out, ← HE.out]
            have P6 := Lib.hid (h.mono (K' := fun _ _ => True) fun _ _ => trivial)
            have n1 : (N != N) = false := by simp
            have n2 : (E != E) = false := by simp
            clear h P5
            go_wp2_with fail
            go_meet
            exact ⟨B, _, _, rfl, P6.out⟩
          · as_aux_lemma => -- Open
            go_wp2_with fail
            refine (pz_open P1.out s1.stz).mono ?_
            rintro e w5 ⟨rfl, h⟩
            have P5 := Lib.hid h
            obtain ⟨N, hN⟩ : ∃ N, N = opN l g := ⟨_, rfl⟩
            obtain ⟨E, hE⟩ : ∃ E, E = opE l g := ⟨_, rfl⟩
            rw [← hN, ← hE]
            have HN := Lib.hid hN
            have HE := Lib.hid hE
            clear h hN hE a0 a1 a2
            go_wp2_with fail
            refine (rz_open P5.out s1.stz).mono ?_
            rintro e w6 ⟨rfl, h⟩
            rw [← HN.out, ← HE.out]
            have P6 := Lib.hid (h.mono (K' := fun _ _ => True) fun _ _ => trivial)
            have n1 : (N != N) = false := by simp
            have n2 : (E != E) = false := by simp
            clear h P5
            go_wp2_with fail
            go_meet
            exact ⟨B, _, _, rfl, P6.out⟩
          · as_aux_lemma => -- Expire
            go_wp2_with fail
            clear a0 a1 a2
            refine flow_region [([0, 1, 2, 4, 5, 6], 3, false), ([], 7, false)] [8] (fun w' => ∃ x : Rw15 Z Z (osA o) (osA o), w' = x.val) (by kernel_rfl) (by kernel_rfl) (fun _ _ _ _ _ h => h) ⟨⟨x1.drewN 1, by obtain ⟨T, r, -⟩ := P1.out.fact; rw [row_drewN]; exact r, by obtain ⟨T, r, -⟩ := P1.out.fact; rw [row_drewN]; exact r⟩, rfl⟩ ?_
            have P2 := Lib.hid (P1.out.calm s1.stz (below_drewN (Below.refl _ _) 1))
            obtain ⟨w5, hw5⟩ : ∃ w5, w5 = x1.drewN 1 := ⟨_, rfl⟩
            rw [← hw5] at P2 ⊢
            clear hw5 P1
            obtain ⟨T5, r5, -⟩ := P2.out.fact
            have hne : Nonempty (Rw15 Z Z (osA o) (osA o)) := ⟨⟨w5, r5, r5⟩⟩
            have k1 : ∀ x : Rw15 Z Z (osA o) (osA o), x.val.cell? ⟨Z, 1, none⟩ = some (.int .i64 o.id) := fun x => (cells7S x.r1).2.1
            have H6 := Lib.hid (pz_exp P2.out s1.stz o.id HO.out.id)
            simp only [wpFl, pk, List.getElem?_cons_zero, List.getElem?_cons_succ]
            repeat (go_big_quiet_step (fail))
            refine wpQuiet_nil ?_
            clear k1 r5
            go_wp2_with fail
            refine H6.out.mono ?_
            rintro e w6 ⟨rfl, h⟩
            obtain ⟨T6, r6, -⟩ := h.fact
            have P6 := Lib.hid h
            obtain ⟨E, hE⟩ : ∃ E, E = exE l o.id := ⟨_, rfl⟩
            rw [← hE]
            have HE := Lib.hid hE
            clear h hE H6 P2
            go_wp2_with fail
            refine ⟨_, ⟨⟨w6, r6, r6⟩, rfl⟩, .inr ⟨⟨⟨w6, r6, r6⟩, rfl⟩, fun _ h => h⟩, ?_⟩
            have H7 := Lib.hid (rz_exp P6.out s1.stz o.id HO.out.id)
            show wpQuiet _ _ _ _ _ _
            refine wpQuiet_nil ?_
            go_wp2_with fail
            refine H7.out.mono ?_
            rintro e w7 ⟨rfl, h⟩
            rw [← HE.out]
            obtain ⟨T7, r7, -⟩ := h.fact
            have P7 := Lib.hid (h.mono (K' := fun _ _ => True) fun _ _ => trivial)
            have n2 : (E != E) = false := by simp
            clear h H7 P6 r6
            go_wp2_with fail
            refine ⟨_, ⟨⟨w7, r7, r7⟩, rfl⟩, .inr ⟨⟨⟨w7, r7, r7⟩, rfl⟩, fun _ h => h⟩, ?_⟩
            show wpQuiet _ _ _ _ _ _
            repeat (go_big_quiet_step (fail))
            refine wpQuiet_nil ?_
            go_wp2_with fail
            go_meet
            exact ⟨B, _, _, rfl, P7.out⟩
          · as_aux_lemma => -- Ask
            have H5 := Lib.hid (pz_ask P1.out s1.stz o.id o.q HO.out.id)
            go_wp2_with fail
            refine H5.out.mono ?_
            rintro e w5 ⟨A5, c5, rfl, hs, h, hb⟩
            obtain ⟨S, hS⟩ : ∃ S, S = akS l o.id o.q := ⟨_, rfl⟩
            obtain ⟨b, hbb⟩ : ∃ b, b = akB l o.id o.q := ⟨_, rfl⟩
            obtain ⟨E, hE⟩ : ∃ E, E = akE l o.id o.q := ⟨_, rfl⟩
            rw [← hS] at hs h ⊢
            rw [← hbb, ← hE]
            have HS := Lib.hid (And.intro hS (And.intro hbb hE))
            have hST : S.T ≤ 140737488355328 := by
              rw [hS]
              unfold akS
              cases hG : ssG l o.id with
              | none => exact Nat.zero_le _
              | some s =>
                show (if _ then s else Se.new 0).T ≤ _
                split
                · exact P1.out.ok.1.t s (ssG_some hG).1
                · exact Nat.zero_le _
            clear hS hbb hE H5
            obtain ⟨zc, hzc⟩ : ∃ zc, zc = S.c := ⟨_, rfl⟩
            obtain ⟨zn, hzn⟩ : ∃ zn, zn = S.n := ⟨_, rfl⟩
            obtain ⟨zm, hzm⟩ : ∃ zm, zm = S.m := ⟨_, rfl⟩
            obtain ⟨N, hN⟩ : ∃ N, N = S.T := ⟨_, rfl⟩
            rw [← hN] at hs h hST
            rw [← hzc, ← hzn, ← hzm, ← hN]
            have HV := Lib.hid (And.intro hzc (And.intro hzn (And.intro hzm hN)))
            have bx : Below w5.heap.size w5 (w5.alloc (.cells #[.int .i64 zc, .int .i64 zn, .int .i64 zm, .slice A5 N c5] 31)) := (Below.refl _ _).alloc (Nat.le_refl _) _
            have P6 := Lib.hid (h.add (s1.stz.and (Stz.wr 51 A5 N (by omega))) bx 50 (by omega) (K' := fun T y => row y w5.heap.size = some #[.int .i64 zc, .int .i64 zn, .int .i64 zm, .slice A5 N c5] ∧ T w5.heap.size = 50) fun T => ⟨row_alloc_at _ _ _ _ rfl, paint_new (Nat.le_refl _)⟩)
            obtain ⟨w6, hw6⟩ : ∃ w6, w6 = w5.alloc (.cells #[.int .i64 zc, .int .i64 zn, .int .i64 zm, .slice A5 N c5] 31) := ⟨_, rfl⟩
            rw [← hw6] at P6 bx
            have S6 := Lib.hid ((hs.below bx).more bx.size)
            obtain ⟨Z2, hZ2⟩ : ∃ Z2, Z2 = w5.heap.size := ⟨_, rfl⟩
            rw [← hZ2] at P6
            have HZ2 := Lib.hid hZ2
            have HCAP := Lib.hid S6.out.le
            clear hs h hb hzc hzn hzm hN bx hZ2 a0 a1 a2
            go_upto_region 23 with fail
            rw [← hw6, ← HZ2.out]
            clear hw6
            obtain ⟨T6, ⟨⟨r6, -⟩, -⟩, -⟩ := P6.out.fact
            obtain ⟨a0, a1, a2⟩ := cells7S r6
            have K6 : Stz fun T y => ((row y Z = some (osA o) ∧ T Z = 50) ∧ WrB 51 A5 N T y) ∧ (row y Z2 = some #[.int .i64 zc, .int .i64 zn, .int .i64 zm, .slice A5 N c5] ∧ T Z2 = 50) := (s1.stz.and (Stz.wr 51 A5 N (by omega))).and (Sto.row Z2 _).stz
            have H7 := Lib.hid (rz_ask P6.out K6 o.id o.q HO.out.id)
            clear r6
            go_wp2_with fail
            refine H7.out.mono ?_
            rintro e w7 ⟨A7, c7, rfl, hs, h, hb⟩
            rw [← HS.out.1] at hs ⊢
            rw [← HS.out.2.1, ← HS.out.2.2, ← HV.out.1, ← HV.out.2.1, ← HV.out.2.2.1, ← HV.out.2.2.2]
            rw [← HV.out.2.2.2] at hs
            have S7 := (S6.out.below hb).more hb.size
            have bx : Below w7.heap.size w7 (w7.alloc (.cells #[.int .i64 zc, .int .i64 zn, .int .i64 zm, .slice A7 N c7] 31)) := (Below.refl _ _).alloc (Nat.le_refl _) _
            have R8 := Lib.hid (show row (w7.alloc (.cells #[.int .i64 zc, .int .i64 zn, .int .i64 zm, .slice A7 N c7] 31)) w7.heap.size = some #[.int .i64 zc, .int .i64 zn, .int .i64 zm, .slice A7 N c7] from row_alloc_at _ _ _ _ rfl)
            obtain ⟨w8, hw8⟩ : ∃ w8, w8 = w7.alloc (.cells #[.int .i64 zc, .int .i64 zn, .int .i64 zm, .slice A7 N c7] 31) := ⟨_, rfl⟩
            rw [← hw8] at R8 bx
            have P8 := Lib.hid (h.calm K6 bx)
            have H9 := samerep_any zc zn zm zc zn zm N N c5 c7 A5 A7 S.f S.f w8 ((S7.below bx).more bx.size) ((hs.below bx).more bx.size)
            rw [repS_refl] at H9
            have H9' := Lib.hid H9
            clear hs h hb S7 bx H9 H7 P6 S6 a0 a1 a2
            go_upto_region 24 with fail
            rw [← hw8]
            clear hw8
            obtain ⟨T8, -, r8, -⟩ := P8.out.fact
            have r8b := R8.out
            go_wp2_with fail
            refine H9'.out.mono ?_
            rintro e w9 ⟨rfl, hb⟩
            have P9 := Lib.hid ((P8.out.calm K6 hb).mono (K' := fun T y => (row y Z2 = some #[.int .i64 zc, .int .i64 zn, .int .i64 zm, .slice A5 N c5] ∧ T Z2 = 50) ∧ WrB 51 A5 N T y) fun _ k => ⟨k.2, k.1.2⟩)
            have n1 : (b != b) = false := by simp
            have n2 : (E != E) = false := by simp
            clear hb H9' P8 R8 r8 r8b K6
            go_wp2_with fail
            go_loopw [19] (fun iv wr => ∃ k : Nat, k ≤ N ∧ iv = .int .i64 (k : Int) ∧ PZ (fun T y => (row y Z2 = some #[.int .i64 zc, .int .i64 zn, .int .i64 zm, .slice A5 N c5] ∧ T Z2 = 50) ∧ WrB 51 A5 N T y) w1 wr B B' l l g g) (fun iv _ => N - (intOf iv).toNat)
            case atStart => exact ⟨0, by omega, rfl, P9.out⟩
            case round =>
              clear P9
              obtain ⟨k, hk, rfl, hp⟩ := hrel
              obtain ⟨wv, rfl⟩ : ∃ wv : World, wv = wr := ⟨_, rfl⟩
              have PP := Lib.hid hp
              clear hp
              obtain ⟨TT, ⟨rr, -⟩, hwb⟩ := PP.out.fact
              have cc := (cells4 rr).2.2.2
              by_cases hlt2 : k < N
              · have hd3 : decide ((k : Int) < ((N : Nat) : Int)) = true := by simp; omega
                have hw3 : IntKind.i64.wrap ((k : Int) + 1) = (k : Int) + 1 := IntWalk.i64_in _ (by omega)
                obtain ⟨gg, og, cur, hA, hr, hsz, -⟩ := hwb (by omega)
                have HA := Lib.hid hA
                have hc : wv.cell? ⟨gg, og + k, none⟩ = some (cur[og + k]'(by omega)) := by rw [cell_row hr]; exact Array.getElem?_eq_getElem (by omega)
                have hf := froz_row hr (og + k)
                have HR := Lib.hid hr
                rw [hA] at cc
                have hcap : N ≤ c5 := HCAP.out
                clear hr hwb rr hA
                go_wp2_with fail
                rw [setCell_row HR.out]
                refine ⟨⟨k + 1, by omega, by rw [Int.natCast_succ], PP.out.over (Sto.row Z2 #[.int .i64 zc, .int .i64 zn, .int .i64 zm, .slice A5 N c5]) (by omega : 50 < 51 ∧ 51 < 60) _ (fun T hT => ?_) (fun T hT hb hn => ?_)⟩, ?_⟩
                · obtain ⟨g2, o2, c2, e2, r2, -, t2⟩ := hT.2 (by omega)
                  rw [HA.out] at e2
                  cases e2
                  exact t2
                · exact ⟨gg, og, _, HA.out, row_setRow HR.out _, by rw [Array.size_setIfInBounds]; exact hsz, hb⟩
                · simp only [intOf]
                  omega
              · obtain rfl : k = N := by omega
                have hd3 : decide (((k : Nat) : Int) < ((k : Nat) : Int)) = false := by simp
                clear hwb rr
                go_wp2_with fail
                go_meet
                exact ⟨B, _, _, rfl, PP.out.mono fun _ _ => trivial⟩
          · as_aux_lemma => -- Ask
            have H5 := Lib.hid (pz_ask P1.out s1.stz o.id o.q HO.out.id)
            go_wp2_with fail
            refine H5.out.mono ?_
            rintro e w5 ⟨A5, c5, rfl, hs, h, hb⟩
            obtain ⟨S, hS⟩ : ∃ S, S = akS l o.id o.q := ⟨_, rfl⟩
            obtain ⟨b, hbb⟩ : ∃ b, b = akB l o.id o.q := ⟨_, rfl⟩
            obtain ⟨E, hE⟩ : ∃ E, E = akE l o.id o.q := ⟨_, rfl⟩
            rw [← hS] at hs h ⊢
            rw [← hbb, ← hE]
            have HS := Lib.hid (And.intro hS (And.intro hbb hE))
            have hST : S.T ≤ 140737488355328 := by
              rw [hS]
              unfold akS
              cases hG : ssG l o.id with
              | none => exact Nat.zero_le _
              | some s =>
                show (if _ then s else Se.new 0).T ≤ _
                split
                · exact P1.out.ok.1.t s (ssG_some hG).1
                · exact Nat.zero_le _
            clear hS hbb hE H5
            obtain ⟨zc, hzc⟩ : ∃ zc, zc = S.c := ⟨_, rfl⟩
            obtain ⟨zn, hzn⟩ : ∃ zn, zn = S.n := ⟨_, rfl⟩
            obtain ⟨zm, hzm⟩ : ∃ zm, zm = S.m := ⟨_, rfl⟩
            obtain ⟨N, hN⟩ : ∃ N, N = S.T := ⟨_, rfl⟩
            rw [← hN] at hs h hST
            rw [← hzc, ← hzn, ← hzm, ← hN]
            have HV := Lib.hid (And.intro hzc (And.intro hzn (And.intro hzm hN)))
            have bx : Below w5.heap.size w5 (w5.alloc (.cells #[.int .i64 zc, .int .i64 zn, .int .i64 zm, .slice A5 N c5] 31)) := (Below.refl _ _).alloc (Nat.le_refl _) _
            have P6 := Lib.hid (h.add (s1.stz.and (Stz.wr 51 A5 N (by omega))) bx 50 (by omega) (K' := fun T y => row y w5.heap.size = some #[.int .i64 zc, .int .i64 zn, .int .i64 zm, .slice A5 N c5] ∧ T w5.heap.size = 50) fun T => ⟨row_alloc_at _ _ _ _ rfl, paint_new (Nat.le_refl _)⟩)
            obtain ⟨w6, hw6⟩ : ∃ w6, w6 = w5.alloc (.cells #[.int .i64 zc, .int .i64 zn, .int .i64 zm, .slice A5 N c5] 31) := ⟨_, rfl⟩
            rw [← hw6] at P6 bx
            have S6 := Lib.hid ((hs.below bx).more bx.size)
            obtain ⟨Z2, hZ2⟩ : ∃ Z2, Z2 = w5.heap.size := ⟨_, rfl⟩
            rw [← hZ2] at P6
            have HZ2 := Lib.hid hZ2
            have HCAP := Lib.hid S6.out.le
            clear hs h hb hzc hzn hzm hN bx hZ2 a0 a1 a2
            go_upto_region 23 with fail
            rw [← hw6, ← HZ2.out]
            clear hw6
            obtain ⟨T6, ⟨⟨r6, -⟩, -⟩, -⟩ := P6.out.fact
            obtain ⟨a0, a1, a2⟩ := cells7S r6
            have K6 : Stz fun T y => ((row y Z = some (osA o) ∧ T Z = 50) ∧ WrB 51 A5 N T y) ∧ (row y Z2 = some #[.int .i64 zc, .int .i64 zn, .int .i64 zm, .slice A5 N c5] ∧ T Z2 = 50) := (s1.stz.and (Stz.wr 51 A5 N (by omega))).and (Sto.row Z2 _).stz
            have H7 := Lib.hid (rz_ask P6.out K6 o.id o.q HO.out.id)
            clear r6
            go_wp2_with fail
            refine H7.out.mono ?_
            rintro e w7 ⟨A7, c7, rfl, hs, h, hb⟩
            rw [← HS.out.1] at hs ⊢
            rw [← HS.out.2.1, ← HS.out.2.2, ← HV.out.1, ← HV.out.2.1, ← HV.out.2.2.1, ← HV.out.2.2.2]
            rw [← HV.out.2.2.2] at hs
            have S7 := (S6.out.below hb).more hb.size
            have bx : Below w7.heap.size w7 (w7.alloc (.cells #[.int .i64 zc, .int .i64 zn, .int .i64 zm, .slice A7 N c7] 31)) := (Below.refl _ _).alloc (Nat.le_refl _) _
            have R8 := Lib.hid (show row (w7.alloc (.cells #[.int .i64 zc, .int .i64 zn, .int .i64 zm, .slice A7 N c7] 31)) w7.heap.size = some #[.int .i64 zc, .int .i64 zn, .int .i64 zm, .slice A7 N c7] from row_alloc_at _ _ _ _ rfl)
            obtain ⟨w8, hw8⟩ : ∃ w8, w8 = w7.alloc (.cells #[.int .i64 zc, .int .i64 zn, .int .i64 zm, .slice A7 N c7] 31) := ⟨_, rfl⟩
            rw [← hw8] at R8 bx
            have P8 := Lib.hid (h.calm K6 bx)
            have H9 := samerep_any zc zn zm zc zn zm N N c5 c7 A5 A7 S.f S.f w8 ((S7.below bx).more bx.size) ((hs.below bx).more bx.size)
            rw [repS_refl] at H9
            have H9' := Lib.hid H9
            clear hs h hb S7 bx H9 H7 P6 S6 a0 a1 a2
            go_upto_region 24 with fail
            rw [← hw8]
            clear hw8
            obtain ⟨T8, -, r8, -⟩ := P8.out.fact
            have r8b := R8.out
            go_wp2_with fail
            refine H9'.out.mono ?_
            rintro e w9 ⟨rfl, hb⟩
            have P9 := Lib.hid ((P8.out.calm K6 hb).mono (K' := fun T y => (row y Z2 = some #[.int .i64 zc, .int .i64 zn, .int .i64 zm, .slice A5 N c5] ∧ T Z2 = 50) ∧ WrB 51 A5 N T y) fun _ k => ⟨k.2, k.1.2⟩)
            have n1 : (b != b) = false := by simp
            have n2 : (E != E) = false := by simp
            clear hb H9' P8 R8 r8 r8b K6
            go_wp2_with fail
            go_loopw [19] (fun iv wr => ∃ k : Nat, k ≤ N ∧ iv = .int .i64 (k : Int) ∧ PZ (fun T y => (row y Z2 = some #[.int .i64 zc, .int .i64 zn, .int .i64 zm, .slice A5 N c5] ∧ T Z2 = 50) ∧ WrB 51 A5 N T y) w1 wr B B' l l g g) (fun iv _ => N - (intOf iv).toNat)
            case atStart => exact ⟨0, by omega, rfl, P9.out⟩
            case round =>
              clear P9
              obtain ⟨k, hk, rfl, hp⟩ := hrel
              obtain ⟨wv, rfl⟩ : ∃ wv : World, wv = wr := ⟨_, rfl⟩
              have PP := Lib.hid hp
              clear hp
              obtain ⟨TT, ⟨rr, -⟩, hwb⟩ := PP.out.fact
              have cc := (cells4 rr).2.2.2
              by_cases hlt2 : k < N
              · have hd3 : decide ((k : Int) < ((N : Nat) : Int)) = true := by simp; omega
                have hw3 : IntKind.i64.wrap ((k : Int) + 1) = (k : Int) + 1 := IntWalk.i64_in _ (by omega)
                obtain ⟨gg, og, cur, hA, hr, hsz, -⟩ := hwb (by omega)
                have HA := Lib.hid hA
                have hc : wv.cell? ⟨gg, og + k, none⟩ = some (cur[og + k]'(by omega)) := by rw [cell_row hr]; exact Array.getElem?_eq_getElem (by omega)
                have hf := froz_row hr (og + k)
                have HR := Lib.hid hr
                rw [hA] at cc
                have hcap : N ≤ c5 := HCAP.out
                clear hr hwb rr hA
                go_wp2_with fail
                rw [setCell_row HR.out]
                refine ⟨⟨k + 1, by omega, by rw [Int.natCast_succ], PP.out.over (Sto.row Z2 #[.int .i64 zc, .int .i64 zn, .int .i64 zm, .slice A5 N c5]) (by omega : 50 < 51 ∧ 51 < 60) _ (fun T hT => ?_) (fun T hT hb hn => ?_)⟩, ?_⟩
                · obtain ⟨g2, o2, c2, e2, r2, -, t2⟩ := hT.2 (by omega)
                  rw [HA.out] at e2
                  cases e2
                  exact t2
                · exact ⟨gg, og, _, HA.out, row_setRow HR.out _, by rw [Array.size_setIfInBounds]; exact hsz, hb⟩
                · simp only [intOf]
                  omega
              · obtain rfl : k = N := by omega
                have hd3 : decide (((k : Nat) : Int) < ((k : Nat) : Int)) = false := by simp
                clear hwb rr
                go_wp2_with fail
                go_meet
                exact ⟨B, _, _, rfl, PP.out.mono fun _ _ => trivial⟩
          · as_aux_lemma => -- Done
            have X4 := X1
            obtain ⟨T0, r0, -⟩ := P1.out.fact
            have H5 := pz_own P1.out s1.stz 52 (by omega) o.c o.n o.m o.T o.e o.A o.f ((HO.out.s.below X1.out).more X1.out.size)
            obtain ⟨N, hN⟩ : ∃ N, N = min o.T 100 := ⟨_, rfl⟩
            have hN100 : N ≤ 100 := by omega
            rw [← hN] at H5
            have HN := Lib.hid hN
            have H5' := Lib.hid H5
            clear hN H5
            go_wp2_with fail
            refine H5'.out.mono ?_
            rintro e w5 ⟨A5, c5, rfl, h, hb⟩
            have bx : Below w5.heap.size w5 (w5.alloc (.cells #[.int .i64 o.c, .int .i64 o.n, .int .i64 o.m, .slice A5 N c5] 31)) := (Below.refl _ _).alloc (Nat.le_refl _) _
            have P6 := Lib.hid ((h.mono (K' := fun T y => (row y Z = some (osA o) ∧ T Z = 50) ∧ RdS T y 52 A5 N c5 o.f ∧ WrB 52 A5 N T y) fun _ k => k).add (s1.stz.and ((Stz.rd 52 A5 N c5 o.f (by omega)).and (Stz.wr 52 A5 N (by omega)))) bx 50 (by omega) (K' := fun T y => row y w5.heap.size = some #[.int .i64 o.c, .int .i64 o.n, .int .i64 o.m, .slice A5 N c5] ∧ T w5.heap.size = 50) fun T => ⟨row_alloc_at _ _ _ _ rfl, paint_new (Nat.le_refl _)⟩)
            have X6 := Lib.hid (onto X1.out X1.out.size (onto (Below.refl x1.heap.size x1) (Nat.le_refl _) (onto hb hb.size bx)))
            obtain ⟨w6, hw6⟩ : ∃ w6, w6 = w5.alloc (.cells #[.int .i64 o.c, .int .i64 o.n, .int .i64 o.m, .slice A5 N c5] 31) := ⟨_, rfl⟩
            rw [← hw6] at P6 X6
            obtain ⟨Z2, hZ2⟩ : ∃ Z2, Z2 = w5.heap.size := ⟨_, rfl⟩
            rw [← hZ2] at P6
            have HZ2 := Lib.hid hZ2
            have K6 : Stz fun T y => ((row y Z = some (osA o) ∧ T Z = 50) ∧ RdS T y 52 A5 N c5 o.f ∧ WrB 52 A5 N T y) ∧ (row y Z2 = some #[.int .i64 o.c, .int .i64 o.n, .int .i64 o.m, .slice A5 N c5] ∧ T Z2 = 50) := (s1.stz.and ((Stz.rd 52 A5 N c5 o.f (by omega)).and (Stz.wr 52 A5 N (by omega)))).and (Sto.row Z2 _).stz
            clear h hb bx hZ2 a0 a1 a2 H5' r0
            go_upto_region 34 with fail
            rw [← hw6, ← HZ2.out]
            clear hw6
            refine flow_region [([0, 1, 2, 3, 4, 5, 7, 8, 9, 10, 11, 12, 13], 6, false), ([], 14, false), ([], 15, false)] [16] (fun w' => ∃ x : Rw15 Z Z2 (osA o) #[.int .i64 o.c, .int .i64 o.n, .int .i64 o.m, .slice A5 N c5], w' = x.val) (by kernel_rfl) (by kernel_rfl) (fun _ _ _ _ _ h => h) ⟨⟨w6.drewN 1, by obtain ⟨T, ⟨⟨r, -⟩, -⟩, -⟩ := P6.out.fact; rw [row_drewN]; exact r, by obtain ⟨T, -, r, -⟩ := P6.out.fact; rw [row_drewN]; exact r⟩, rfl⟩ ?_
            have P7 := Lib.hid (P6.out.calm K6 (below_drewN (Below.refl _ _) 1))
            have X7 := Lib.hid (onto X6.out X6.out.size (below_drewN (Below.refl w6.heap.size w6) 1))
            obtain ⟨w7, hw7⟩ : ∃ w7, w7 = w6.drewN 1 := ⟨_, rfl⟩
            rw [← hw7] at P7 X7 ⊢
            clear hw7 P6 X6
            obtain ⟨T7, ⟨⟨r7, -⟩, hrd7, hwr7⟩, q7, -⟩ := P7.out.fact
            have HCAP := Lib.hid hrd7.sl.le
            have hne : Nonempty (Rw15 Z Z2 (osA o) #[.int .i64 o.c, .int .i64 o.n, .int .i64 o.m, .slice A5 N c5]) := ⟨⟨w7, r7, q7⟩⟩
            have k1 : ∀ x : Rw15 Z Z2 (osA o) #[.int .i64 o.c, .int .i64 o.n, .int .i64 o.m, .slice A5 N c5], x.val.cell? ⟨Z, 1, none⟩ = some (.int .i64 o.id) := fun x => (cells7S x.r1).2.1
            have k2 : ∀ x : Rw15 Z Z2 (osA o) #[.int .i64 o.c, .int .i64 o.n, .int .i64 o.m, .slice A5 N c5], x.val.cell? ⟨Z, 2, none⟩ = some (.int .i64 o.q) := fun x => (cells7S x.r1).2.2
            have k3 := fun x : Rw15 Z Z2 (osA o) #[.int .i64 o.c, .int .i64 o.n, .int .i64 o.m, .slice A5 N c5] => x.r1
            have k4 := fun x : Rw15 Z Z2 (osA o) #[.int .i64 o.c, .int .i64 o.n, .int .i64 o.m, .slice A5 N c5] => x.r2
            have H8 := Lib.hid (pz_done ⟨o.id, o.q, o.c, o.n, o.m, N, o.f⟩ (t := 52) (by omega) P7.out K6 (fun T k => k.1.2.1) HO.out.id (by simp only; omega))
            clear hrd7 hwr7
            simp only [wpFl, pk, List.getElem?_cons_zero, List.getElem?_cons_succ]
            repeat (go_big_quiet_step (fail))
            refine wpQuiet_nil ?_
            clear k1 k2 k3 k4 r7 q7
            go_wp2_with fail
            refine H8.out.mono ?_
            rintro e w8 ⟨rfl, h⟩
            obtain ⟨T8, ⟨⟨r8, -⟩, -⟩, q8, -⟩ := h.fact
            have P8 := Lib.hid h
            have X8 := Lib.hid (onto B1.out B1.out.size h.bel)
            obtain ⟨E, hE⟩ : ∃ E, E = dnE l o.id o.q := ⟨_, rfl⟩
            rw [show dnE l (⟨o.id, o.q, o.c, o.n, o.m, N, o.f⟩ : Se).id (⟨o.id, o.q, o.c, o.n, o.m, N, o.f⟩ : Se).q = E from hE.symm]
            have HE := Lib.hid hE
            clear h hE H8 P7 X7
            go_wp2_with fail
            refine ⟨_, ⟨⟨w8, r8, q8⟩, rfl⟩, .inr ⟨⟨⟨w8, r8, q8⟩, rfl⟩, fun _ h => h⟩, ?_⟩
            have H9 := pz_own P8.out K6 54 (by omega) o.c o.n o.m o.T o.e o.A o.f ((HO.out.s.below X8.out).more X8.out.size)
            rw [← HN.out] at H9
            have H9' := Lib.hid H9
            clear H9
            show wpQuiet _ _ _ _ _ _
            refine wpQuiet_nil ?_
            go_wp2_with fail
            refine H9'.out.mono ?_
            rintro e w9 ⟨A9, c9, rfl, h, hb⟩
            obtain ⟨T9, ⟨⟨⟨r9, -⟩, -⟩, q9, -⟩, -⟩ := h.fact
            have K9 := K6.and (Stz.rd 54 A9 N c9 o.f (by omega))
            have P9 := Lib.hid (h.mono (K' := fun T y => (((row y Z = some (osA o) ∧ T Z = 50) ∧ RdS T y 52 A5 N c5 o.f ∧ WrB 52 A5 N T y) ∧ (row y Z2 = some #[.int .i64 o.c, .int .i64 o.n, .int .i64 o.m, .slice A5 N c5] ∧ T Z2 = 50)) ∧ RdS T y 54 A9 N c9 o.f) fun _ k => ⟨k.1, k.2.1⟩)
            clear h hb H9' P8 X8
            go_wp2_with fail
            refine ⟨_, ⟨⟨w9, r9, q9⟩, rfl⟩, .inr ⟨⟨⟨w9, r9, q9⟩, rfl⟩, fun _ h => h⟩, ?_⟩
            have H10 := Lib.hid (rz_done ⟨o.id, o.q, o.c, o.n, o.m, N, o.f⟩ (t := 54) (by omega) P9.out K9 (fun T k => k.2) (by simp only; omega))
            show wpQuiet _ _ _ _ _ _
            refine wpQuiet_nil ?_
            go_wp2_with fail
            refine H10.out.mono ?_
            rintro e w10 ⟨rfl, h⟩
            rw [show dnE l (⟨o.id, o.q, o.c, o.n, o.m, N, o.f⟩ : Se).id (⟨o.id, o.q, o.c, o.n, o.m, N, o.f⟩ : Se).q = E from HE.out.symm]
            obtain ⟨T10, ⟨⟨⟨r10, -⟩, -⟩, q10, -⟩, -⟩ := h.fact
            obtain ⟨l2, hl2⟩ : ∃ l2, l2 = dnL l ⟨o.id, o.q, o.c, o.n, o.m, N, o.f⟩ := ⟨_, rfl⟩
            rw [← hl2] at h
            have P10 := Lib.hid (h.mono (K' := fun T y => (row y Z2 = some #[.int .i64 o.c, .int .i64 o.n, .int .i64 o.m, .slice A5 N c5] ∧ T Z2 = 50) ∧ WrB 52 A5 N T y) fun _ k => ⟨k.1.2, k.1.1.2.2⟩)
            have n2 : (E != E) = false := by simp
            clear h H10 P9 hl2 r8 q8 r9 q9 K6 K9
            go_wp2_with fail
            refine ⟨_, ⟨⟨w10, r10, q10⟩, rfl⟩, .inr ⟨⟨⟨w10, r10, q10⟩, rfl⟩, fun _ h => h⟩, ?_⟩
            show wpQuiet _ _ _ _ _ _
            repeat (go_big_quiet_step (fail))
            refine wpQuiet_nil ?_
            clear r10 q10 hne
            go_wp2_with fail
            go_loopw [21] (fun iv wr => ∃ k : Nat, k ≤ N ∧ iv = .int .i64 (k : Int) ∧ PZ (fun T y => (row y Z2 = some #[.int .i64 o.c, .int .i64 o.n, .int .i64 o.m, .slice A5 N c5] ∧ T Z2 = 50) ∧ WrB 52 A5 N T y) w1 wr B B' l2 l2 g g) (fun iv _ => N - (intOf iv).toNat)
            case atStart => exact ⟨0, by omega, rfl, P10.out⟩
            case round =>
              clear P10
              obtain ⟨k, hk, rfl, hp⟩ := hrel
              obtain ⟨wv, rfl⟩ : ∃ wv : World, wv = wr := ⟨_, rfl⟩
              have PP := Lib.hid hp
              clear hp
              obtain ⟨TT, ⟨rr, -⟩, hwb⟩ := PP.out.fact
              have cc := (cells4 rr).2.2.2
              by_cases hlt2 : k < N
              · have hd3 : decide ((k : Int) < ((N : Nat) : Int)) = true := by simp; omega
                have hw3 : IntKind.i64.wrap ((k : Int) + 1) = (k : Int) + 1 := IntWalk.i64_in _ (by omega)
                obtain ⟨gg, og, cur, hA, hr, hsz, -⟩ := hwb (by omega)
                have HA := Lib.hid hA
                have hc : wv.cell? ⟨gg, og + k, none⟩ = some (cur[og + k]'(by omega)) := by rw [cell_row hr]; exact Array.getElem?_eq_getElem (by omega)
                have hf := froz_row hr (og + k)
                have HR := Lib.hid hr
                rw [hA] at cc
                have hcap : N ≤ c5 := HCAP.out
                clear hr hwb rr hA
                go_wp2_with fail
                rw [setCell_row HR.out]
                refine ⟨⟨k + 1, by omega, by rw [Int.natCast_succ], PP.out.over (Sto.row Z2 #[.int .i64 o.c, .int .i64 o.n, .int .i64 o.m, .slice A5 N c5]) (by omega : 50 < 52 ∧ 52 < 60) _ (fun T hT => ?_) (fun T hT hb hn => ?_)⟩, ?_⟩
                · obtain ⟨g2, o2, c2, e2, r2, -, t2⟩ := hT.2 (by omega)
                  rw [HA.out] at e2
                  cases e2
                  exact t2
                · exact ⟨gg, og, _, HA.out, row_setRow HR.out _, by rw [Array.size_setIfInBounds]; exact hsz, hb⟩
                · simp only [intOf]
                  omega
              · obtain rfl : k = N := by omega
                have hd3 : decide (((k : Nat) : Int) < ((k : Nat) : Int)) = false := by simp
                clear hwb rr
                go_wp2_with fail
                go_meet
                exact ⟨B, _, _, rfl, PP.out.mono fun _ _ => trivial⟩
          · as_aux_lemma => -- Done
            have X4 := X1
            obtain ⟨T0, r0, -⟩ := P1.out.fact
            have H5 := pz_own P1.out s1.stz 52 (by omega) o.c o.n o.m o.T o.e o.A o.f ((HO.out.s.below X1.out).more X1.out.size)
            obtain ⟨N, hN⟩ : ∃ N, N = min o.T 100 := ⟨_, rfl⟩
            have hN100 : N ≤ 100 := by omega
            rw [← hN] at H5
            have HN := Lib.hid hN
            have H5' := Lib.hid H5
            clear hN H5
            go_wp2_with fail
            refine H5'.out.mono ?_
            rintro e w5 ⟨A5, c5, rfl, h, hb⟩
            have bx : Below w5.heap.size w5 (w5.alloc (.cells #[.int .i64 o.c, .int .i64 o.n, .int .i64 o.m, .slice A5 N c5] 31)) := (Below.refl _ _).alloc (Nat.le_refl _) _
            have P6 := Lib.hid ((h.mono (K' := fun T y => (row y Z = some (osA o) ∧ T Z = 50) ∧ RdS T y 52 A5 N c5 o.f ∧ WrB 52 A5 N T y) fun _ k => k).add (s1.stz.and ((Stz.rd 52 A5 N c5 o.f (by omega)).and (Stz.wr 52 A5 N (by omega)))) bx 50 (by omega) (K' := fun T y => row y w5.heap.size = some #[.int .i64 o.c, .int .i64 o.n, .int .i64 o.m, .slice A5 N c5] ∧ T w5.heap.size = 50) fun T => ⟨row_alloc_at _ _ _ _ rfl, paint_new (Nat.le_refl _)⟩)
            have X6 := Lib.hid (onto X1.out X1.out.size (onto (Below.refl x1.heap.size x1) (Nat.le_refl _) (onto hb hb.size bx)))
            obtain ⟨w6, hw6⟩ : ∃ w6, w6 = w5.alloc (.cells #[.int .i64 o.c, .int .i64 o.n, .int .i64 o.m, .slice A5 N c5] 31) := ⟨_, rfl⟩
            rw [← hw6] at P6 X6
            obtain ⟨Z2, hZ2⟩ : ∃ Z2, Z2 = w5.heap.size := ⟨_, rfl⟩
            rw [← hZ2] at P6
            have HZ2 := Lib.hid hZ2
            have K6 : Stz fun T y => ((row y Z = some (osA o) ∧ T Z = 50) ∧ RdS T y 52 A5 N c5 o.f ∧ WrB 52 A5 N T y) ∧ (row y Z2 = some #[.int .i64 o.c, .int .i64 o.n, .int .i64 o.m, .slice A5 N c5] ∧ T Z2 = 50) := (s1.stz.and ((Stz.rd 52 A5 N c5 o.f (by omega)).and (Stz.wr 52 A5 N (by omega)))).and (Sto.row Z2 _).stz
            clear h hb bx hZ2 a0 a1 a2 H5' r0
            go_upto_region 34 with fail
            rw [← hw6, ← HZ2.out]
            clear hw6
            refine flow_region [([0, 1, 2, 3, 4, 5, 7, 8, 9, 10, 11, 12, 13], 6, false), ([], 14, false), ([], 15, false)] [16] (fun w' => ∃ x : Rw15 Z Z2 (osA o) #[.int .i64 o.c, .int .i64 o.n, .int .i64 o.m, .slice A5 N c5], w' = x.val) (by kernel_rfl) (by kernel_rfl) (fun _ _ _ _ _ h => h) ⟨⟨w6.drewN 1, by obtain ⟨T, ⟨⟨r, -⟩, -⟩, -⟩ := P6.out.fact; rw [row_drewN]; exact r, by obtain ⟨T, -, r, -⟩ := P6.out.fact; rw [row_drewN]; exact r⟩, rfl⟩ ?_
            have P7 := Lib.hid (P6.out.calm K6 (below_drewN (Below.refl _ _) 1))
            have X7 := Lib.hid (onto X6.out X6.out.size (below_drewN (Below.refl w6.heap.size w6) 1))
            obtain ⟨w7, hw7⟩ : ∃ w7, w7 = w6.drewN 1 := ⟨_, rfl⟩
            rw [← hw7] at P7 X7 ⊢
            clear hw7 P6 X6
            obtain ⟨T7, ⟨⟨r7, -⟩, hrd7, hwr7⟩, q7, -⟩ := P7.out.fact
            have HCAP := Lib.hid hrd7.sl.le
            have hne : Nonempty (Rw15 Z Z2 (osA o) #[.int .i64 o.c, .int .i64 o.n, .int .i64 o.m, .slice A5 N c5]) := ⟨⟨w7, r7, q7⟩⟩
            have k1 : ∀ x : Rw15 Z Z2 (osA o) #[.int .i64 o.c, .int .i64 o.n, .int .i64 o.m, .slice A5 N c5], x.val.cell? ⟨Z, 1, none⟩ = some (.int .i64 o.id) := fun x => (cells7S x.r1).2.1
            have k2 : ∀ x : Rw15 Z Z2 (osA o) #[.int .i64 o.c, .int .i64 o.n, .int .i64 o.m, .slice A5 N c5], x.val.cell? ⟨Z, 2, none⟩ = some (.int .i64 o.q) := fun x => (cells7S x.r1).2.2
            have k3 := fun x : Rw15 Z Z2 (osA o) #[.int .i64 o.c, .int .i64 o.n, .int .i64 o.m, .slice A5 N c5] => x.r1
            have k4 := fun x : Rw15 Z Z2 (osA o) #[.int .i64 o.c, .int .i64 o.n, .int .i64 o.m, .slice A5 N c5] => x.r2
            have H8 := Lib.hid (pz_done ⟨o.id, o.q, o.c, o.n, o.m, N, o.f⟩ (t := 52) (by omega) P7.out K6 (fun T k => k.1.2.1) HO.out.id (by simp only; omega))
            clear hrd7 hwr7
            simp only [wpFl, pk, List.getElem?_cons_zero, List.getElem?_cons_succ]
            repeat (go_big_quiet_step (fail))
            refine wpQuiet_nil ?_
            clear k1 k2 k3 k4 r7 q7
            go_wp2_with fail
            refine H8.out.mono ?_
            rintro e w8 ⟨rfl, h⟩
            obtain ⟨T8, ⟨⟨r8, -⟩, -⟩, q8, -⟩ := h.fact
            have P8 := Lib.hid h
            have X8 := Lib.hid (onto B1.out B1.out.size h.bel)
            obtain ⟨E, hE⟩ : ∃ E, E = dnE l o.id o.q := ⟨_, rfl⟩
            rw [show dnE l (⟨o.id, o.q, o.c, o.n, o.m, N, o.f⟩ : Se).id (⟨o.id, o.q, o.c, o.n, o.m, N, o.f⟩ : Se).q = E from hE.symm]
            have HE := Lib.hid hE
            clear h hE H8 P7 X7
            go_wp2_with fail
            refine ⟨_, ⟨⟨w8, r8, q8⟩, rfl⟩, .inr ⟨⟨⟨w8, r8, q8⟩, rfl⟩, fun _ h => h⟩, ?_⟩
            have H9 := pz_own P8.out K6 54 (by omega) o.c o.n o.m o.T o.e o.A o.f ((HO.out.s.below X8.out).more X8.out.size)
            rw [← HN.out] at H9
            have H9' := Lib.hid H9
            clear H9
            show wpQuiet _ _ _ _ _ _
            refine wpQuiet_nil ?_
            go_wp2_with fail
            refine H9'.out.mono ?_
            rintro e w9 ⟨A9, c9, rfl, h, hb⟩
            obtain ⟨T9, ⟨⟨⟨r9, -⟩, -⟩, q9, -⟩, -⟩ := h.fact
            have K9 := K6.and (Stz.rd 54 A9 N c9 o.f (by omega))
            have P9 := Lib.hid (h.mono (K' := fun T y => (((row y Z = some (osA o) ∧ T Z = 50) ∧ RdS T y 52 A5 N c5 o.f ∧ WrB 52 A5 N T y) ∧ (row y Z2 = some #[.int .i64 o.c, .int .i64 o.n, .int .i64 o.m, .slice A5 N c5] ∧ T Z2 = 50)) ∧ RdS T y 54 A9 N c9 o.f) fun _ k => ⟨k.1, k.2.1⟩)
            clear h hb H9' P8 X8
            go_wp2_with fail
            refine ⟨_, ⟨⟨w9, r9, q9⟩, rfl⟩, .inr ⟨⟨⟨w9, r9, q9⟩, rfl⟩, fun _ h => h⟩, ?_⟩
            have H10 := Lib.hid (rz_done ⟨o.id, o.q, o.c, o.n, o.m, N, o.f⟩ (t := 54) (by omega) P9.out K9 (fun T k => k.2) (by simp only; omega))
            show wpQuiet _ _ _ _ _ _
            refine wpQuiet_nil ?_
            go_wp2_with fail
            refine H10.out.mono ?_
            rintro e w10 ⟨rfl, h⟩
            rw [show dnE l (⟨o.id, o.q, o.c, o.n, o.m, N, o.f⟩ : Se).id (⟨o.id, o.q, o.c, o.n, o.m, N, o.f⟩ : Se).q = E from HE.out.symm]
            obtain ⟨T10, ⟨⟨⟨r10, -⟩, -⟩, q10, -⟩, -⟩ := h.fact
            obtain ⟨l2, hl2⟩ : ∃ l2, l2 = dnL l ⟨o.id, o.q, o.c, o.n, o.m, N, o.f⟩ := ⟨_, rfl⟩
            rw [← hl2] at h
            have P10 := Lib.hid (h.mono (K' := fun T y => (row y Z2 = some #[.int .i64 o.c, .int .i64 o.n, .int .i64 o.m, .slice A5 N c5] ∧ T Z2 = 50) ∧ WrB 52 A5 N T y) fun _ k => ⟨k.1.2, k.1.1.2.2⟩)
            have n2 : (E != E) = false := by simp
            clear h H10 P9 hl2 r8 q8 r9 q9 K6 K9
            go_wp2_with fail
            refine ⟨_, ⟨⟨w10, r10, q10⟩, rfl⟩, .inr ⟨⟨⟨w10, r10, q10⟩, rfl⟩, fun _ h => h⟩, ?_⟩
            show wpQuiet _ _ _ _ _ _
            repeat (go_big_quiet_step (fail))
            refine wpQuiet_nil ?_
            clear r10 q10 hne
            go_wp2_with fail
            go_loopw [21] (fun iv wr => ∃ k : Nat, k ≤ N ∧ iv = .int .i64 (k : Int) ∧ PZ (fun T y => (row y Z2 = some #[.int .i64 o.c, .int .i64 o.n, .int .i64 o.m, .slice A5 N c5] ∧ T Z2 = 50) ∧ WrB 52 A5 N T y) w1 wr B B' l2 l2 g g) (fun iv _ => N - (intOf iv).toNat)
            case atStart => exact ⟨0, by omega, rfl, P10.out⟩
            case round =>
              clear P10
              obtain ⟨k, hk, rfl, hp⟩ := hrel
              obtain ⟨wv, rfl⟩ : ∃ wv : World, wv = wr := ⟨_, rfl⟩
              have PP := Lib.hid hp
              clear hp
              obtain ⟨TT, ⟨rr, -⟩, hwb⟩ := PP.out.fact
              have cc := (cells4 rr).2.2.2
              by_cases hlt2 : k < N
              · have hd3 : decide ((k : Int) < ((N : Nat) : Int)) = true := by simp; omega
                have hw3 : IntKind.i64.wrap ((k : Int) + 1) = (k : Int) + 1 := IntWalk.i64_in _ (by omega)
                obtain ⟨gg, og, cur, hA, hr, hsz, -⟩ := hwb (by omega)
                have HA := Lib.hid hA
                have hc : wv.cell? ⟨gg, og + k, none⟩ = some (cur[og + k]'(by omega)) := by rw [cell_row hr]; exact Array.getElem?_eq_getElem (by omega)
                have hf := froz_row hr (og + k)
                have HR := Lib.hid hr
                rw [hA] at cc
                have hcap : N ≤ c5 := HCAP.out
                clear hr hwb rr hA
                go_wp2_with fail
                rw [setCell_row HR.out]
                refine ⟨⟨k + 1, by omega, by rw [Int.natCast_succ], PP.out.over (Sto.row Z2 #[.int .i64 o.c, .int .i64 o.n, .int .i64 o.m, .slice A5 N c5]) (by omega : 50 < 52 ∧ 52 < 60) _ (fun T hT => ?_) (fun T hT hb hn => ?_)⟩, ?_⟩
                · obtain ⟨g2, o2, c2, e2, r2, -, t2⟩ := hT.2 (by omega)
                  rw [HA.out] at e2
                  cases e2
                  exact t2
                · exact ⟨gg, og, _, HA.out, row_setRow HR.out _, by rw [Array.size_setIfInBounds]; exact hsz, hb⟩
                · simp only [intOf]
                  omega
              · obtain rfl : k = N := by omega
                have hd3 : decide (((k : Nat) : Int) < ((k : Nat) : Int)) = false := by simp
                clear hwb rr
                go_wp2_with fail
                go_meet
                exact ⟨B, _, _, rfl, PP.out.mono fun _ _ => trivial⟩
          · as_aux_lemma => -- a clone
            have bd5 := rp_b5
            clear a0 a1 a2
            go_wp2_with fail
            refine (pz_clone P1.out s1.stz).mono ?_
            rintro e w5 ⟨B2, rfl, h⟩
            have P5 := Lib.hid h
            have K5 := s1.stz.and (Stz.pt B2 l g)
            have HOK := Lib.hid h.ok.1
            clear h
            go_wp2_with fail
            refine (pz_open P5.out K5).mono ?_
            rintro e w6 ⟨rfl, h⟩
            have P6 := Lib.hid (h.mono (K' := fun T y => ((row y Z = some (osA o) ∧ T Z = 50) ∧ ∃ mv, PtAt T y 55 B2 mv l g) ∧ RdS T y 52 none 0 0 (fun _ => 0#8)) fun _ k => ⟨k, RdS.nil _ _ _ _⟩)
            clear h P5
            go_wp2_with fail
            refine (pz_done ⟨1, 1125899906842624, 0, 5, 0, 0, fun _ => 0#8⟩ (t := 52) (by omega) P6.out (K5.and (Stz.rd 52 none 0 0 _ (by omega))) (fun T k => k.2) (by unfold i64B; simp only; omega) (Nat.zero_le _)).mono ?_
            rintro e w7 ⟨rfl, h⟩
            have P7 := Lib.hid (h.mono (K' := fun T y => (row y Z = some (osA o) ∧ T Z = 50) ∧ ∃ mv, PtAt T y 55 B2 mv l g) fun _ k => k.1)
            clear h P6
            go_wp2_with fail
            refine (pz_exp P7.out K5 2 (by unfold i64B; omega)).mono ?_
            rintro e w8 ⟨rfl, h⟩
            have P8 := Lib.hid ((h.swap HOK.out fun T T2 k hre => ⟨k.1, hre _ k.2⟩).mono (K' := fun _ _ => True) fun _ _ => trivial)
            clear h P7
            go_wp2_with fail
            go_meet
            exact ⟨B2, _, _, rfl, P8.out⟩
        -- BEHIND
        as_aux_lemma =>
        obtain ⟨B5, l5, g5, rfl, hp⟩ := hcut
        obtain ⟨w5, rfl⟩ : ∃ w : World, w = wc := ⟨_, rfl⟩
        have P5 := Lib.hid hp
        have hK5 := hp.ok.1
        have hn8 := hK5.n
        have hg0 := hK5.g0
        have hg1 := hK5.g1
        have H6 := Lib.hid (pz_seats hp s0)
        clear hp P1 a0 a1 a2 hcase hK5
        go_wp2_with fail
        refine H6.out.mono ?_
        rintro e w6 ⟨A6, c6, rfl, hrd, h⟩
        have P6 := Lib.hid (h.mono (K' := fun T y => True ∧ WrB 53 A6 (l5.length * 6) T y) fun _ k => ⟨trivial, k.2⟩)
        obtain ⟨Ay, cy, hry, hrdy⟩ := h.rows
        have HCAP := Lib.hid hrd.le
        have H7 := Lib.hid (rsame15_any A6 Ay c6 cy l5 w6 hrd hrdy (by omega))
        obtain ⟨y0, y1⟩ := cells2S hry
        clear h hrd hrdy P5 H6
        go_wp2_with fail
        refine H7.out.mono ?_
        rintro e w7 ⟨rfl, hb⟩
        have P7 := Lib.hid (P6.out.calm (s0.stz.and (Stz.wr 53 A6 (l5.length * 6) (by omega))) hb)
        obtain ⟨z0, z1⟩ := cells2S (carry hb hry)
        have n1 : ((g5 + 1) != (g5 + 1)) = false := by simp
        clear hb hry y0 y1 P6 H7
        go_wp2_with fail
        go_loopw [26] (fun iv wr => ∃ k : Nat, k ≤ l5.length ∧ iv = .int .i64 (k : Int) ∧ PZ (fun T y => True ∧ WrB 53 A6 (l5.length * 6) T y) w1 wr B5 B' l5 l5 g5 g5) (fun iv _ => l5.length - (intOf iv).toNat)
        case atStart => exact ⟨0, by omega, rfl, P7.out⟩
        case round =>
          clear P7 z0 z1
          obtain ⟨k, hk, rfl, hp⟩ := hrel
          obtain ⟨wv, rfl⟩ : ∃ wv : World, wv = wr := ⟨_, rfl⟩
          have PP := Lib.hid hp
          clear hp
          obtain ⟨TT, -, hwb⟩ := PP.out.fact
          by_cases hlt2 : k < l5.length
          · have hd3 : decide ((k : Int) < (l5.length : Int)) = true := by simp; omega
            have hw3 : IntKind.i64.wrap ((k : Int) + 1) = (k : Int) + 1 := IntWalk.i64_in _ (by omega)
            have hm6 : (k + 1) * 6 ≤ l5.length * 6 := Nat.mul_le_mul_right 6 hlt2
            obtain ⟨gg, og, cur, hA, hr, hsz, -⟩ := hwb (by omega)
            have hc : wv.cell? ⟨gg, og + k * 6 + 1, none⟩ = some (cur[og + k * 6 + 1]'(by omega)) := by rw [cell_row hr]; exact Array.getElem?_eq_getElem (by omega)
            have hf := froz_row hr (og + k * 6 + 1)
            have HR := Lib.hid hr
            have hcap := HCAP.out
            subst hA
            clear hr hwb
            go_wp2_with fail
            rw [setCell_row HR.out]
            refine ⟨⟨k + 1, by omega, by rw [Int.natCast_succ], PP.out.over s0 (by omega : 50 < 53 ∧ 53 < 60) _ (fun T hT => ?_) (fun T hT hb hn => ?_)⟩, ?_⟩
            · obtain ⟨g2, o2, c2, e2, r2, -, t2⟩ := hT.2 (by omega)
              cases e2
              exact t2
            · exact ⟨gg, og, _, rfl, row_setRow HR.out _, by rw [Array.size_setIfInBounds]; exact hsz, hb⟩
            · simp only [intOf]
              omega
          · obtain rfl : k = l5.length := by omega
            have hd3 : decide ((l5.length : Int) < (l5.length : Int)) = false := by simp
            clear hwb
            trace_state
            go_wp2_with fail
            go_roundw
            case rel => exact ⟨j + 1, B5, l5, g5, by omega, by omega, by go_num, rfl, PP.out.mono fun _ _ => trivial⟩
            case measure => simp [intOf]; omega
      · have hd2 : decide ((j : Int) < 100) = false := by simp; omega
        go_wp2_with fail
        go_ret
        exact ⟨rfl, Bo.out⟩
    · have hd : decide ((j : Int) < (l0.length : Int)) = false := by simp; omega
      go_wp2_with fail
      go_ret
      exact ⟨rfl, Bo.out⟩

set_option maxRecDepth 100000 in
theorem lifted (os : Os) (started : os.Started) (H : Type) (enc : TypeId × Value → H) :
    ReturnsInHanded {} Try.checked os 3 .any (Rows.sessionsPlaySpec.pre6 enc Try.prog Try.f3 Rows.sessionsPlayRow.domain false) (Rows.sessionsPlaySpec.post enc Try.prog Try.f3 false true false false) := by
  refine returnsInHanded_of_change_sized (C := Try.checked) own started (by kernel_rfl) Try.func3
    (ChangeSpec.witness6 (enc := enc) (C := Try.checked) false ⟨#[], #[.slice none 0 0], []⟩ 8 (by kernel_rfl) (by kernel_rfl) (by kernel_rfl) (by kernel_rfl)) ?_
  intro W base args ds gs before hval0 hW hcnd hsz0 _
  have hval : ∀ (j : Nat) t v, Try.f3.params[j]? = some t → args[j]? = some v → Value.okWide Try.prog W .any base t v := hval0
  have hW' := hW
  obtain ⟨p, q, hA0, hV, rfl, hfz, hnd⟩ := hW
  have hA : DataW.TrodAll enc Try.prog W 0 (fun _ => true) true Try.f3.params.toList args.toList ds p := hA0
  rw [Try.params3] at hA hval
  have hsz : (DataW.weightsEach Try.prog (Try.f3.params.toList ++ Rows.sessionsPlaySpec.plain.varTypes Try.prog) (ds ++ gs)).all (· ≤ reachBytes) = true := hsz0
  rw [Try.params3] at hsz
  clear hsz0
  obtain ⟨v0, vs0, d0, ds0, p0, q0, hargs, rfl, rfl, h0, r0⟩ := trodAll_cons hA
  obtain ⟨rfl, rfl, rfl⟩ := trodAll_nil r0
  obtain rfl : args = #[v0] := by cases args; simp_all
  obtain ⟨rfl, rfl⟩ := trodVars_none hV
  have k0 := h0
  have lt0 : ∀ x ∈ p0, x.block < W.heap.size := by obtain ⟨m, hm⟩ := k0; exact DataW.trod_lt m _ _ _ hm
  obtain ⟨l0, hl0⟩ := open_opsS (hval 0 22 v0 rfl rfl) h0 hsz (j := 0) rfl rfl
  clear hA0 hval0
  refine (walk v0 l0 W hl0).mono fun e W' ⟨he, bel⟩ => ?_
  subst he
  exact ⟨_, rfl, _, _, _, [], _, [], hW', trodAll_mk1 (shut_bool Try.underlying4 _), (trodAll_cons_mk (Below.trod laidOut (by kernel_rfl) (of_decide_eq_true (by kernel_rfl)) k0 bel lt0) trodAll_mk0), rfl, bel.frame _, fun h => by cases h⟩

theorem over : Rows.sessionsPlayRow.holds Try.pinned (OpenSpec.ofChange Rows.sessionsPlaySpec) :=
  OpenClaim.holds_of_wide 3 Try.f3 rfl rfl rfl rfl rfl rfl rfl ⟨rfl, rfl, rfl, rfl, rfl⟩ rfl rfl rfl rfl rfl (by kernel_rfl) Try.func3 (by kernel_rfl)
    (of_decide_eq_true (by kernel_rfl)) (by unfold Func.isWrapper; first | (rw [if_pos (by decide +kernel)]; kernel_rfl) | (rw [if_neg (by decide +kernel)]; exact ⟨rfl, rfl⟩))
    (fun os started H enc _ => lifted os started H enc)

theorem proved : Rows.SessionsPlaySaid := over
#print axioms proved
end Go.Proofs.Ythokiohdeclmhaa.sessionsPlay
