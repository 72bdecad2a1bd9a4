/- The statement StoreRefuses: the law strongroomlaw16.StoreRefuses answers true for every input, and leaves its arguments as they were. Condition: the package variables that the row lists read at the call as the text of the program lays them; the card ties that. -/
import Derived.Test.YteffjpdcghlnlaaGreatDoorRows
import Derived.Test.YteffjpdcghlnlaaGreatDoorZaLib
import Derived.Test.YteffjpdcghlnlaaGreatDoorZaStB3
import Derived.Test.YteffjpdcghlnlaaGreatDoorZaTab
import Derived.Test.YteffjpdcghlnlaaGreatDoorCards
import Derived.Test.YteffjpdcghlnlaaGreatDoorTie
import Derived.SevenTiedAt
namespace Go.Proofs.YteffjpdcghlnlaaGreatDoor.storeRefuses
open Go.ChangeShapes Go.WideShapes Go.ChangeAt Go.RowKit
open Go.Proofs.YteffjpdcghlnlaaGreatDoor.Oct
set_option linter.unusedVariables false

theorem own : ownKnob Tryz.prog.godebug = none := by kernel_rfl
theorem laidOut : laidOutB Tryz.prog = true := by kernel_rfl

set_option maxRecDepth 20000 in
set_option maxHeartbeats 16000000 in
theorem walk (a0 : Nat → BitVec 8) (n0 c0 : Nat) (A0 : Option Addr) (v1 : Value) (l1 : List Cm) (k2 s2 q2 i2 n2 : Int) (f2 g2 : Nat → BitVec 8) (T2 c2 U2 e2 : Nat) (A2 B2 : Option Addr) (w : World) (hs0 : Sl w w.heap.size A0 n0 c0 a0) (hm0 : c0 ≤ maxLen) (hz0 : n0 ≤ 140737488351232) (hl1 : InS 7 coE w v1 l1) (hf2 : Sl w w.heap.size A2 T2 c2 f2) (hg2 : Sl w w.heap.size B2 U2 e2 g2) (hk2 : i64B k2) (hs2 : i64B s2) (hq2 : i64B q2) (hi2 : i64B i2) (hn2 : i64B n2) (htab : Tab w) :
    Calls Tryz.prog 7 #[.slice A0 n0 c0, v1, comV k2 s2 q2 i2 n2 (.slice A2 T2 c2) (.slice B2 U2 e2)] w fun e w' => e = .returned (.bool true) ∧ Below w.heap.size w w' := by
  obtain ⟨cz, hcz⟩ : ∃ cz : Cm, cz = ⟨k2, s2, q2, i2, n2, T2, f2, U2, g2⟩ := ⟨_, rfl⟩
  have HF := Lib.hid (show Sl w w.heap.size A2 cz.T c2 cz.f by rw [hcz]; exact hf2)
  have HG := Lib.hid (show Sl w w.heap.size B2 cz.U e2 cz.h by rw [hcz]; exact hg2)
  rw [show comV k2 s2 q2 i2 n2 (.slice A2 T2 c2) (.slice B2 U2 e2) = cmV cz A2 c2 B2 e2 by rw [hcz]]
  have HT := Lib.hid htab
  have HS := Lib.hid hs0
  have hlc := hs0.le
  have HM := Lib.hid hm0
  have HL := Lib.hid hl1
  obtain ⟨A1, c1, rfl, hle1, hcm1, -⟩ := hl1.at_
  have hS5 : ¬ H2 5 0 := hS0
  obtain ⟨b, hb⟩ : ∃ b, b = w.heap.size := ⟨_, rfl⟩
  obtain ⟨w0, hw0⟩ : ∃ w0, w0 = w.alloc (.cells (cmA cz A2 c2 B2 e2) 36) := ⟨_, rfl⟩
  have P0 := Lib.hid (show LS (fun T y => True ∧ (row y b = some (cmA cz A2 c2 B2 e2) ∧ T b = 50)) w w0 by rw [hw0, hb]; exact ls_var' (LS.init (K := fun _ _ => True) w trivial) Stb.triv _ _ 50)
  have HB := Lib.hid hb
  have SN := Lib.hid (show ∀ (S : Nat → Prop) (c : Array Value), ¬ S 50 → Stb S (fun T y => True ∧ (row y b = some c ∧ T b = 50)) from fun S c h => Stb.and Stb.triv (Stb.row h))
  have h50 : ¬ H2 5 50 := by unfold H2; omega
  clear hs0 hm0 htab hl1 hz0 hcz hf2 hg2 hk2 hs2 hq2 hi2 hn2 hb
  go_enter Tryz.func7, Tryz.ntmps7
  go_wp2_with fail
  rw [← hw0, ← HB.out]
  clear hw0
  refine (shown16_any w0 (P0.out.tab HT.out)).mono ?_
  rintro e w1 ⟨rfl, hb1⟩
  have P1 := Lib.hid (P0.out.calm (SN.out _ _ (fun h => h)) hb1)
  clear hb1 P0
  go_wp2_with fail
  refine (few16_any A0 n0 c0 hlc HM.out w1).mono ?_
  rintro e w1' ⟨rfl, rfl⟩
  obtain ⟨N, hN⟩ : ∃ N, N = min n0 100 := ⟨_, rfl⟩
  rw [← hN]
  have hN1 : N ≤ 100 := by omega
  have hN2 : N ≤ n0 := by omega
  clear hN
  go_wp2_with fail
  refine (ls_begin (t := 5) P1.out (SN.out _ _ (fun h => h)) HT.out HS.out N hN1 hN2 (by omega)).mono ?_
  rintro e w2 ⟨B, rfl, h⟩
  have Q0 := Lib.hid h
  have X0 := Lib.hid (SxB.new a0 N)
  clear h P1 HS
  go_wp2_with fail
  go_loopw [9] (fun iv wr => ∃ (j : Nat) (x : Sx), j ≤ l1.length ∧ j ≤ 15 ∧ iv = .int .i64 (j : Int) ∧ LS (fun T y => StAt T y 5 B x ∧ (True ∧ (row y b = some (cmA cz A2 c2 B2 e2) ∧ T b = 50))) w wr ∧ SxB (100 + 4 * j) x) (fun iv _ => 15 - (intOf iv).toNat)
  case atStart => exact ⟨0, _, by omega, by omega, rfl, Q0.out, X0.out.up (by omega)⟩
  case round =>
    obtain ⟨j, x, hj, hj1, rfl, hp, hx⟩ := hrel
    obtain ⟨wo, rfl⟩ : ∃ wo : World, wo = wr := ⟨_, rfl⟩
    have P := Lib.hid hp
    have HX := Lib.hid hx
    have Bo := Lib.hid hp.bel
    clear hp hx Q0 X0
    have fin : True := trivial
    by_cases hgo : j < l1.length ∧ j < 15
    · have hd : decide ((j : Int) < (l1.length : Int)) = true := by simp; omega
      have hd2 : decide ((j : Int) < 15) = true := by simp; omega
      obtain ⟨gk, ok, cc, Ac, ac, Ac', ac', ev, hlc2, hldr, hs1, hs2, hcb⟩ := cms_at HL.out Bo.out hgo.1
      cases ev
      obtain ⟨c, hc⟩ : ∃ c, c = l1[j] := ⟨_, rfl⟩
      rw [← hc] at hldr hs1 hs2 hcb
      have hw : IntKind.i64.wrap ((j : Int) + 1) = (j : Int) + 1 := IntWalk.i64_in _ (by omega)
      have hlt := hgo.1
      have HA := Lib.hid (ls_asked (Ab := none) (nb := 0) (ab := 0) (fb := fun _ => 0#8) P.out (Stb.and (Stb.st (fun h => h) (fun h => h) (fun h => h)) (SN.out _ _ (fun h => h))) c hs1 hs2 hcb (fun T k => RdS.nil _ _ _ _) (by omega))
      clear hs1 hs2 hcb hc P
      go_wp2_with fail
      refine HA.out.mono ?_
      rintro e w5 ⟨A5, a5, A6, a6, rfl, h, -⟩
      obtain ⟨d, hdd⟩ : ∃ d, d = askC c 0 (fun _ => 0#8) := ⟨_, rfl⟩
      rw [← hdd] at h ⊢
      have K5 := Lib.hid (show LS (fun T y => StAt T y 5 B x ∧ ((True ∧ (row y b = some (cmA cz A2 c2 B2 e2) ∧ T b = 50)) ∧ CmR T y 0 d A5 a5 A6 a6)) w w5 from h.mono fun T k => ⟨k.1.1, k.1.2, k.2⟩)
      clear h HA hldr hdd
      go_wp2_with fail
      refine (ls_apply K5.out (Stb.and (SN.out _ _ h50) (Stb.cm hS5)) HT.out (by omega) d (fun T k => k.2) (.inl (by omega)) (by have := HX.out.n; omega)).mono ?_
      rintro e w6 ⟨A7, k7, rfl, h, -⟩
      have X6 := Lib.hid (HX.out.ap d)
      have P6 := Lib.hid h
      clear h K5 HX
      go_wp2_with fail
      refine ⟨⟨j + 1, _, by omega, by omega, by rw [Int.natCast_succ], P6.out.mono fun T k => ⟨k.1, k.2.1.1⟩, X6.out.up (by omega)⟩, ?_⟩
      simp only [intOf]
      omega
    · by_cases hlt : j < l1.length
      case' pos =>
        have hd : decide ((j : Int) < (l1.length : Int)) = true := by simp; omega
        have hd2 : decide ((j : Int) < 15) = false := by simp; omega
      case' neg =>
        have hd : decide ((j : Int) < (l1.length : Int)) = false := by simp; omega
      all_goals
        go_wp2_with fail
        refine (ls_enc P.out (SN.out _ _ (fun h => h)) (by omega) (HX.out.r (by omega))).mono ?_
        rintro e w7 ⟨A8, c8, rfl, ho, h, -⟩
        have cv7 : (convert 22 9 (.slice A8 (eSx x).length c8)).run Tryz.prog w7 = .ok (.string (sxS x)) w7 := conv_own ho
        obtain ⟨S, hS⟩ : ∃ S, S = sxS x := ⟨_, rfl⟩
        rw [← hS] at cv7
        have HSS := Lib.hid hS
        have P7 := Lib.hid h
        obtain ⟨T7, -, -, kr, -⟩ := h.fact
        clear h ho hS P
        have HO := Lib.hid (ls_own P7.out (Stb.and (Stb.st (fun h => h) (fun h => h) (fun h => h)) (SN.out _ _ (fun h => h))) cz HF.out HG.out)
        go_wp2_with fail
        refine HO.out.mono ?_
        rintro e w8 ⟨A5, a5, A6, a6, rfl, h, -⟩
        have hbW : b < w8.heap.size := by have := h.bel.size; have := P7.out.bel.size; obtain ⟨T8, ⟨-, -, kr8, -⟩, -⟩ := h.fact; exact row_lt kr8
        obtain ⟨T8, ⟨-, -, kr8, -⟩, -⟩ := h.fact
        obtain ⟨d, hdd⟩ : ∃ d, d = ownC cz := ⟨_, rfl⟩
        rw [← hdd] at h ⊢
        have P8 := Lib.hid (LS.over (K := fun T y => StAt T y 5 B x ∧ CmR T y 0 d A5 a5 A6 a6) (b := b) (m := 50) (c := cmA cz A2 c2 B2 e2) (h.mono fun T k => ⟨⟨k.1.1, k.2⟩, k.1.2.2⟩) (Stb.and (Stb.st (by omega) (by omega) (by omega)) (Stb.cm (by omega))) (by omega) (cmA d A5 a5 A6 a6))
        obtain ⟨v8, hv8⟩ : ∃ v, v = w8.setRow b (cmA d A5 a5 A6 a6) := ⟨_, rfl⟩
        rw [← hv8] at P8
        have R8 := Lib.hid (show row v8 b = some (cmA d A5 a5 A6 a6) by rw [hv8]; exact row_setRow kr8 _)
        clear h HO hdd P7 kr
        go_upto_region 11 with fail
        rw [← hv8]
        clear hv8 kr8
        have r8 := R8.out
        have K8 := Lib.hid (show LS (fun T y => StAt T y 5 B x ∧ CmR T y 0 d A5 a5 A6 a6) w v8 from P8.out.mono fun T k => k.1)
        clear P8
        go_wp2_with fail
        refine (ls_apply K8.out (Stb.cm hS5) HT.out (by omega) d (fun T k => k) (.inl (by omega)) (by have := HX.out.n; omega)).mono ?_
        rintro e w9 ⟨A7, k7, rfl, h, -⟩
        have X9 := Lib.hid (HX.out.ap d)
        have HR := Lib.hid (@ap_refused x d HX.out.sd)
        have P9 := Lib.hid (ls_keep (K := fun T y => CmR T y 0 d A5 a5 A6 a6) h (Stb.cm (fun h => h)))
        obtain ⟨r, hr⟩ : ∃ r, r = apR x d := ⟨_, rfl⟩
        rw [← hr] at P9 HR ⊢
        obtain ⟨v9, hv9⟩ : ∃ v, v = w9.alloc (.cells #[.int .i64 r.c, .int .i64 r.n, .int .i64 r.m, .slice A7 r.T k7] 33) := ⟨_, rfl⟩
        rw [← hv9] at P9
        clear h hr K8 r8 R8 HX
        go_upto_region 12 with fail
        rw [← hv9]
        clear hv9
        obtain ⟨T9, -, -, kp⟩ := P9.out.fact
        obtain ⟨p0, p1, p2, p3⟩ := cells4 kp.1.1
        clear kp
        have KP := Lib.hid (show ∀ y, Below v9.heap.size v9 y → row y w9.heap.size = some #[.int .i64 r.c, .int .i64 r.n, .int .i64 r.m, .slice A7 r.T k7] from fun y hb => carry hb (by obtain ⟨T9, -, -, kp⟩ := P9.out.fact; exact kp.1.1))
        by_cases hrf : r.c = 1 ∨ r.c = 150 ∨ r.c = 151
        · obtain ⟨e1, e2⟩ := HR.out hrf
          have RN := Lib.hid (show r.n = 0 ∧ r.m = 0 ∧ r.T = 0 by rw [e2]; exact ⟨rfl, rfl, rfl⟩)
          have Q9 := Lib.hid (show LS (fun T y => StAt T y 5 B x ∧ (CmR T y 0 d A5 a5 A6 a6 ∧ RpK w9.heap.size r A7 k7 T y)) w v9 by have h := P9.out; rw [e1] at h; exact h)
          have X9' := Lib.hid (show SxB (100 + 4 * j + 1) x by have h := X9.out; rw [e1] at h; exact h)
          have HRF := Lib.hid hrf
          clear P9 X9 e1 e2 HR p1 p2 p3
          have hv : ∃ v1 v2 v3 : Bool, (r.c == 1) = v1 ∧ (r.c == 151) = v2 ∧ (r.c == 150) = v3 ∧ (v1 = true ∨ v2 = true ∨ v3 = true) := ⟨_, _, _, rfl, rfl, rfl, by simp only [beq_iff_eq]; omega⟩
          obtain ⟨v1, v2, v3, d1, d2, d3, hor⟩ := hv
          clear hrf
          cases v1 <;> cases v2 <;> cases v3 <;> first | (simp at hor; done) | skip
          all_goals
            clear hor
            go_wp2_with fail
            refine (ls_enc Q9.out (Stb.and (Stb.cm (fun h => h)) (Stb.rp (fun h => h))) (by omega) (X9'.out.r (by omega))).mono ?_
            rintro e w10 ⟨A10, c10, rfl, ho, h, hb10⟩
            have cv10 : (convert 22 9 (.slice A10 (eSx x).length c10)).run Tryz.prog w10 = .ok (.string S) w10 := by rw [HSS.out]; exact conv_own ho
            have kp := KP.out w10 hb10
            rw [RN.out.1, RN.out.2.1, RN.out.2.2] at kp
            obtain ⟨p0', p1, p2, p3⟩ := cells4 kp
            have BE := Lib.hid h.bel
            clear kp ho h hb10 Q9
            go_wp2_with fail
            go_ret
            exact ⟨rfl, BE.out⟩
        · have d1 : (r.c == 1) = false := beq_eq_false_iff_ne.2 (by omega)
          have d2 : (r.c == 151) = false := beq_eq_false_iff_ne.2 (by omega)
          have d3 : (r.c == 150) = false := beq_eq_false_iff_ne.2 (by omega)
          have BE := Lib.hid P9.out.bel
          clear P9 X9 HR
          go_wp2_with fail
          go_ret
          exact ⟨rfl, BE.out⟩

set_option maxRecDepth 100000 in
theorem lifted (os : Os) (started : os.Started) (H : Type) (enc : TypeId × Value → H) :
    ReturnsInHanded {} Tryz.checked os 7 .any (fun w args => (Rows.storeRefusesSpec.pre enc Tryz.prog Tryz.f7 [] false w args ∧ laidMetH Tryz.prog laidL w) ∧ sizedMet enc Tryz.prog Tryz.f7 (OpenSpec.ofChange Rows.storeRefusesSpec) false w args) (Rows.storeRefusesSpec.post enc Tryz.prog Tryz.f7 false true false false) := by
  refine returnsInHanded_of_change_and (C := Tryz.checked) (X := fun w _ => laidMetH Tryz.prog laidL w) (fun _ _ _ hh h => h.of_heap hh) own started (by kernel_rfl) Tryz.func7
    (ChangeSpec.witness_shaped (enc := enc) (C := Tryz.checked) (os := os) (X := fun w _ => laidMetH Tryz.prog laidL w) false (World.doorLaid Tryz.prog 14 os) #[.slice none 0 0, .slice none 0 0, .agg #[.int .i64 0, .int .i64 0, .int .i64 0, .int .i64 0, .int .i64 0, .slice none 0 0, .slice none 0 0]] 8 rfl (World.shaped_of_RefB (by kernel_rfl) (by kernel_rfl)) (by kernel_rfl) (by kernel_rfl) (by kernel_rfl) (door_met os _)) ?_
  intro W base args ds gs before hval0 hW _ hsz0 hL _
  have hval : ∀ (j : Nat) t v, Tryz.f7.params[j]? = some t → args[j]? = some v → Value.okWide Tryz.prog W .any base t v := hval0
  have hW' := hW
  obtain ⟨p, q, hA0, hV, rfl, hfz, hnd⟩ := hW
  have hA : DataW.TrodAll enc Tryz.prog W 0 (fun _ => true) true Tryz.f7.params.toList args.toList ds p := hA0
  rw [Tryz.params7] at hA hval
  have hsz : (DataW.weightsEach Tryz.prog (Tryz.f7.params.toList ++ Rows.storeRefusesSpec.plain.varTypes Tryz.prog) (ds ++ gs)).all (· ≤ reachBytes) = true := hsz0
  rw [Tryz.params7] at hsz
  clear hsz0
  obtain ⟨v0, vs0, d0, ds0, p0, q0, hargs, rfl, rfl, h0, r0⟩ := trodAll_cons hA
  obtain ⟨v1, vs1, d1, ds1, p1, q1, rfl, rfl, rfl, h1, r1⟩ := trodAll_cons r0
  obtain ⟨v2, vs2, d2, ds2, p2, q2, rfl, rfl, rfl, h2, r2⟩ := trodAll_cons r1
  obtain ⟨rfl, rfl, rfl⟩ := trodAll_nil r2
  obtain rfl : args = #[v0, v1, v2] := by cases args; simp_all
  obtain ⟨rfl, rfl⟩ := trodVars_none hV
  have k0 := h0
  have lt0 : ∀ x ∈ p0, x.block < W.heap.size := by obtain ⟨m, hm⟩ := k0; exact DataW.trod_lt m _ _ _ hm
  obtain ⟨A0, n0, c0, a0, rfl, hs0, hm0⟩ := open_sl Tryz.underlying22 Tryz.underlying5 (by kernel_rfl) (hval 0 22 v0 rfl rfl) h0
  have hz0 : n0 ≤ 140737488351232 := by have := reach_sl Tryz.underlying22 k0 hsz (j := 0) rfl rfl; rw [show Tryz.prog.bytesOf 5 = 1 by kernel_rfl] at this; omega
  have k1 := h1
  have lt1 : ∀ x ∈ p1, x.block < W.heap.size := by obtain ⟨m, hm⟩ := k1; exact DataW.trod_lt m _ _ _ hm
  obtain ⟨l1, hl1⟩ := open_cms (hval 1 23 v1 rfl rfl) h1 hsz (j := 1) rfl rfl
  have k2 := h2
  have lt2 : ∀ x ∈ p2, x.block < W.heap.size := by obtain ⟨m, hm⟩ := k2; exact DataW.trod_lt m _ _ _ hm
  obtain ⟨ka2, sa2, qa2, ia2, na2, Aa2, Ta2, ca2, fa2, Ba2, Ua2, ea2, ga2, rfl, hfa2, -, hga2, -, hka2, hsa2, hqa2, hia2, hna2⟩ := open_com (hval 2 36 v2 rfl rfl) h2
  clear hA0 hval0
  refine (walk a0 n0 c0 A0 v1 l1 ka2 sa2 qa2 ia2 na2 fa2 ga2 Ta2 ca2 Ua2 ea2 Aa2 Ba2 W hs0 hm0 hz0 hl1 hfa2 hga2 hka2 hsa2 hqa2 hia2 hna2 (tab_of hL)).mono fun e W' ⟨he, bel⟩ => ?_
  subst he
  exact ⟨_, rfl, _, _, _, [], _, [], hW', trodAll_mk1 (shut_bool Tryz.underlying4 _), (trodAll_cons_mk (Below.trod laidOut (by kernel_rfl) (of_decide_eq_true (by kernel_rfl)) k0 bel lt0) (trodAll_cons_mk (Below.trod laidOut (by kernel_rfl) (of_decide_eq_true (by kernel_rfl)) k1 bel lt1) (trodAll_cons_mk (Below.trod laidOut (by kernel_rfl) (of_decide_eq_true (by kernel_rfl)) k2 bel lt2) trodAll_mk0))), rfl, bel.frame _, fun h => by cases h⟩

set_option maxHeartbeats 4000000 in
theorem over : Rows.storeRefusesRow.holds Tryz.pinned (OpenSpec.ofChange Rows.storeRefusesSpec) :=
  OpenClaim.holds_of_wide 7 Tryz.f7 rfl rfl rfl rfl rfl rfl rfl ⟨rfl, rfl, rfl, rfl, rfl⟩ rfl rfl rfl rfl rfl (by as_aux_lemma => kernel_rfl) Tryz.func7 (by as_aux_lemma => kernel_rfl)
    (of_decide_eq_true (by as_aux_lemma => kernel_rfl)) (by unfold Func.isWrapper; first | (rw [if_pos (by decide +kernel)]; as_aux_lemma => kernel_rfl) | (rw [if_neg (by decide +kernel)]; exact ⟨rfl, rfl⟩))
    (fun os started H enc _ => lifted os started H enc)

set_option maxHeartbeats 4000000 in
theorem proved : Rows.StoreRefusesCardSaid :=
  Claim7.holds_tied_plain_at .later [] [.data] true (true, "ef13907c1c22fa2efd37217ce8d311b19c0fecaf9c64df184703d01d535a1dd6") true
    over (fun _ h => by cases h) (by as_aux_lemma => kernel_rfl) (fun _ h => by cases h) storeRefuses_row_tie rfl ⟨rfl, rfl⟩ (by as_aux_lemma => kernel_rfl) rfl
    (fun f fn hf hfn => by
      obtain rfl : f = 7 := Option.some.inj ((show Tryz.prog.funcNamed "strongroom/strongroomlaw16.StoreRefuses" = some 7 by as_aux_lemma => kernel_rfl).symm.trans hf) |>.symm
      obtain rfl : fn = Tryz.f7 := (Option.some.inj (Tryz.func7.symm.trans hfn)).symm
      exact ⟨by as_aux_lemma => kernel_rfl, fun j t ht => by
        rw [Tryz.params7] at ht
        have hm : t ∈ [22, 23, 36] := by simpa using Array.mem_of_getElem? ht
        have hall : ([22, 23, 36].all fun u => !Tryz.prog.wantsStandIn u) = true := by as_aux_lemma => kernel_rfl
        exact (show Tryz.prog.wantsStandIn t = false by simpa using List.all_eq_true.1 hall t hm)⟩)
    (by as_aux_lemma => kernel_rfl)
#print axioms proved
end Go.Proofs.YteffjpdcghlnlaaGreatDoor.storeRefuses
