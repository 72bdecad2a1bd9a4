/- The statement DiskSure: the law strongroomlaw10.DiskSure answers true for every input, and leaves its arguments as they were. No further condition. -/
import Derived.Test.YthdhbjfenanbnaaRows
import Derived.Test.YthdhbjfenanbnaaLib
import Derived.Test.YthdhbjfenanbnaaDkW
namespace Go.Proofs.Ythdhbjfenanbnaa.diskSure
open Go.ChangeShapes Go.WideShapes Go.ChangeAt Go.RowKit
open Go.Proofs.Ythdhbjfenanbnaa.Oct
set_option linter.unusedVariables false

theorem own : ownKnob Try.prog.godebug = none := by kernel_rfl
theorem laidOut : laidOutB Try.prog = true := by kernel_rfl

set_option maxRecDepth 20000 in
set_option maxHeartbeats 8000000 in
theorem walk (n0 c0 : Nat) (A0 : Option Addr) (L0 : Nat → By) (a1 : Nat → Int) (n1 c1 : Nat) (A1 : Option Addr) (a2 : Nat → Int) (n2 c2 : Nat) (A2 : Option Addr) (w : World) (hl0 : BsSl w w.heap.size A0 n0 c0 L0) (hs1 : SlG w w.heap.size A1 n1 c1 (iV a1)) (hm1 : c1 ≤ maxLen) (hx1 : ∀ j, j < n1 → -9223372036854775808 ≤ a1 j ∧ a1 j < 9223372036854775808) (hs2 : SlG w w.heap.size A2 n2 c2 (iV a2)) (hm2 : c2 ≤ maxLen) (hx2 : ∀ j, j < n2 → -9223372036854775808 ≤ a2 j ∧ a2 j < 9223372036854775808) :
    Calls Try.prog 4 #[.slice A0 n0 c0, .slice A1 n1 c1, .slice A2 n2 c2] w fun e w' => e = .returned (.bool true) ∧ Below w.heap.size w w' := by
  have HL := Lib.hid hl0
  have HS1 := Lib.hid hs1
  have HX1 := Lib.hid hx1
  have HS2 := Lib.hid hs2
  have HX2 := Lib.hid hx2
  have hnc : n0 ≤ 9223372036854775807 := by have := hl0.le; have := hl0.big; unfold maxLen at this; omega
  have hnc1 : n1 ≤ 9223372036854775807 := by have := hs1.le; unfold maxLen at hm1; omega
  clear hl0 hs1 hm1 hx1 hs2 hm2 hx2
  go_enter Try.func4, Try.ntmps4
  go_wp2_with fail
  refine (shown_any w).mono ?_
  rintro e w1 ⟨rfl, hb1⟩
  have HC := Lib.hid (p_new (W := w) (T := fun _ => 0) (fun _ _ => rfl) hb1 1)
  clear hb1
  go_wp2_with fail
  refine HC.out.mono ?_
  rintro e w2 ⟨rfl, -, S2⟩
  have SS := Lib.hid S2
  clear S2 HC
  obtain ⟨T2, hT2⟩ : ∃ T2, T2 = paint (fun _ => 0) w1.heap.size 1 := ⟨_, rfl⟩
  obtain ⟨B, hB⟩ : ∃ B, B = w1.heap.size := ⟨_, rfl⟩
  rw [← hT2, ← hB] at SS
  rw [← hB]
  clear hT2 hB
  go_wp2_with fail
  go_loopw [9, 10, 11] (fun sv qv iv wr => ∃ (i s : Nat) (T : Mk) (d : Dk), i ≤ n0 ∧ i ≤ 20 ∧ sv = .string (str (al L0 i)) ∧ qv = .int .i64 (s : Int) ∧ iv = .int .i64 (i : Int) ∧ Sn w T wr 1 B d ∧ Su d (al L0 i) s ∧ d.n ≤ 21 * i) (fun _ _ iv _ => n0 - (intOf iv).toNat)
  case atStart => exact ⟨0, 0, T2, newD, by omega, by omega, str_nil, rfl, rfl, SS.out, Su.new, Nat.le_refl _⟩
  case round =>
    clear SS
    obtain ⟨i, s, T, d, hi, hi20, rfl, rfl, rfl, S, U, hn⟩ := hrel
    obtain ⟨wo, rfl⟩ : ∃ wo : World, wo = wr := ⟨_, rfl⟩
    have SI := Lib.hid S
    have UI := Lib.hid U
    clear S U
    by_cases hlt : i < n0 ∧ i < 20
    · have hd1 : decide ((i : Int) < (n0 : Int)) = true := by simp; omega
      have hd2 : decide ((i : Int) < 20) = true := by simp; omega
      obtain ⟨gl, ol, Ab, cb, hA1, hgl, q0, hsb, hmb⟩ := (HL.out.below SI.out.bel).at_ i hlt.1
      subst hA1
      have SB := Lib.hid hsb
      have MB := Lib.hid hmb
      have hsl := hsb.le
      have Q0 := Lib.hid q0
      clear hsb hmb
      go_wp2_with fail
      refine (few_any Ab _ cb hsl MB.out wo).mono ?_
      rintro e w1' ⟨rfl, rfl⟩
      obtain ⟨b, hb⟩ : ∃ b, b = (L0 i).take 100 := ⟨_, rfl⟩
      have hbl : min (L0 i).length 100 = b.length := by rw [hb, List.length_take]; omega
      have hb1 : b.length ≤ 100 := by omega
      have SB2 := Lib.hid (show Sl wo w.heap.size Ab b.length cb (lf b) from (SB.out.upto b.length (by omega)).congr fun k hk => by rw [hb, lf_take _ _ _ (by omega)])
      have HAL := Lib.hid (show al L0 (i + 1) = al L0 i ++ b by rw [hb]; rfl)
      have hal := al_len L0 i
      rw [hbl]
      have HBL := Lib.hid hbl
      have zo := SI.out.bel.size
      have HC := Lib.hid (p_append SI.out (by omega) (by omega) (f := 2) (b := b) rfl (SB2.out.more zo) (by omega))
      obtain ⟨u1, u2, u3⟩ := UI.out.append (b := b) (by omega)
      rw [u1] at HC
      obtain ⟨d2, hd2'⟩ : ∃ d2, d2 = (onF 2 d fun i => d.app i b).2 := ⟨_, rfl⟩
      rw [← hd2'] at HC u2 u3
      rw [← HAL.out] at u2
      have U2 := Lib.hid u2
      clear hd2' u1 u2 hb hbl UI q0
      go_wp2_with fail
      refine HC.out.mono ?_
      rintro e w3 ⟨rfl, T3, f3, S3⟩
      have SS3 := Lib.hid S3
      have q0 := (SI.out.bel.cell (p := ⟨gl, ol + i, none⟩) hgl)
      have hb3 := f3.below zo (fun k hk => by rw [SI.out.low k hk]; exact Hs_0 (by omega))
      have q0 := (hb3.cell (p := ⟨gl, ol + i, none⟩) hgl).trans Q0.out
      have SB3 := Lib.hid (SB2.out.below hb3)
      have SBf := Lib.hid (SB.out.below hb3)
      clear S3 f3 hb3 HC SI Q0
      go_wp2_with fail
      refine (few_any Ab _ cb hsl MB.out w3).mono ?_
      rintro e w1' ⟨rfl, rfl⟩
      rw [HBL.out]
      have cv1 := (show (convert 29 9 (.slice Ab b.length cb)).run Try.prog w3 = .ok (.string (str b)) w3 from run_str (P := Try.prog) sli_u u8_u str_u SB3.out)
      have hap := str_app (al L0 i) b
      have hsz : ¬ 9223372036854775807 < (str (al L0 i)).size + (str b).size := by rw [str_len, str_len]; omega
      rw [← HAL.out] at hap
      go_wp2_with fail
      clear cv1 hap hsz SB SB2 SB3 SBf MB HBL hsl HAL q0
      have hal := al_len L0 (i + 1)
      obtain ⟨a, ha⟩ : ∃ a, a = al L0 (i + 1) := ⟨_, rfl⟩
      rw [← ha] at U2 hal ⊢
      have HA := Lib.hid ha
      have hlen := str_len a
      clear ha
      go_loopw [10, 12] (fun qv kv wr => ∃ (k s : Nat) (T : Mk) (d : Dk), k ≤ n1 ∧ k ≤ 20 ∧ qv = .int .i64 (s : Int) ∧ kv = .int .i64 (k : Int) ∧ Sn w T wr 1 B d ∧ Su d a s ∧ d.n ≤ 21 * i + 1 + k) (fun _ kv _ => n1 - (intOf kv).toNat)
      case atStart => exact ⟨0, s, T3, d2, by omega, by omega, rfl, rfl, SS3.out, U2.out, by omega⟩
      case round =>
        clear SS3 U2 u3 hn
        obtain ⟨k, s, T, d, hk, hk20, rfl, rfl, S, U, hn⟩ := hrel
        obtain ⟨wo, rfl⟩ : ∃ wo : World, wo = wr := ⟨_, rfl⟩
        have SI := Lib.hid S
        have UI := Lib.hid U
        clear S U
        by_cases hlt : k < n1 ∧ k < 20
        · have hd3 : decide ((k : Int) < (n1 : Int)) = true := by simp; omega
          have hd4 : decide ((k : Int) < 20) = true := by simp; omega
          obtain ⟨gk, ok, hA1, hgk, hck⟩ := HS1.out.at_ (by omega)
          subst hA1
          have qk := (SI.out.bel.cell (p := ⟨gk, ok + k, none⟩) hgk).trans (hck k hlt.1)
          have qk : wo.cell? ⟨gk, ok + k, none⟩ = some (.int .i64 (a1 k)) := qk
          have hwf : (Lit.int .i64 (a1 k)).wf = true := by
            have := HX1.out k hlt.1
            simp only [Lit.wf, IntKind.min, IntKind.max, IntKind.signed, IntKind.bits, Bool.and_eq_true, decide_eq_true_eq, if_true]
            omega
          have HK := Lib.hid (kind_any (a1 k) 20 hwf (by omega) (by omega) wo)
          rw [show ((20 : Nat) : Int) = 20 from rfl] at HK
          clear hck
          go_wp2_with fail
          refine HK.out.mono ?_
          rintro e w1' ⟨rfl, rfl⟩
          obtain ⟨q, hq⟩ : ∃ q, q = knd (a1 k) 20 := ⟨_, rfl⟩
          rw [← hq]
          clear hq HK qk hwf
          by_cases he : q = i
          · have hd5 : decide ((q : Int) = (i : Int)) = true := by simp; omega
            have HC := Lib.hid (p_sync SI.out (by omega) (by omega) 2)
            obtain ⟨u1, u2, u3⟩ := UI.out.sync
            rw [u1] at HC
            obtain ⟨d3, hd3'⟩ : ∃ d3, d3 = (onF 2 d fun i => d.sync i).2 := ⟨_, rfl⟩
            rw [← hd3'] at HC u2 u3
            have U3 := Lib.hid u2
            clear u1 u2 hd3' UI SI
            go_wp2_with fail
            refine HC.out.mono ?_
            rintro e w4 ⟨rfl, T4, -, S4⟩
            have SS4 := Lib.hid S4
            clear S4 HC
            go_wp2_with fail
            exact ⟨⟨k + 1, a.length, T4, d3, by omega, by omega, rfl, by push_cast; rfl, SS4.out, U3.out, by omega⟩, by simp [intOf]; omega⟩
          · have hd5 : decide ((q : Int) = (i : Int)) = false := by simp; omega
            go_wp2_with fail
            exact ⟨⟨k + 1, s, T, d, by omega, by omega, rfl, by push_cast; rfl, SI.out, UI.out, by omega⟩, by simp [intOf]; omega⟩
        · by_cases hk1 : k < n1
          case' pos =>
            have hd3 : decide ((k : Int) < (n1 : Int)) = true := by simp; omega
            have hd4 : decide ((k : Int) < 20) = false := by simp; omega
          case' neg =>
            have hd3 : decide ((k : Int) < (n1 : Int)) = false := by simp; omega
          all_goals
            go_wp2_with fail
            exact ⟨⟨i + 1, s, T, d, by omega, by omega, by rw [HA.out], rfl, by push_cast; rfl, SI.out, by rw [← HA.out]; exact UI.out, by omega⟩, by simp [intOf]; omega⟩
    · have hle := al_len L0 i
      obtain ⟨a, ha⟩ : ∃ a, a = al L0 i := ⟨_, rfl⟩
      rw [← ha] at UI hle ⊢
      have hsa := UI.out.le SI.out.ok
      have HC := Lib.hid (p_boot SI.out (by omega) (by omega) (SI.out.ints HS2.out HX2.out))
      obtain ⟨z, hz1, hz2, hz3, hz4, hz5⟩ := UI.out.boot SI.out.ok (pck a2 n2)
      have hnn : (d.boot (pck a2 n2)).n = d.n := rfl
      obtain ⟨d2, hd2'⟩ : ∃ d2, d2 = d.boot (pck a2 n2) := ⟨_, rfl⟩
      rw [← hd2'] at hz1 hnn HC
      clear hd2' UI SI ha
      have Z1 := Lib.hid hz1
      have Z4 := Lib.hid hz4
      have Z5 := Lib.hid hz5
      have hlen := str_len a
      have HN := Lib.hid hnn
      clear hz1 hz4 hz5 hnn
      by_cases hk1 : i < n0
      case' pos =>
        have hd3 : decide ((i : Int) < (n0 : Int)) = true := by simp; omega
        have hd4 : decide ((i : Int) < 20) = false := by simp; omega
      case' neg =>
        have hd3 : decide ((i : Int) < (n0 : Int)) = false := by simp; omega
      all_goals
        go_wp2_with fail
        refine HC.out.mono ?_
        rintro e w3 ⟨rfl, T3, -, S3⟩
        have SS3 := Lib.hid S3
        have HD := Lib.hid (p_read SS3.out (by have := HN.out; omega) 2 0)
        rw [Z1.out] at HD
        clear S3 HC
        go_wp2_with fail
        refine HD.out.mono ?_
        rintro e w4 ⟨v4, rfl, o4, b4, S4⟩
        obtain ⟨A4, c4, rfl, r4, hm4⟩ := o4.rd
        have RR := Lib.hid r4
        have HBL := Lib.hid S4.bel
        clear o4 b4 S4 r4 HD SS3
        go_wp2_with fail
        have hzc := RR.out.sl.le
        have CV1 := Lib.hid (fun (y : World) (hy : Below w4.heap.size w4 y) (k : Nat) (hk : k ≤ z.length) => (RR.out.fr (Fr.new (H := fun _ => False) hy 0) (fun e => e)).convT k hk)
        have UP1 := Lib.hid (fun (k : Nat) (hk : k ≤ z.length) => run_upto sli_u u8_i A4 z.length c4 k (by omega))
        have UP2 := Lib.hid (fun (k : Nat) (hk : k ≤ a.length) => run_strUpto (P := Try.prog) str_u a k hk)
        obtain ⟨N, hN⟩ : ∃ N, N = z.length := ⟨_, rfl⟩
        obtain ⟨p, hp⟩ : ∃ p, p = a.take s := ⟨_, rfl⟩
        rw [← hN] at UP1 Z5 hz2 hz3 CV1 hzc ⊢
        have hd5 : decide (N < s) = false := by simp; omega
        have hd6 : decide (a.length < N) = false := by simp; omega
        have e2 := UP1.out s (by omega)
        have e3 := UP2.out s (by omega)
        rw [← hp] at e3
        clear RR hN
        refine flow_seen [] [0, 1, 2, 3, 4, 5, 6, 7, 8, 9, 10, 11, 12, 13, 14, 15, 16, 17, 18, 19, 20, 21, 22, 23, 24] (by kernel_rfl) (by kernel_rfl) (fun _ _ _ _ _ h => h) fun X => ?_
        have HB5 := Lib.hid X.below
        have cv1 : ∀ y : After X.val, (convert 29 9 (.slice A4 s c4)).run Try.prog y.val = .ok (.string (str p)) y.val := fun y => by rw [hp, ← Z4.out]; exact CV1.out y.val (onto X.below X.below.size y.below) s hz2
        obtain ⟨w5, hw5⟩ : ∃ w5, w5 = X.val := ⟨_, rfl⟩
        rw [← hw5] at HB5 cv1 ⊢
        clear hw5 X hp
        simp only [wpFs, pk, List.getElem?_cons_zero, List.getElem?_cons_succ]
        repeat (go_big_quiet_step (fail))
        refine wpQuiet_nil ?_
        clear cv1 e2 e3 hd5 hd6 Z4
        by_cases hNs : N = s
        · subst hNs
          have hd5 : decide ((N : Int) = (N : Int)) = true := by simp
          clear Z5 CV1 UP1 UP2
          go_wp2_with fail
          refine flow_seen [] [0, 1, 2, 3, 4, 5, 6, 7, 8, 9, 10, 11, 12, 13, 14, 15, 16, 17, 18] (by kernel_rfl) (by kernel_rfl) (fun _ _ _ _ _ h => h) fun X => ?_
          have HB6 := Lib.hid (onto HBL.out HBL.out.size (onto HB5.out HB5.out.size X.below))
          obtain ⟨w6, hw6⟩ : ∃ w6, w6 = X.val := ⟨_, rfl⟩
          rw [← hw6] at HB6 ⊢
          clear hw6 X
          simp only [wpFs, pk, List.getElem?_cons_zero, List.getElem?_cons_succ]
          repeat (go_big_quiet_step (fail))
          refine wpQuiet_nil ?_
          go_wp2_with fail
          go_ret
          exact ⟨rfl, HB6.out⟩
        · obtain ⟨m, hm⟩ : ∃ m, N = m + 1 := ⟨N - 1, by omega⟩
          have hd5 : ((N : Int) == (s : Int)) = false := by simp; omega
          have hd6 : decide (N = s) = false := by simp; omega
          have hm1 : (N : Int) - 1 = m := by omega
          have hmN : m ≤ N := by omega
          have hmz : N - 1 = m := by omega
          clear hm
          obtain ⟨p, hp⟩ : ∃ p, p = a.take m := ⟨_, rfl⟩
          have e2 := UP1.out m hmN
          have e3 := UP2.out m (by omega)
          rw [← hp] at e3
          rw [hmz, ← hp] at Z5
          clear hmz
          go_wp2_with fail
          refine flow_seen [] [0, 1, 2, 3, 4, 5, 6, 7, 8, 9, 10, 11, 12, 13, 14, 15, 16, 17, 18] (by kernel_rfl) (by kernel_rfl) (fun _ _ _ _ _ h => h) fun X => ?_
          have HB6 := Lib.hid (onto HBL.out HBL.out.size (onto HB5.out HB5.out.size X.below))
          have cv1 : ∀ y : After X.val, (convert 29 9 (.slice A4 m c4)).run Try.prog y.val = .ok (.string (str p)) y.val := fun y => by rw [← Z5.out]; exact CV1.out y.val (onto HB5.out HB5.out.size (onto X.below X.below.size y.below)) m hmN
          obtain ⟨w6, hw6⟩ : ∃ w6, w6 = X.val := ⟨_, rfl⟩
          rw [← hw6] at HB6 cv1 ⊢
          clear hw6 X hp
          simp only [wpFs, pk, List.getElem?_cons_zero, List.getElem?_cons_succ]
          repeat (go_big_quiet_step (fail))
          refine wpQuiet_nil ?_
          go_wp2_with fail
          go_ret
          exact ⟨rfl, HB6.out⟩

set_option maxRecDepth 100000 in
theorem lifted (os : Os) (started : os.Started) (H : Type) (enc : TypeId × Value → H) :
    ReturnsInHanded {} Try.checked os 4 .any (Rows.diskSureSpec.pre6 enc Try.prog Try.f4 Rows.diskSureRow.domain false) (Rows.diskSureSpec.post enc Try.prog Try.f4 false true false false) := by
  refine returnsInHanded_of_change (C := Try.checked) own started (by kernel_rfl) Try.func4
    (ChangeSpec.witness6 (enc := enc) (C := Try.checked) false ⟨#[], #[.slice none 0 0, .slice none 0 0, .slice none 0 0], []⟩ 8 (by kernel_rfl) (by kernel_rfl) (by kernel_rfl) (by kernel_rfl)) ?_
  intro W base args ds gs before hval0 hW hcnd _
  have hval : ∀ (j : Nat) t v, Try.f4.params[j]? = some t → args[j]? = some v → Value.okWide Try.prog W .any base t v := hval0
  have hW' := hW
  obtain ⟨p, q, hA0, hV, rfl, hfz, hnd⟩ := hW
  have hA : DataW.TrodAll enc Try.prog W 0 (fun _ => true) true Try.f4.params.toList args.toList ds p := hA0
  rw [Try.params4] at hA hval
  obtain ⟨v0, vs0, d0, ds0, p0, q0, hargs, rfl, rfl, h0, r0⟩ := trodAll_cons hA
  obtain ⟨v1, vs1, d1, ds1, p1, q1, rfl, rfl, rfl, h1, r1⟩ := trodAll_cons r0
  obtain ⟨v2, vs2, d2, ds2, p2, q2, rfl, rfl, rfl, h2, r2⟩ := trodAll_cons r1
  obtain ⟨rfl, rfl, rfl⟩ := trodAll_nil r2
  obtain rfl : args = #[v0, v1, v2] := by cases args; simp_all
  obtain ⟨rfl, rfl⟩ := trodVars_none hV
  have k0 := h0
  have lt0 : ∀ x ∈ p0, x.block < W.heap.size := by obtain ⟨m, hm⟩ := k0; exact DataW.trod_lt m _ _ _ hm
  obtain ⟨A0, n0, c0, L0, rfl, hl0⟩ := open_bss (hval 0 47 v0 rfl rfl) h0
  have k1 := h1
  have lt1 : ∀ x ∈ p1, x.block < W.heap.size := by obtain ⟨m, hm⟩ := k1; exact DataW.trod_lt m _ _ _ hm
  obtain ⟨A1, n1, c1, a1, rfl, hs1, hm1, hx1⟩ := open_ints Try.underlying30 Try.underlying3 (by kernel_rfl) (hval 1 30 v1 rfl rfl) h1
  have k2 := h2
  have lt2 : ∀ x ∈ p2, x.block < W.heap.size := by obtain ⟨m, hm⟩ := k2; exact DataW.trod_lt m _ _ _ hm
  obtain ⟨A2, n2, c2, a2, rfl, hs2, hm2, hx2⟩ := open_ints Try.underlying30 Try.underlying3 (by kernel_rfl) (hval 2 30 v2 rfl rfl) h2
  clear hA0 hval0
  refine (walk n0 c0 A0 L0 a1 n1 c1 A1 a2 n2 c2 A2 W hl0 hs1 hm1 hx1 hs2 hm2 hx2).mono fun e W' ⟨he, bel⟩ => ?_
  subst he
  exact ⟨_, rfl, _, _, _, [], _, [], hW', trodAll_mk1 (shut_bool Try.underlying4 _), (trodAll_cons_mk (Below.trod laidOut (by kernel_rfl) (of_decide_eq_true (by kernel_rfl)) k0 bel lt0) (trodAll_cons_mk (Below.trod laidOut (by kernel_rfl) (of_decide_eq_true (by kernel_rfl)) k1 bel lt1) (trodAll_cons_mk (Below.trod laidOut (by kernel_rfl) (of_decide_eq_true (by kernel_rfl)) k2 bel lt2) trodAll_mk0))), rfl, bel.frame _, fun h => by cases h⟩

theorem over : Rows.diskSureRow.holds Try.pinned (OpenSpec.ofChange Rows.diskSureSpec) :=
  OpenClaim.holds_of_wide 4 Try.f4 rfl rfl rfl rfl rfl rfl rfl ⟨rfl, rfl, rfl, rfl, rfl⟩ rfl rfl rfl rfl rfl (by kernel_rfl) Try.func4 (by kernel_rfl)
    (of_decide_eq_true (by kernel_rfl)) (by unfold Func.isWrapper; first | (rw [if_pos (by decide +kernel)]; kernel_rfl) | (rw [if_neg (by decide +kernel)]; exact ⟨rfl, rfl⟩))
    (fun os started H enc _ => lifted os started H enc)

theorem proved : Rows.DiskSureSaid := over
#print axioms proved
end Go.Proofs.Ythdhbjfenanbnaa.diskSure
