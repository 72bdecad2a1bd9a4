/- Contracts: an append of seats that came in; Of of the reference. -/
import Derived.Test.YthokiohdeclmhaaSsZ
namespace Go.Proofs.Ythokiohdeclmhaa.Oct
open Go.ChangeShapes Go.WideShapes Go.ChangeAt Go.RowKit Go.Maps
set_option linter.unusedVariables false

theorem repS_zero (c n m : Int) (T : Nat) (f g : Bf) : repS c n m 0 0 0 T 0 f g = zB c n m T := by
  have h : teqB T 0 f g = ((T : Int) == 0) := by
    rw [Bool.eq_iff_iff, teq_iff, beq_iff_eq]
    exact ⟨fun h => by omega, fun h => ⟨by omega, fun i hi => by omega⟩⟩
  unfold repS zB
  rw [h]
/-- seats that came in as the source of an append -/
theorem SeRd.src {T : Mk} {H : Nat → Prop} {w0 w : World} {A : Option Addr} {c : Nat} {l : List Se} (h : SeRd w0 A c l) (F : Fr (fun _ => 0) T H w0 w) (h0 : ¬ H 0) (hpos : 0 < l.length) :
    ∃ vs : List Value, vs.length = l.length * 6 ∧ (∀ i (h : i < l.length), ∃ ws, seEl T w l[i] ws ∧ ∀ j, j < 6 → vs[i * 6 + j]? = ws[j]?) ∧ (∀ v ∈ vs, v.oneCell' = true) ∧ ∀ i, Try.prog.info? 50 = some i → Src Try.prog i.size 43 (.slice A l.length c) l.length vs w := by
  obtain ⟨g, o, A0, k0, rfl, hg, -, -⟩ := h.at_ 0 hpos
  have hat : ∀ i (hi : i < l.length), ∃ V k, (∀ j, j < 6 → w.cell? ⟨g, o + i * 6 + j, none⟩ = ([.int .i64 (l[i]).id, .int .i64 (l[i]).q, .int .i64 (l[i]).c, .int .i64 (l[i]).n, .int .i64 (l[i]).m, .slice V (l[i]).T k] : List Value)[j]?) ∧ RdS T w 0 V (l[i]).T k (l[i]).f := fun i hi => by
    obtain ⟨g', o', V, k, e, hg', hc, hs⟩ := h.at_ i hi
    cases e
    exact ⟨V, k, fun j hj => (F.cellAt hg h0).trans (hc j hj), (RdS.of_sl (T := fun _ => 0) (t := 0) hs (Nat.le_refl _) fun _ _ => rfl).fr F h0⟩
  have hget : ∀ i (hi : i < l.length), ∃ ws, seEl T w l[i] ws ∧ ∀ j, j < 6 → ((List.range (l.length * 6)).map fun x => (w.cell? ⟨g, o + x, none⟩).getD undef)[i * 6 + j]? = ws[j]? ∧ w.cell? ⟨g, o + (i * 6 + j), none⟩ = ws[j]? := fun i hi => by
    obtain ⟨V, k, hc, hr⟩ := hat i hi
    refine ⟨_, ⟨V, k, rfl, hr⟩, fun j hj => ?_⟩
    have e := hc j hj
    rw [show o + i * 6 + j = o + (i * 6 + j) by omega] at e
    have hm : (i + 1) * 6 ≤ l.length * 6 := Nat.mul_le_mul_right 6 hi
    refine ⟨?_, e⟩
    rw [List.getElem?_map, List.getElem?_range (by omega), Option.map_some, e]
    have hj2 : j < ([.int .i64 (l[i]).id, .int .i64 (l[i]).q, .int .i64 (l[i]).c, .int .i64 (l[i]).n, .int .i64 (l[i]).m, .slice V (l[i]).T k] : List Value).length := hj
    rw [List.getElem?_eq_getElem hj2, Option.getD_some]
  have hlen : ((List.range (l.length * 6)).map fun x => (w.cell? ⟨g, o + x, none⟩).getD undef).length = l.length * 6 := by simp
  have hdm (x : Nat) : x / 6 * 6 + x % 6 = x := by rw [Nat.mul_comm]; exact Nat.div_add_mod x 6
  have hone : ∀ v ∈ (List.range (l.length * 6)).map fun x => (w.cell? ⟨g, o + x, none⟩).getD undef, v.oneCell' = true := fun v hv => by
    obtain ⟨x, hx, rfl⟩ := List.getElem_of_mem hv
    rw [hlen] at hx
    obtain ⟨ws, h4, h5⟩ := hget (x / 6) (Nat.div_lt_of_lt_mul (by rw [Nat.mul_comm]; exact hx))
    have h6 := (h5 (x % 6) (Nat.mod_lt _ (by omega))).1
    rw [hdm, List.getElem?_eq_getElem (by rw [hlen]; exact hx)] at h6
    exact seEl_ok.one h4 _ (List.mem_of_getElem? h6.symm)
  refine ⟨_, hlen, fun i hi => ?_, hone, fun i hq => ?_⟩
  · obtain ⟨ws, h4, h5⟩ := hget i hi
    exact ⟨ws, h4, fun j hj => (h5 j hj).1⟩
  · have hs : i.size = 6 := by have e := se_i; rw [hq] at e; exact Option.some.inj e
    exact Src.ofSlice w ssl_u ⟨g, o, none⟩ l.length c _ (by rw [hlen, hs]) (fun j y hy => by
      have hj : j < l.length * 6 := by
        rcases Nat.lt_or_ge j (l.length * 6) with e | e
        · exact e
        · rw [List.getElem?_eq_none (by rw [hlen]; exact e)] at hy; cases hy
      obtain ⟨ws, h4, h5⟩ := hget (j / 6) (Nat.div_lt_of_lt_mul (by rw [Nat.mul_comm]; exact hj))
      obtain ⟨h6, h7⟩ := h5 (j % 6) (Nat.mod_lt _ (by omega))
      rw [hdm] at h6 h7
      rw [add_mid, h7, ← h6]
      exact hy) hone
theorem wpl_appSe {T : Mk} {H : Nat → Prop} {w0 w : World} {A : Option Addr} {c : Nat} {l : List Se} {ops : Array Oper} {rest : List Oper} {o : Oper} {a : Act} {Q : Exit → Act → World → Prop} (hgd : o.guard = none) (s y : Operand)
    (ho : o.op = .call { callee := .builtin .append, args := #[s, y], argTypes := #[43, 43] }) (h : SeRd w0 A c l) (F : Fr (fun _ => 0) T H w0 w) (h0 : ¬ H 0) (hl : l.length < 1000) (p tg : Nat) (htg : 0 ≠ tg)
    (hv : a.eval s = .slice (some ⟨p, 0, none⟩) 0 0) (hy : a.eval y = .slice A l.length c)
    (hk : ∀ A' c' w', ElAt 6 seEl (paint T w.heap.size tg) w' tg A' c' l → Fr T (paint T w.heap.size tg) (fun c => c = tg) w w' → wpList Try.prog ops Q rest (a.put o.dst (.slice A' l.length c')) w') : wpList Try.prog ops Q (o :: rest) a w := by
  rcases Nat.eq_zero_or_pos l.length with e | e
  · have hl0 : l = [] := List.eq_nil_of_length_eq_zero e
    subst hl0
    refine wpl_appNo hgd s y ho ssl_u se_i (q := p) (n := 0) (c := 0) (V := A) (cV := c) (Nat.le_refl _) hv hy ?_
    exact hk _ _ w (ElAt.empty _ _ _ _) ((Fr.refl T _ w).painted _ (Nat.le_refl _))
  · obtain ⟨vs, hvl, hx, hone, hSS⟩ := h.src F h0 e
    refine wpl_appSrc seEl_ok hgd s y ho ssl_u se_info rfl (by decide) (by decide) (ElAt.empty T w tg (some ⟨p, 0, none⟩)) hSS hvl hx e hone (by rw [List.length_nil]; omega) htg hv hy fun A' c' w' h1 h2 => ?_
    rw [List.nil_append] at h1
    rw [List.length_nil, Nat.zero_add]
    exact hk A' c' w' h1 h2
theorem rt_b2 (A : Option Addr) (k c : Nat) (x : Int) (w : World) : (Instr.build 48 #[(0, .slice A k c), (1, .int .i64 x)]).run Try.prog w = .ok (.agg #[.slice A k c, .int .i64 x]) w := by kernel_rfl
set_option maxRecDepth 20000 in
set_option maxHeartbeats 16000000 in
theorem rof15_any (T : Mk) (t : Nat) (A : Option Addr) (c : Nat) (l : List Se) (n : Int) (w0 w : World) (h : SeRd w0 A c l) (F : Fr (fun _ => 0) T (fun x => x ≠ 0) w0 w) (ht : 0 < t) (hl : l.length < 1000) (hb : SeB l) :
    Calls Try.prog 26 #[.slice A l.length c, .int .i64 n] w fun e w' => ∃ T', Fr T T' (fun x => x = t + 1) w w' ∧ ((OfOk l n ∧ ∃ B A' c', e = .returned (.tuple #[.pointer (some ⟨B, 0, none⟩), .int .i64 0]) ∧ YtAt T' w' t B A' c' l (n - 1)) ∨ (¬ OfOk l n ∧ e = .returned (.tuple #[.pointer none, .int .i64 1]))) := by
  have H1 := Lib.hid h
  have HF := Lib.hid F
  have hle := h.le
  have HR := Lib.hid (show ∀ s ∈ l, ∀ j, -9223372036854775808 ≤ repN s.c s.n s.m j ∧ repN s.c s.n s.m j < 9223372036854775808 from fun s hs => repN_bd (hb s hs).2.2.1 (hb s hs).2.2.2.1 (hb s hs).2.2.2.2.1)
  have B0 := Lib.hid (show Below w0.heap.size w0 w from F.below (Nat.le_refl _) fun k _ => by simp)
  obtain ⟨P, hP⟩ : ∃ P : Ending → World → Prop, P = fun e w' => ∃ T', Fr T T' (fun x => x = t + 1) w w' ∧ ((OfOk l n ∧ ∃ B A' c', e = .returned (.tuple #[.pointer (some ⟨B, 0, none⟩), .int .i64 0]) ∧ YtAt T' w' t B A' c' l (n - 1)) ∨ (¬ OfOk l n ∧ e = .returned (.tuple #[.pointer none, .int .i64 1]))) := ⟨_, rfl⟩
  have HNO := Lib.hid (show ¬ OfOk l n → ∀ w2, Below w.heap.size w w2 → P (.returned (.tuple #[.pointer none, .int .i64 1])) w2 from fun hk w2 hb2 => by rw [hP]; exact ⟨paint T w.heap.size 0, Fr.new hb2 0, .inr ⟨hk, rfl⟩⟩)
  rw [← hP]
  have HP := Lib.hid hP
  clear h F hb hP
  go_enter Try.func26, Try.ntmps26
  go_upto_region 1 with fail
  by_cases d1 : n < 1
  · have e1 : decide (n < 1) = true := decide_eq_true d1
    have HF := Lib.hid (HNO.out (fun h => by have := h.n0; omega))
    clear d1
    go_wp2_with fail
    exact HF.out _ (Below.refl _ _)
  have e1 : decide (n < 1) = false := decide_eq_false d1
  by_cases d2 : 1099511627776 < n
  · have e2 : decide (1099511627776 < n) = true := decide_eq_true d2
    have HF := Lib.hid (HNO.out (fun h => by have := h.n1; omega))
    clear d1 d2
    go_wp2_with fail
    exact HF.out _ (Below.refl _ _)
  have e2 : decide (1099511627776 < n) = false := decide_eq_false d2
  by_cases d3 : 8 < l.length
  · have e3 : decide (8 < (l.length : Int)) = true := decide_eq_true (by omega)
    have HF := Lib.hid (HNO.out (fun h => by have := h.len; omega))
    clear d1 d2 d3
    go_wp2_with fail
    exact HF.out _ (Below.refl _ _)
  have e3 : decide (8 < (l.length : Int)) = false := decide_eq_false (by omega)
  have HL := Lib.hid (show 1 ≤ n ∧ n ≤ 1099511627776 ∧ l.length ≤ 8 from ⟨by omega, by omega, by omega⟩)
  clear d1 d2 d3
  go_wp2_with fail
  clear e1 e2 e3
  go_loopw [6] (fun iv wr => ∃ i : Nat, i ≤ l.length ∧ iv = .int .i64 (i : Int) ∧ Below w.heap.size w wr ∧ ∀ j (hj : j < l.length), j < i → lst l j < lst l (j + 1) ∧ (l[j]).id < n ∧ noB l[j] = false) (fun iv _ => l.length - (intOf iv).toNat)
  case atStart => exact ⟨0, by omega, rfl, Below.refl _ _, fun j _ hj => absurd hj (by omega)⟩
  case round =>
    obtain ⟨i, hi, rfl, hb, hall⟩ := hrel
    obtain ⟨wo, rfl⟩ : ∃ wo : World, wo = wr := ⟨_, rfl⟩
    have Bo := Lib.hid hb
    have HALL := Lib.hid hall
    clear hb hall
    by_cases hlt : i < l.length
    · have hd : decide ((i : Int) < (l.length : Int)) = true := by simp; omega
      have hw : IntKind.i64.wrap ((i : Int) + 1) = (i : Int) + 1 := IntWalk.i64_in _ (by omega)
      obtain ⟨g, o, V, k, rfl, f1⟩ := H1.out.seat hlt
      have Bz := Lib.hid (onto B0.out B0.out.size Bo.out)
      have hrx := HR.out l[i] (List.getElem_mem hlt)
      obtain ⟨x, hx⟩ : ∃ x, x = l[i] := ⟨_, rfl⟩
      rw [← hx] at f1 hrx
      have q0 := f1 wo Bz.out
      have a2 := q0.2.2.1
      have H5 := Lib.hid (rreply_any x.c x.n x.m x.T k V x.f wo q0.2.2.2.2 hrx)
      have HX := Lib.hid hx
      have F1 := Lib.hid f1
      obtain ⟨E, hE⟩ : ∃ E, E = repE x.c x.n x.m x.T := ⟨_, rfl⟩
      rw [← hE] at H5
      have HE := Lib.hid hE
      clear hx f1 q0 hE hrx
      go_wp2_with fail
      refine H5.out.mono ?_
      intro e w2 hp
      obtain ⟨V5, rfl, hb2⟩ : ∃ V, e = .returned (.tuple #[V, .int .i64 ((E : Nat) : Int)]) ∧ Below wo.heap.size wo w2 := by
        rcases hp with ⟨-, rfl, hb⟩ | ⟨rfl, v, rfl, -, hb⟩
        · exact ⟨_, rfl, hb⟩
        · exact ⟨v, rfl, hb⟩
      have B2 := Lib.hid (onto Bo.out Bo.out.size hb2)
      have Bz2 := Lib.hid (onto Bz.out Bz.out.size hb2)
      clear hp hb2 a2 H5
      have q0 := F1.out w2 Bz2.out
      have a2 := q0.2.2.1
      have H6 := samerep_any x.c x.n x.m 0 0 0 x.T 0 k 0 V none x.f (fun _ => 0#8) w2 q0.2.2.2.2 (Sl.nothing _ _ _ _ _)
      rw [repS_zero] at H6
      obtain ⟨b8, h8⟩ : ∃ b, b = zB x.c x.n x.m x.T := ⟨_, rfl⟩
      rw [← h8] at H6
      have H6' := Lib.hid H6
      have H8 := Lib.hid h8
      have bd0 := rp_b0
      clear q0 H6 h8
      go_wp2_with fail
      refine H6'.out.mono ?_
      rintro e w3 ⟨rfl, hb3⟩
      have B3 := Lib.hid (onto B2.out B2.out.size hb3)
      have Bz3 := Lib.hid (onto Bz2.out Bz2.out.size hb3)
      clear hb3 H6' a2 B2 Bo Bz Bz2
      go_upto_region 8 with fail
      simp only [List.append_eq, List.cons_append, List.nil_append]
      refine flow_seen [] [0, 1, 2, 3, 4, 5, 6, 7, 8, 9, 10, 11, 12, 13, 14, 15, 16, 17, 18, 19, 20, 21, 22, 23, 24, 25, 26, 27, 28, 29, 30, 31, 32, 33, 34, 35, 36, 37, 38, 39, 40, 41, 42, 43, 44, 45, 46, 47, 48, 49, 50, 51, 52, 53, 54, 55, 56, 57, 58, 59, 60, 61, 62, 63, 64] (by kernel_rfl) (by kernel_rfl) (fun _ _ _ _ _ h => h) fun Z => ?_
      have B4 := Lib.hid (onto B3.out B3.out.size Z.below)
      have Bz4 := Lib.hid (onto Bz3.out Bz3.out.size Z.below)
      obtain ⟨w4, hw4⟩ : ∃ w4, w4 = Z.val := ⟨_, rfl⟩
      rw [← hw4] at B4 Bz4 ⊢
      clear hw4 Z B3 Bz3
      have Ba := fun y : After w4 => onto Bz4.out Bz4.out.size y.below
      have a0 := fun y : After w4 => (F1.out y.val (Ba y)).1
      have a1 := fun y : After w4 => (F1.out y.val (Ba y)).2.1
      simp only [wpFs, pk, List.getElem?_cons_zero, List.getElem?_cons_succ]
      obtain ⟨b1, h1⟩ : ∃ b, b = decide (x.id < 1) := ⟨_, rfl⟩
      obtain ⟨b2, h2⟩ : ∃ b, b = decide (n ≤ x.id) := ⟨_, rfl⟩
      obtain ⟨b4, h4⟩ : ∃ b, b = decide (x.q < 0) := ⟨_, rfl⟩
      obtain ⟨b5, h5⟩ : ∃ b, b = decide (1099511627776 < x.q) := ⟨_, rfl⟩
      obtain ⟨b6, h6⟩ : ∃ b, b = ((E : Int) != 0) := ⟨_, rfl⟩
      obtain ⟨b7, h7⟩ : ∃ b, b = (x.q == 0) := ⟨_, rfl⟩
      have hno : noB x = (b4 || (b5 || (b6 || (b7 && !b8)))) := by unfold noB; rw [h4, h5, h6, h7, H8.out, HE.out]
      have d1 := h1.symm
      have d2 := h2.symm
      have d4 := h4.symm
      have d5 := h5.symm
      have d6 := h6.symm
      have d7 := h7.symm
      have hid : lst l (i + 1) = x.id := by rw [lst_s l i hlt, HX.out]
      have hup : i = 0 ∨ ∃ p, i = p + 1 := by
        rcases i with _ | p
        · exact .inl rfl
        · exact .inr ⟨p, rfl⟩
      rcases hup with hi0 | ⟨p, hp⟩
      · have d0 : decide (0 < (i : Int)) = false := by simp; omega
        have d0' : decide (0 < i) = false := by simp; omega
        have HBAD := Lib.hid (show (b1 || (b2 || noB x)) = true → ¬ OfOk l n from fun hh hk => by
          have u := hk.up i hlt
          have v := hk.no _ (List.getElem_mem hlt)
          have z := lst_mono hk.up (l.length - (i + 1)) (i + 1) (by omega)
          rw [show i + 1 + (l.length - (i + 1)) = l.length by omega, hid] at z
          have zz := hk.last
          rw [hid, hi0, lst_0] at u
          rw [← HX.out] at v
          rw [v, h1, h2] at hh
          simp at hh
          omega)
        have HGOOD := Lib.hid (show (b1 || (b2 || noB x)) = false → lst l i < lst l (i + 1) ∧ (l[i]).id < n ∧ noB l[i] = false from fun hh => by
          rw [← HX.out, hid, hi0, lst_0]
          rw [h1, h2] at hh
          simp at hh
          exact ⟨by omega, by omega, hh.2.2⟩)
        rw [hno] at HBAD HGOOD
        clear h1 h2 h4 h5 h6 h7 hno hid hi0 Ba
        cases b1 with
        | true =>
          have HQ := Lib.hid (HNO.out (HBAD.out (by simp)))
          clear HBAD HGOOD
          repeat (go_big_quiet_step (fail))
          refine wpQuiet_nil ?_
          clear a0 a1
          go_wp2_with fail
          exact HQ.out _ B4.out
        | false =>
          cases b2 with
          | true =>
            have HQ := Lib.hid (HNO.out (HBAD.out (by simp)))
            clear HBAD HGOOD
            repeat (go_big_quiet_step (fail))
            refine wpQuiet_nil ?_
            clear a0 a1
            go_wp2_with fail
            exact HQ.out _ B4.out
          | false =>
            cases b4 with
            | true =>
              have HQ := Lib.hid (HNO.out (HBAD.out (by simp)))
              clear HBAD HGOOD
              repeat (go_big_quiet_step (fail))
              refine wpQuiet_nil ?_
              clear a0 a1
              go_wp2_with fail
              exact HQ.out _ B4.out
            | false =>
              cases b5 with
              | true =>
                have HQ := Lib.hid (HNO.out (HBAD.out (by simp)))
                clear HBAD HGOOD
                repeat (go_big_quiet_step (fail))
                refine wpQuiet_nil ?_
                clear a0 a1
                go_wp2_with fail
                exact HQ.out _ B4.out
              | false =>
                cases b6 with
                | true =>
                  have HQ := Lib.hid (HNO.out (HBAD.out (by simp)))
                  clear HBAD HGOOD
                  repeat (go_big_quiet_step (fail))
                  refine wpQuiet_nil ?_
                  clear a0 a1
                  go_wp2_with fail
                  exact HQ.out _ B4.out
                | false =>
                  cases b7 with
                  | false =>
                    have HQ := Lib.hid (HGOOD.out (by simp))
                    clear HBAD HGOOD
                    repeat (go_big_quiet_step (fail))
                    refine wpQuiet_nil ?_
                    clear a0 a1
                    go_wp2_with fail
                    refine ⟨⟨i + 1, by omega, by rw [Int.natCast_succ], B4.out, fun j hj hj2 => ?_⟩, ?_⟩
                    · by_cases hji : j < i
                      · exact HALL.out j hj hji
                      · obtain rfl : j = i := by omega
                        exact HQ.out
                    · simp only [intOf]
                      omega
                  | true =>
                    cases b8 with
                    | true =>
                      have HQ := Lib.hid (HGOOD.out (by simp))
                      clear HBAD HGOOD
                      repeat (go_big_quiet_step (fail))
                      refine wpQuiet_nil ?_
                      clear a0 a1
                      go_wp2_with fail
                      refine ⟨⟨i + 1, by omega, by rw [Int.natCast_succ], B4.out, fun j hj hj2 => ?_⟩, ?_⟩
                      · by_cases hji : j < i
                        · exact HALL.out j hj hji
                        · obtain rfl : j = i := by omega
                          exact HQ.out
                      · simp only [intOf]
                        omega
                    | false =>
                      have HQ := Lib.hid (HNO.out (HBAD.out (by simp)))
                      clear HBAD HGOOD
                      repeat (go_big_quiet_step (fail))
                      refine wpQuiet_nil ?_
                      clear a0 a1
                      go_wp2_with fail
                      exact HQ.out _ B4.out
      · have d0 : decide (0 < (i : Int)) = true := by simp; omega
        have d0' : decide (0 < i) = true := by simp; omega
        have hpl : p < l.length := by omega
        have hw2 : IntKind.i64.wrap ((i : Int) - 1) = (p : Int) := by rw [IntKind.wrap_i64]; omega
        obtain ⟨g', o', V', k', e, f2⟩ := H1.out.seat hpl
        cases e
        obtain ⟨y, hy⟩ : ∃ y, y = l[p] := ⟨_, rfl⟩
        rw [← hy] at f2
        have a3 := fun y : After w4 => (f2 y.val (Ba y)).1
        obtain ⟨b3, h3⟩ : ∃ b, b = decide (x.id ≤ y.id) := ⟨_, rfl⟩
        have d3 := h3.symm
        have hil : lst l i = y.id := by rw [hp, lst_s l p hpl, hy]
        have HBAD := Lib.hid (show (b1 || (b2 || (b3 || noB x))) = true → ¬ OfOk l n from fun hh hk => by
          have u := hk.up i hlt
          have v := hk.no _ (List.getElem_mem hlt)
          have z := lst_mono hk.up (l.length - (i + 1)) (i + 1) (by omega)
          rw [show i + 1 + (l.length - (i + 1)) = l.length by omega, hid] at z
          have zz := hk.last
          have z0 := lst_mono hk.up i 0 (by omega)
          rw [Nat.zero_add, hil, lst_0] at z0
          rw [hid, hil] at u
          rw [← HX.out] at v
          rw [v, h1, h2, h3] at hh
          simp at hh
          omega)
        have HGOOD := Lib.hid (show (b1 || (b2 || (b3 || noB x))) = false → lst l i < lst l (i + 1) ∧ (l[i]).id < n ∧ noB l[i] = false from fun hh => by
          rw [← HX.out, hid, hil]
          rw [h1, h2, h3] at hh
          simp at hh
          exact ⟨by omega, by omega, hh.2.2.2⟩)
        rw [hno] at HBAD HGOOD
        clear h1 h2 h3 h4 h5 h6 h7 hno hid hil f2 hy hp Ba
        cases b1 with
        | true =>
          have HQ := Lib.hid (HNO.out (HBAD.out (by simp)))
          clear HBAD HGOOD
          repeat (go_big_quiet_step (fail))
          refine wpQuiet_nil ?_
          clear a0 a1
          go_wp2_with fail
          exact HQ.out _ B4.out
        | false =>
          cases b2 with
          | true =>
            have HQ := Lib.hid (HNO.out (HBAD.out (by simp)))
            clear HBAD HGOOD
            repeat (go_big_quiet_step (fail))
            refine wpQuiet_nil ?_
            clear a0 a1
            go_wp2_with fail
            exact HQ.out _ B4.out
          | false =>
            cases b3 with
            | true =>
              have HQ := Lib.hid (HNO.out (HBAD.out (by simp)))
              clear HBAD HGOOD
              repeat (go_big_quiet_step (fail))
              refine wpQuiet_nil ?_
              clear a0 a1
              go_wp2_with fail
              exact HQ.out _ B4.out
            | false =>
              cases b4 with
              | true =>
                have HQ := Lib.hid (HNO.out (HBAD.out (by simp)))
                clear HBAD HGOOD
                repeat (go_big_quiet_step (fail))
                refine wpQuiet_nil ?_
                clear a0 a1
                go_wp2_with fail
                exact HQ.out _ B4.out
              | false =>
                cases b5 with
                | true =>
                  have HQ := Lib.hid (HNO.out (HBAD.out (by simp)))
                  clear HBAD HGOOD
                  repeat (go_big_quiet_step (fail))
                  refine wpQuiet_nil ?_
                  clear a0 a1
                  go_wp2_with fail
                  exact HQ.out _ B4.out
                | false =>
                  cases b6 with
                  | true =>
                    have HQ := Lib.hid (HNO.out (HBAD.out (by simp)))
                    clear HBAD HGOOD
                    repeat (go_big_quiet_step (fail))
                    refine wpQuiet_nil ?_
                    clear a0 a1
                    go_wp2_with fail
                    exact HQ.out _ B4.out
                  | false =>
                    cases b7 with
                    | false =>
                      have HQ := Lib.hid (HGOOD.out (by simp))
                      clear HBAD HGOOD
                      repeat (go_big_quiet_step (fail))
                      refine wpQuiet_nil ?_
                      clear a0 a1
                      go_wp2_with fail
                      refine ⟨⟨i + 1, by omega, by rw [Int.natCast_succ], B4.out, fun j hj hj2 => ?_⟩, ?_⟩
                      · by_cases hji : j < i
                        · exact HALL.out j hj hji
                        · obtain rfl : j = i := by omega
                          exact HQ.out
                      · simp only [intOf]
                        omega
                    | true =>
                      cases b8 with
                      | true =>
                        have HQ := Lib.hid (HGOOD.out (by simp))
                        clear HBAD HGOOD
                        repeat (go_big_quiet_step (fail))
                        refine wpQuiet_nil ?_
                        clear a0 a1
                        go_wp2_with fail
                        refine ⟨⟨i + 1, by omega, by rw [Int.natCast_succ], B4.out, fun j hj hj2 => ?_⟩, ?_⟩
                        · by_cases hji : j < i
                          · exact HALL.out j hj hji
                          · obtain rfl : j = i := by omega
                            exact HQ.out
                        · simp only [intOf]
                          omega
                      | false =>
                        have HQ := Lib.hid (HNO.out (HBAD.out (by simp)))
                        clear HBAD HGOOD
                        repeat (go_big_quiet_step (fail))
                        refine wpQuiet_nil ?_
                        clear a0 a1
                        go_wp2_with fail
                        exact HQ.out _ B4.out
    · obtain rfl : i = l.length := by omega
      have hd : decide ((l.length : Int) < (l.length : Int)) = false := by simp
      have HK := Lib.hid (show OfOk l n from ⟨HL.out.1, HL.out.2.1, HL.out.2.2, fun i hi => (HALL.out i hi hi).1, by
        rcases Nat.eq_zero_or_pos l.length with e | e
        · rw [e, lst_0]; have := HL.out.1; omega
        · have := (HALL.out (l.length - 1) (by omega) (by omega)).2.1
          rw [← lst_s l (l.length - 1) (by omega), show l.length - 1 + 1 = l.length by omega] at this
          exact this, fun s hs => by
        obtain ⟨i, hi, rfl⟩ := List.getElem_of_mem hs
        exact (HALL.out i hi hi).2.2⟩)
      have b9 := Bo.out.alloc Bo.out.size (.cells #[] 50)
      have F9 := Lib.hid (HF.out.trans (Fr.new (H := fun x => x ≠ 0) b9 0))
      have G9 := Lib.hid (Fr.new (T := T) (H := fun x => x = t + 1) b9 0)
      have bd2 := fun A k c w => rt_b2 A k c n w
      clear b9
      go_wp2_with (at_builtin; refine wpl_appSe rfl (.tmp 108) (.tmp 109) rfl H1.out F9.out (by simp) (by omega) wo.heap.size (t + 1) (by omega) (by simp [Act.eval]) (by simp [Act.eval]) ?_; intro A5 c5 w5 e5 f5)
      rw [HP.out]
      have b6 := (Below.refl w5.heap.size w5).alloc (Nat.le_refl _) (.cells #[.slice A5 l.length c5, .int .i64 n] 48)
      refine ⟨_, (G9.out.trans f5).trans (Fr.new b6 t), .inl ⟨HK.out, w5.heap.size, A5, c5, rfl, ⟨?_, paint_new (Nat.le_refl _), e5.fr seEl_ok (Fr.new (H := fun _ => False) b6 t) (fun h => h) (fun h => h)⟩⟩⟩
      rw [show n - 1 + 1 = n by omega]
      exact row_alloc_at _ _ _ _ rfl
end Go.Proofs.Ythokiohdeclmhaa.Oct
