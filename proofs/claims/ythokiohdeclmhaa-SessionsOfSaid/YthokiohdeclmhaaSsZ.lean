/- What makes a table of sessions; Contract: sessions' Of. -/
import Derived.Test.YthokiohdeclmhaaSsY
namespace Go.Proofs.Ythokiohdeclmhaa.Oct
open Go.ChangeShapes Go.WideShapes Go.ChangeAt Go.RowKit Go.Maps
set_option linter.unusedVariables false

/-- what makes a table -/
structure OfOk (l : List Se) (n : Int) : Prop where
  n0 : 1 ≤ n
  n1 : n ≤ 1099511627776
  len : l.length ≤ 8
  up : ∀ i, i < l.length → lst l i < lst l (i + 1)
  last : lst l l.length < n
  no : ∀ s ∈ l, noB s = false
theorem lst_mono {l : List Se} (h : ∀ i, i < l.length → lst l i < lst l (i + 1)) : ∀ d i, i + d ≤ l.length → lst l i ≤ lst l (i + d)
  | 0, i, _ => Int.le_refl _
  | d + 1, i, hd => by
    have := lst_mono h d i (by omega)
    have := h (i + d) (by omega)
    rw [show i + (d + 1) = i + d + 1 by omega]
    omega
theorem OfOk.ok {l : List Se} {n : Int} (h : OfOk l n) (ht : ∀ s ∈ l, s.T ≤ 140737488355328) : SsOk l (n - 1) := by
  have := h.n0
  have := h.n1
  refine ⟨List.pairwise_iff_getElem.2 fun i j hi hj hij => ?_, fun s hs => ?_, h.len, by omega, by omega, ht⟩
  · have a := lst_mono h.up (j - (i + 1)) (i + 1) (by omega)
    have b := h.up j hj
    rw [show i + 1 + (j - (i + 1)) = j by omega, lst_s l i hi] at a
    rw [lst_s l j hj] at b
    omega
  · obtain ⟨i, hi, rfl⟩ := List.getElem_of_mem hs
    have a := lst_mono h.up i 0 (by omega)
    have b := h.up i hi
    have c := lst_mono h.up (l.length - (i + 1)) (i + 1) (by omega)
    have d := h.last
    rw [show i + 1 + (l.length - (i + 1)) = l.length by omega] at c
    rw [Nat.zero_add, lst_0] at a
    rw [lst_s l i hi] at b c
    omega
/-- the numbers and the lengths are such as a variable holds -/
abbrev SeB (l : List Se) : Prop := ∀ s ∈ l, i64B s.id ∧ i64B s.q ∧ i64B s.c ∧ i64B s.n ∧ i64B s.m ∧ s.T ≤ 140737488351232
theorem st_b1 (x : Int) (w : World) : (Instr.build 61 #[(1, .int .i64 x)]).run Try.prog w = .ok (.agg #[.map none, .int .i64 x]) w := by kernel_rfl
set_option maxRecDepth 20000 in
set_option maxHeartbeats 8000000 in
theorem pof15_any (T : Mk) (t tg : Nat) (A : Option Addr) (c : Nat) (l : List Se) (n : Int) (w : World) (hE : ElAt 6 seEl T w tg A c l) (ht : 0 < t) (h1 : tg ≠ t) (h2 : tg ≠ t + 1) (hl : l.length < 1000) (hb : SeB l) :
    Calls Try.prog 25 #[.slice A l.length c, .int .i64 n] w fun e w' => ∃ T', Fr T T' (H2 t) w w' ∧ ((OfOk l n ∧ ∃ B mv, e = .returned (.tuple #[.pointer (some ⟨B, 0, none⟩), .int .i64 0]) ∧ PtAt T' w' t B mv l (n - 1)) ∨ (¬ OfOk l n ∧ e = .returned (.tuple #[.pointer none, .int .i64 1]))) := by
  have HE := Lib.hid hE
  have HB := Lib.hid hb
  have hle := hE.le
  have HR := Lib.hid (show ∀ s ∈ l, ∀ j, -9223372036854775808 ≤ repN s.c s.n s.m j ∧ repN s.c s.n s.m j < 9223372036854775808 from fun s hs => repN_bd (hb s hs).2.2.1 (hb s hs).2.2.2.1 (hb s hs).2.2.2.2.1)
  have S0 := hE.serd
  obtain ⟨P, hP⟩ : ∃ P : Ending → World → Prop, P = fun e w' => ∃ T', Fr T T' (H2 t) w w' ∧ ((OfOk l n ∧ ∃ B mv, e = .returned (.tuple #[.pointer (some ⟨B, 0, none⟩), .int .i64 0]) ∧ PtAt T' w' t B mv l (n - 1)) ∨ (¬ OfOk l n ∧ e = .returned (.tuple #[.pointer none, .int .i64 1]))) := ⟨_, rfl⟩
  have HNO := Lib.hid (show ¬ OfOk l n → ∀ w2, Below w.heap.size w w2 → P (.returned (.tuple #[.pointer none, .int .i64 1])) w2 from fun hk w2 hb2 => by rw [hP]; exact ⟨paint T w.heap.size 0, Fr.new hb2 0, .inr ⟨hk, rfl⟩⟩)
  rw [← hP]
  have HP := Lib.hid hP
  clear hE hb hP
  go_enter Try.func25, Try.ntmps25
  go_upto_region 1 with fail
  have B1 := Lib.hid (Below.refl w.heap.size w)
  have S1 := Lib.hid S0
  clear S0
  have HO := Lib.hid (pord_any l A c n w S1.out (by omega))
  by_cases d1 : n < 1
  · have e1 : decide (n < 1) = true := decide_eq_true d1
    have HF := Lib.hid (HNO.out (fun h => by have := h.n0; omega))
    clear d1
    go_wp2_with fail
    exact HF.out _ B1.out
  have e1 : decide (n < 1) = false := decide_eq_false d1
  by_cases d2 : 1099511627776 < n
  · have e2 : decide (1099511627776 < n) = true := decide_eq_true d2
    have HF := Lib.hid (HNO.out (fun h => by have := h.n1; omega))
    clear d1 d2
    go_wp2_with fail
    exact HF.out _ B1.out
  have e2 : decide (1099511627776 < n) = false := decide_eq_false d2
  by_cases d3 : 8 < l.length
  · have e3 : decide (8 < (l.length : Int)) = true := decide_eq_true (by omega)
    have HF := Lib.hid (HNO.out (fun h => by have := h.len; omega))
    clear d1 d2 d3
    go_wp2_with fail
    exact HF.out _ B1.out
  have e3 : decide (8 < (l.length : Int)) = false := decide_eq_false (by omega)
  have HL := Lib.hid (show 1 ≤ n ∧ n ≤ 1099511627776 ∧ l.length ≤ 8 from ⟨by omega, by omega, by omega⟩)
  clear d1 d2 d3
  go_wp2_with fail
  refine HO.out.mono ?_
  rintro e w2 ⟨b, rfl, hbo, hb2⟩
  have B2 := Lib.hid (onto B1.out B1.out.size hb2)
  have S2 := Lib.hid (S1.out.below hb2)
  have HBO := Lib.hid hbo
  have HC := Lib.hid (pcts_any l A c w2 S2.out (by omega) HR.out)
  clear hbo HO S1 B1
  cases b with
  | false =>
    have HF := Lib.hid (HNO.out (fun h => by have := HBO.out.2 ⟨h.up, h.last⟩; cases this))
    clear hb2
    go_wp2_with fail
    exact HF.out _ B2.out
  | true =>
    clear hb2
    go_wp2_with fail
    refine HC.out.mono ?_
    rintro e w3 ⟨b, rfl, hbc, hb3⟩
    have B3 := Lib.hid (onto B2.out B2.out.size hb3)
    have HBC := Lib.hid hbc
    clear hbc HC S2 B2
    cases b with
    | true =>
      have HF := Lib.hid (HNO.out (fun h => by obtain ⟨s, hs, e⟩ := HBC.out.1 rfl; rw [h.no s hs] at e; cases e))
      clear hb3
      go_wp2_with fail
      exact HF.out _ B3.out
    | false =>
      have HK := Lib.hid (show OfOk l n from ⟨HL.out.1, HL.out.2.1, HL.out.2.2, (HBO.out.1 (by simp)).1, (HBO.out.1 (by simp)).2, fun s hs => by
        cases e : noB s with
        | false => rfl
        | true => have := HBC.out.2 ⟨s, hs, e⟩; cases this⟩)
      have hn0 := HL.out.1
      have hn1 := HL.out.2.1
      have hwn : IntKind.i64.wrap (n - 1) = n - 1 := IntWalk.i64_in _ (by omega)
      have bd1 := fun w => st_b1 (n - 1) w
      obtain ⟨w4, hw4⟩ : ∃ w4, w4 = w3.alloc (.cells #[.map none, .int .i64 (n - 1)] 61) := ⟨_, rfl⟩
      have b4 : Below w3.heap.size w3 w4 := by rw [hw4]; exact (Below.refl _ _).alloc (Nat.le_refl _) _
      have r4 : row w4 w3.heap.size = some #[.map none, .int .i64 (n - 1)] := by rw [hw4]; exact row_alloc_at _ _ _ _ rfl
      have E3 := HE.out.fr seEl_ok (Fr.new (T := T) (H := fun _ => False) B3.out 0) (fun h => h) (fun h => h)
      have F3 := Fr.new (T := T) (H := H2 t) B3.out 0
      obtain ⟨T3, hT3⟩ : ∃ T3, T3 = paint T w.heap.size 0 := ⟨_, rfl⟩
      rw [← hT3] at E3 F3
      have E4 := Lib.hid (E3.fr seEl_ok (Fr.new (H := fun _ => False) b4 t) (fun h => h) (fun h => h))
      have F4 := Lib.hid (F3.trans (Fr.new (T := T3) (H := H2 t) b4 t))
      have P4 := Lib.hid (show PtAt (paint T3 w3.heap.size t) w4 t w3.heap.size none [] (n - 1) from ⟨r4, paint_new (Nat.le_refl _), .inl ⟨rfl, rfl⟩⟩)
      obtain ⟨T4, hT4⟩ : ∃ T4, T4 = paint T3 w3.heap.size t := ⟨_, rfl⟩
      rw [← hT4] at E4 F4 P4
      obtain ⟨B, hBe⟩ : ∃ B, B = w3.heap.size := ⟨_, rfl⟩
      rw [← hBe] at P4
      have HBE := Lib.hid hBe
      clear b4 r4 E3 F3 hT3 hT4 hBe HE HNO HBO HBC B3
      clear hb3
      go_upto_region 4 with fail
      rw [← hw4, ← HBE.out]
      clear hw4
      go_wp2_with fail
      go_loopw [36] (fun iv wr => ∃ (j : Nat) (T1 : Mk) (mv : Option Nat), j ≤ l.length ∧ iv = .int .i64 (j : Int) ∧ Fr T4 T1 (H2 t) w4 wr ∧ PtAt T1 wr t B mv (l.take j) (n - 1)) (fun iv _ => l.length - (intOf iv).toNat)
      case atStart => exact ⟨0, T4, none, by omega, rfl, Fr.refl _ _ _, P4.out⟩
      case round =>
        obtain ⟨j, T1, mv, hj, rfl, hf, hp⟩ := hrel
        obtain ⟨wo, rfl⟩ : ∃ wo : World, wo = wr := ⟨_, rfl⟩
        have HF := Lib.hid hf
        have HPT := Lib.hid hp
        have E5 := Lib.hid (E4.out.fr seEl_ok hf (by unfold H2; omega) (by unfold H2; omega))
        clear hf hp
        by_cases hlt : j < l.length
        · have hd : decide ((j : Int) < (l.length : Int)) = true := by simp; omega
          have hw : IntKind.i64.wrap ((j : Int) + 1) = (j : Int) + 1 := IntWalk.i64_in _ (by omega)
          obtain ⟨gk, ok, cur, V, kk, rfl, hr, -, -, hrd, -, -, -, q⟩ := E5.out.seat hlt
          have q2 := q Try.prog 50
          rw [← hr] at q2
          obtain ⟨x, hx⟩ : ∃ x, x = l[j] := ⟨_, rfl⟩
          rw [← hx] at q2 hrd
          have hmem : x ∈ l := by rw [hx]; exact List.getElem_mem hlt
          have hxb := HB.out x hmem
          obtain ⟨w5, hw5⟩ : ∃ w5, w5 = wo.alloc (.cells #[.int .i64 x.id, .int .i64 x.q, .int .i64 x.c, .int .i64 x.n, .int .i64 x.m, .slice V x.T kk] 50) := ⟨_, rfl⟩
          have b5 : Below wo.heap.size wo w5 := by rw [hw5]; exact (Below.refl _ _).alloc (Nat.le_refl _) _
          have R5 := Lib.hid (show row w5 wo.heap.size = some #[.int .i64 x.id, .int .i64 x.q, .int .i64 x.c, .int .i64 x.n, .int .i64 x.m, .slice V x.T kk] by rw [hw5]; exact row_alloc_at _ _ _ _ rfl)
          have F5 := Lib.hid (HF.out.trans (Fr.new (T := T1) (H := H2 t) b5 0))
          have P5 := HPT.out.fr (Fr.new (H := fun _ => False) b5 0) (fun h => h) (fun h => h) (fun h => h)
          have D5 := hrd.fr (Fr.new (H := fun _ => False) b5 0) (fun h => h)
          have hno : ssH (l.take j) x.id = false := by
            have hpw := (HK.out.ok fun s hs => by have := (HB.out s hs).2.2.2.2.2; omega).up
            cases e : ssH (l.take j) x.id with
            | false => rfl
            | true =>
              unfold ssH at e
              obtain ⟨y, hy, he⟩ := List.any_eq_true.1 e
              obtain ⟨i, hi, rfl⟩ := List.getElem_of_mem hy
              have hij : i < j := by rw [List.length_take] at hi; omega
              have h5 := List.pairwise_iff_getElem.1 hpw i j (by omega) hlt hij
              rw [List.getElem_take] at he
              have h6 : (l[i]).id = x.id := by simpa using he
              rw [← hx] at h5
              omega
          have htk : l.take (j + 1) = l.take j ++ [x] := by rw [hx]; exact (List.take_append_getElem hlt).symm
          have HC := Lib.hid (keep_any (paint T1 wo.heap.size 0) t B mv (l.take j) (l.take (j + 1)) (n - 1) x V kk w5 P5 ht hxb.1 D5 (by unfold H2; omega) (by omega) (by rw [List.length_take]; omega)
            (fun j2 => by rw [htk]; exact ssH_app _ _ _) (fun j2 s2 hs2 => by rw [htk] at hs2; exact ssG_app hno hs2) (by rw [hno, htk]; simp))
          clear hx hmem hxb b5 P5 D5 hno htk hrd hr q HPT HF
          go_upto_region 7 with fail
          rw [← hw5]
          clear hw5 q2
          have r5 := R5.out
          obtain ⟨a0, a1, a2, a3, a4, a5⟩ := cells6 r5
          go_wp2_with fail
          refine HC.out.mono ?_
          rintro e w6 ⟨rfl, T6, mv6, hF6, hP6⟩
          have F6 := Lib.hid (F5.out.trans hF6)
          have P6 := Lib.hid hP6
          clear hF6 hP6 F5 HC a0 a1 a2 a3 a4 a5 r5 R5
          go_wp2_with fail
          refine ⟨⟨j + 1, T6, mv6, by omega, by rw [Int.natCast_succ], F6.out, P6.out⟩, ?_⟩
          simp only [intOf]
          omega
        · obtain rfl : j = l.length := by omega
          have hd : decide ((l.length : Int) < (l.length : Int)) = false := by simp
          have P9 := HPT.out
          rw [List.take_length] at P9
          have HP9 := Lib.hid P9
          clear P9 HPT
          go_wp2_with fail
          rw [HP.out]
          exact ⟨T1, F4.out.trans HF.out, .inl ⟨HK.out, B, mv, rfl, HP9.out⟩⟩
end Go.Proofs.Ythokiohdeclmhaa.Oct
