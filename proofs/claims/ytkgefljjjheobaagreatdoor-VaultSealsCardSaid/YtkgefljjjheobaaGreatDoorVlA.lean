/- Contracts of vault.below, vault.appendNumber, vault.Nonce, and of the reference's may and Nonce. -/
import Derived.Test.YtkgefljjjheobaaGreatDoorVlTy
import Derived.Test.YtkgefljjjheobaaGreatDoorGcmAll
namespace Go.Proofs.YtkgefljjjheobaaGreatDoor.Oct
open Go.ChangeShapes Go.WideShapes Go.ChangeAt Go.RowKit
set_option linter.unusedVariables false

theorem below_any (lim x : Int) (w : World) :
    Calls Tryz.prog 18 #[.int .i64 lim, .int .i64 x] w fun e w' => e = .returned (.bool (decide (0 ≤ x) && decide (x < lim))) ∧ w = w' := by
  by_cases h0 : 0 ≤ x
  · have hd : decide (0 ≤ x) = true := by simpa using h0
    rw [hd, Bool.true_and]
    go_enter Tryz.func18, Tryz.ntmps18
    go_wp2
    go_ret
    exact ⟨rfl, rfl⟩
  · have hd : decide (0 ≤ x) = false := by simpa using h0
    rw [hd, Bool.false_and]
    go_enter Tryz.func18, Tryz.ntmps18
    go_wp2
    go_ret
    exact ⟨rfl, rfl⟩

set_option maxHeartbeats 1000000 in
theorem vapn_any (base : Nat) (v : Value) (n : Nat) (f : Bf) (m x : Nat) (w : World) (hm : m ≤ 8) (hx : x < 9223372036854775808) (hn : n ≤ 1000) (ho : Own w base 5 v n f) (hb : base ≤ w.heap.size) :
    Calls Tryz.prog 19 #[v, .int .i64 (m : Int), .int .i64 (x : Int)] w fun e w' => ∃ v', e = .returned v' ∧ Own w' base 5 v' (n + m) (catF n f (beN m x)) ∧ Below base w w' := by
  have HO0 := Lib.hid ho
  clear ho
  go_enter Tryz.func19, Tryz.ntmps19
  go_wp2
  go_loopw [0, 9] (fun v i wr => ∃ j : Nat, j ≤ m ∧ i = .int .i64 (j : Int) ∧ Own wr base 5 v (n + j) (catF n f (beN m x)) ∧ Below base w wr) (fun _ i _ => m - (intOf i).toNat)
  case atStart => exact ⟨0, by omega, rfl, HO0.out.congr fun i hi => by unfold catF; rw [if_pos (by omega)], Below.refl _ _⟩
  case round =>
    clear HO0
    obtain ⟨j, hj, rfl, ho, hb'⟩ := hrel
    have HO := Lib.hid ho
    have HB := Lib.hid hb'
    clear ho hb'
    by_cases hlt : j < m
    · obtain ⟨s, hs⟩ : ∃ s, s + j + 1 = m := ⟨m - 1 - j, by omega⟩
      have hd : decide ((j : Int) < (m : Int)) = true := by simp; omega
      have e1 : (m : Int) - 1 - (j : Int) = (s : Int) := by omega
      have e2 : (8 * (s : Int)).toNat = 8 * s := by omega
      have b0 : 0 ≤ 8 * (s : Int) := by omega
      have hsh : (x : Int) / 2 ^ (8 * s) % 256 = I (beN m x j) := by
        unfold beN
        rw [sh_byte, show m - 1 - j = s by omega]
      have HO1 := HO.out.alloc (.cells #[.int .u8 (I (beN m x j))] 5)
      have HS1 := Sl.one wr 5 (beN m x j) (wr.heap.size + 1) (by omega)
      have hsz := HB.out.size
      go_wp2_with (at_builtin; refine wpl_appB rfl (.tmp 12) (.tmp 21) rfl sli_u u8_info HO1 HS1 (by omega) (by simp; omega) rfl rfl ?_; intro v' w2 ho hg ht)
      have HO2 := Lib.hid (ho.congr (f' := catF n f (beN m x)) fun i hi => by
        unfold catF
        by_cases h : i < n
        · rw [if_pos (by omega), if_pos h]
        · by_cases h2 : i < n + j
          · rw [if_pos h2, if_neg h]
          · rw [if_neg h2, if_neg h, show i - n = j by omega])
      have HB2 := Lib.hid (HO1.after hg (HB.out.alloc (by omega) _) (by simp; omega) (Nat.le_refl _))
      clear ho hg ht HO1 HS1
      go_roundw
      case rel => exact ⟨j + 1, by omega, by go_num, HO2.out, HB2.out⟩
      case measure => simp [intOf]; omega
    · obtain rfl : j = m := by omega
      have hd : decide ((j : Int) < (j : Int)) = false := by simp
      go_wp2
      go_ret
      exact ⟨_, rfl, HO.out, HB.out⟩
theorem non_at (a : Option Addr) (cap : Nat) (w : World) : (Instr.arrayAt 34 (.slice a 12 cap)).run Tryz.prog w = .ok (.pointer a) w := by
  simp [Instr.arrayAt, run_underlying non_u]
/-- a nonce out of cells, wherever they lie -/
theorem non_cells (w : World) (g o : Nat) (f : Bf) (hc : ∀ i, i < 12 → w.cell? ⟨g, o + i, none⟩ = some (.int .u8 (I (f i)))) :
    ldR Tryz.prog 34 12 w g o (row w g) = .ok (.agg (ba 12 f)) w := by
  rw [← ld_rule 34 12 _ non_u 12 non_i w g o]
  have h := run_loadAt_mid (P := Tryz.prog) w g o 34 (ba 12 f).toList _ (fun j v hv => by
    rw [Array.getElem?_toList] at hv
    by_cases hj : j < 12
    · rw [ba_get 12 f j hj] at hv; rw [hc j hj, hv]
    · rw [ba_none 12 f j hj] at hv; cases hv) non_u rfl (by rw [non_i, Array.length_toList, ba_size])
  rw [Array.toArray_toList] at h
  exact h
theorem nonU_ok {d t x : Nat} (h : mayB d t x = true) : nonU d t x = nonF d t x := by unfold nonU; rw [if_pos h]; rfl
theorem nonU_no {d t x : Int} (h : mayB d t x = false) : nonU d t x = fun _ => 0#8 := by unfold nonU; rw [if_neg (by rw [h]; decide)]
theorem errU_ok {d t x : Int} (h : mayB d t x = true) : errU d t x = 0 := by unfold errU; rw [if_pos h]
theorem errU_no {d t x : Int} (h : mayB d t x = false) : errU d t x = 1 := by unfold errU; rw [if_neg (by rw [h]; decide)]

set_option maxRecDepth 20000 in
set_option maxHeartbeats 2000000 in
theorem vnon_any (d t x : Int) (w : World) :
    Calls Tryz.prog 10 #[.int .i64 d, .int .i64 t, .int .i64 x] w fun e w' => e = .returned (.tuple #[.agg (ba 12 (nonU d t x)), .int .i64 (errU d t x)]) ∧ Below w.heap.size w w' := by
  have B0 := (Below.refl w.heap.size w).alloc (by simp) (.cells (ba 12 fun _ => 0#8) 34)
  have q0 : row (w.alloc (.cells (ba 12 fun _ => 0#8) 34)) w.heap.size = some (ba 12 fun _ => 0#8) := row_alloc_at _ _ _ _ rfl
  have HB0 := Lib.hid B0
  clear B0
  by_cases hok : mayB d t x = true
  · obtain ⟨⟨a1, a2⟩, ⟨a3, a4⟩, a5, a6⟩ := mayB_iff.1 hok
    obtain ⟨dn, rfl⟩ : ∃ n : Nat, d = n := ⟨d.toNat, by omega⟩
    obtain ⟨tn, rfl⟩ : ∃ n : Nat, t = n := ⟨t.toNat, by omega⟩
    obtain ⟨xn, rfl⟩ : ∃ n : Nat, x = n := ⟨x.toNat, by omega⟩
    have k1 : (decide (0 ≤ (dn : Int)) && decide ((dn : Int) < 256)) = true := by simp; omega
    have k2 : (decide (0 ≤ (tn : Int)) && decide ((tn : Int) < 1099511627776)) = true := by simp; omega
    have k3 : (decide (0 ≤ (xn : Int)) && decide ((xn : Int) < 1099511627776)) = true := by simp; omega
    have K1 := Lib.hid k1
    have K2 := Lib.hid k2
    have K3 := Lib.hid k3
    have HD := Lib.hid (show dn < 256 by omega)
    have HT := Lib.hid (show tn < 1099511627776 by omega)
    have HX := Lib.hid (show xn < 1099511627776 by omega)
    rw [nonU_ok hok, errU_ok hok]
    clear hok a1 a2 a3 a4 a5 a6 k1 k2 k3
    go_enter Tryz.func10, Tryz.ntmps10
    go_wp2_with fail
    generalize w.alloc (.cells (ba 12 fun _ => 0#8) 34) = w0 at HB0 q0 ⊢
    refine (below_any 256 dn _).mono ?_
    rintro e w1 ⟨rfl, rfl⟩
    rw [K1.out]
    go_wp2_with fail
    refine (below_any 1099511627776 tn _).mono ?_
    rintro e w1 ⟨rfl, rfl⟩
    rw [K2.out]
    go_wp2_with fail
    refine (below_any 1099511627776 xn _).mono ?_
    rintro e w1 ⟨rfl, rfl⟩
    rw [K3.out]
    go_wp2_with fail
    have hz0 := row_lt q0
    refine (vapn_any w0.heap.size (.slice none 0 0) 0 nF 1 dn w0 (by omega) (by have := HD.out; omega) (by omega) (Own.nil _ _ _ _) (Nat.le_refl _)).mono ?_
    rintro e w1 ⟨v1, rfl, ho1, hb1⟩
    have HO1 := Lib.hid ho1
    have B1 := Lib.hid hb1
    clear ho1 hb1
    go_wp2_with fail
    refine (vapn_any w0.heap.size v1 (0 + 1) _ 5 tn w1 (by omega) (by have := HT.out; omega) (by omega) HO1.out B1.out.size).mono ?_
    rintro e w2 ⟨v2, rfl, ho2, hb2⟩
    have HO2 := Lib.hid ho2
    have B2 := Lib.hid (B1.out.trans hb2)
    clear ho2 hb2 HO1 B1
    go_wp2_with fail
    refine (vapn_any w0.heap.size v2 (0 + 1 + 5) _ 6 xn w2 (by omega) (by have := HX.out; omega) (by omega) HO2.out B2.out.size).mono ?_
    rintro e w3 ⟨v3, rfl, ho3, hb3⟩
    have B3' := B2.out.trans hb3
    have q3 := carry B3' q0
    have HB3 := Lib.hid (onto HB0.out HB0.out.size B3')
    obtain ⟨A3, c3, rfl, h3, -, hA⟩ := (ho3.congr (f' := nonF dn tn xn) fun i hi => by
      unfold nonF catF
      by_cases g1 : i < 6
      · by_cases g2 : i < 1
        · rw [if_pos (by omega), if_pos (by omega), if_neg (by omega), if_pos g1, if_pos g2, Nat.sub_zero]
        · rw [if_pos (by omega), if_neg (by omega), if_pos g1, if_neg g2]
      · rw [if_neg (by omega), if_neg g1]).sl
    obtain ⟨g, o, rfl, hg, hcell⟩ := h3.at_ (by omega)
    have hat := non_at (some ⟨g, o, none⟩) c3
    have hld := non_cells w3 g o (nonF dn tn xn) fun i hi => hcell i (by omega)
    clear ho3 hb3 HO2 B2 B3' q0 HB0 hcell h3 hA
    go_wp2_with fail
    exact bodyPost_ret (v := .tuple #[.agg (ba 12 (nonF dn tn xn)), .int .i64 0]) (res_ctV (p := 6) (u := 7) rfl _ _ w.heap.size (ba 12 (nonF dn tn xn)) _ rfl (row_setRow q3 _) non_u rfl (by rw [ba_size]; exact non_i)) rfl ⟨rfl, below_setRow HB3.out (Nat.le_refl _) _⟩
  · have hno : mayB d t x = false := by simpa using hok
    obtain ⟨b1, h1⟩ : ∃ b, b = (decide (0 ≤ d) && decide (d < 256)) := ⟨_, rfl⟩
    obtain ⟨b2, h2⟩ : ∃ b, b = (decide (0 ≤ t) && decide (t < 1099511627776)) := ⟨_, rfl⟩
    obtain ⟨b3, h3⟩ : ∃ b, b = (decide (0 ≤ x) && decide (x < 1099511627776)) := ⟨_, rfl⟩
    have hb : (b1 && b2 && b3) = false := by
      rw [← hno, h1, h2, h3]; unfold mayB; simp only [Bool.and_assoc]
    have H1 := Lib.hid h1
    have H2 := Lib.hid h2
    have H3 := Lib.hid h3
    rw [nonU_no hno, errU_no hno]
    clear hok hno h1 h2 h3
    have hfin : ∀ tm : Array Value, tm.getD 6 undef = .pointer (some ⟨w.heap.size, 0, none⟩) → tm.getD 7 undef = .int .i64 1 → ∀ w2 : World, Below w.heap.size w w2 → row w2 w.heap.size = some (ba 12 fun _ => 0#8) →
        bodyPost Tryz.prog Tryz.f10 (fun e w' => e = .returned (.tuple #[.agg (ba 12 fun _ => 0#8), .int .i64 1]) ∧ Below w.heap.size w w') .ret { tmps := tm, defers := [] } (w2.setRow w.heap.size (ba 12 fun _ => 0#8)) := by
      intro tm e6 e7 w2 b2 q2
      refine bodyPost_ret (v := .tuple #[.agg (ba 12 fun _ => 0#8), .int .i64 1]) ?_ rfl ⟨rfl, below_setRow b2 (Nat.le_refl _) _⟩
      rw [← e7]
      exact res_ctV (p := 6) (u := 7) rfl _ _ w.heap.size (ba 12 fun _ => 0#8) _ e6 (row_setRow q2 _) non_u rfl (by rw [ba_size]; exact non_i)
    have HFIN := Lib.hid hfin
    clear hfin
    go_enter Tryz.func10, Tryz.ntmps10
    go_wp2_with fail
    generalize w.alloc (.cells (ba 12 fun _ => 0#8) 34) = w0 at HB0 q0 ⊢
    refine (below_any 256 d _).mono ?_
    rintro e w1 ⟨rfl, rfl⟩
    rw [← H1.out]
    cases b1
    · clear hb H1 H2 H3
      go_wp2_with fail
      exact HFIN.out _ rfl rfl _ HB0.out q0
    go_wp2_with fail
    refine (below_any 1099511627776 t _).mono ?_
    rintro e w1 ⟨rfl, rfl⟩
    rw [← H2.out]
    cases b2
    · clear hb H1 H2 H3
      go_wp2_with fail
      exact HFIN.out _ rfl rfl _ HB0.out q0
    go_wp2_with fail
    refine (below_any 1099511627776 x _).mono ?_
    rintro e w1 ⟨rfl, rfl⟩
    rw [← H3.out]
    cases b3
    · clear hb H1 H2 H3
      go_wp2_with fail
      exact HFIN.out _ rfl rfl _ HB0.out q0
    · cases hb

/-- the reference's may -/
theorem rmay_any (d t x : Int) (w : World) :
    Calls Tryz.prog 23 #[.int .i64 d, .int .i64 t, .int .i64 x] w fun e w' => e = .returned (.bool (mayB d t x)) ∧ w = w' := by
  have h256 : decide (d < 256) = decide (d ≤ 255) := by by_cases h : d < 256 <;> simp [h] <;> omega
  unfold mayB
  rw [h256]
  generalize g1 : decide (0 ≤ d) = b1
  generalize g2 : decide (d ≤ 255) = b2
  generalize g3 : decide (0 ≤ t) = b3
  generalize g4 : decide (t < 1099511627776) = b4
  generalize g5 : decide (0 ≤ x) = b5
  generalize g6 : decide (x < 1099511627776) = b6
  clear h256
  go_enter Tryz.func23, Tryz.ntmps23
  cases b1 <;> cases b2 <;> cases b3 <;> cases b4 <;> cases b5 <;> cases b6 <;> (go_wp2; go_ret; exact ⟨rfl, rfl⟩)
end Go.Proofs.YtkgefljjjheobaaGreatDoor.Oct
