/- Contracts of the reference's above and root. -/
import Derived.Test.YtjebkokkgkkogaaDoorShaF
namespace Go.Proofs.YtjebkokkgkkogaaDoor.Oct
open Go.ChangeShapes Go.WideShapes Go.ChangeAt Go.RowKit
set_option linter.unusedVariables false

theorem plc_dg (n p : Nat) (hn : n < 65536) (hp : p < 12) : qa 12 (updA (fun _ => 0) p n) = qa 12 (dg (n * 65536 ^ p)) := qa_ext fun i hi => by
  unfold updA dg
  by_cases h : i = p
  · subst h
    rw [if_pos rfl, Nat.mul_div_cancel _ (Nat.pow_pos (by omega)), Nat.mod_eq_of_lt hn]
  · rw [if_neg h]
    by_cases h2 : i < p
    · rw [show 65536 ^ p = 65536 ^ i * (65536 * 65536 ^ (p - i - 1)) by rw [← Nat.pow_succ', ← Nat.pow_add]; congr 1; omega,
        Nat.mul_left_comm, Nat.mul_div_cancel_left _ (Nat.pow_pos (by omega)), Nat.mul_left_comm, Nat.mul_mod_right]
    · rw [Nat.div_eq_of_lt, Nat.zero_mod]
      rw [show 65536 ^ i = 65536 * 65536 ^ (i - p - 1) * 65536 ^ p by rw [← Nat.pow_succ', ← Nat.pow_add]; congr 1; omega]
      refine Nat.mul_lt_mul_of_pos_right ?_ (Nat.pow_pos (by omega))
      exact Nat.lt_of_lt_of_le hn (Nat.le_mul_of_pos_right _ (Nat.pow_pos (by omega)))
theorem sq_lt (x : Nat) (h : x < 65536 ^ 4) : x * x < 65536 ^ 8 := by
  rw [show 65536 ^ 8 = 65536 ^ 4 * 65536 ^ 4 from rfl]
  exact Nat.mul_lt_mul'' h h
theorem cb_lt (x : Nat) (h : x < 65536 ^ 4) : x * x * x < 65536 ^ 12 := by
  rw [show 65536 ^ 12 = 65536 ^ 8 * 65536 ^ 4 from rfl]
  exact Nat.mul_lt_mul'' (sq_lt x h) h

theorem ovr_f (x n : Nat) : ovr x n false = decide (n * 18446744073709551616 < x * x) := by simp [ovr, plc, pw]
theorem ovr_t (x n : Nat) : ovr x n true = decide (n * 79228162514264337593543950336 < x * x * x) := by simp [ovr, plc, pw]
theorem dN0 (w : World) : w = w.drewN 0 := rfl
theorem dNN (w : World) (a b : Nat) : (w.drewN a).drewN b = w.drewN (a + b) := by unfold World.drewN; simp [Nat.add_assoc]
/-- the comparing loop, from above's last lines on -/
theorem cmp_start (X Y : Nat) (hX : X < 65536 ^ 12) (hY : Y < 65536 ^ 12) : X / 65536 ^ 12 = Y / 65536 ^ 12 := by rw [Nat.div_eq_of_lt hX, Nat.div_eq_of_lt hY]

set_option maxRecDepth 20000 in
set_option maxHeartbeats 4000000 in
theorem above_any (x n : Nat) (th : Bool) (hx : x < 18446744073709551616) (hn : n < 65536) (w : World) :
    Calls Tryd.prog 33 #[.int .u64 x, .int .u64 n, .bool th] w fun e w' => e = .returned (.bool (ovr x n th)) ∧ Below w.heap.size w w' := by
  have hx4 : x < 65536 ^ 4 := hx
  have HX4 := Lib.hid hx4
  have e0 : (x : Int) % 65536 = ((dg x 0 : Nat) : Int) := by unfold dg; rw [Nat.pow_zero, Nat.div_one]; omega
  have e1 : (x : Int) / 65536 % 65536 = ((dg x 1 : Nat) : Int) := by unfold dg; rw [show 65536 ^ 1 = 65536 from rfl]; omega
  have e2 : (x : Int) / 4294967296 % 65536 = ((dg x 2 : Nat) : Int) := by unfold dg; rw [show 65536 ^ 2 = 4294967296 from rfl]; omega
  have e3 : (x : Int) / 281474976710656 = ((dg x 3 : Nat) : Int) := by unfold dg; rw [show 65536 ^ 3 = 281474976710656 from rfl]; omega
  have hq4 : qa 4 (updA (updA (updA (updA (fun _ => 0) 0 (dg x 0)) 1 (dg x 1)) 2 (dg x 2)) 3 (dg x 3)) = qa 4 (dg x) := qa_ext fun i hi => up4_8 x hx4 i (by omega)
  clear hx4
  go_enter Tryd.func33, Tryd.ntmps33
  go_wp2_with fail
  refine (times_dg x x (up4 (dg x)) (dg x) (fun i hi => up4_8 x HX4.out i hi) (fun _ _ => rfl) (Nat.lt_of_lt_of_le HX4.out (by decide)) HX4.out _).mono ?_
  rintro e w1 ⟨rfl, hb1⟩
  have r4 := carry hb1 (b := w.heap.size) (c := qa 4 (dg x)) (by simp [go_sem])
  have B1 := Lib.hid (onto ((Below.refl w.heap.size w).alloc (by simp) (.cells (qa 4 (dg x)) 56)) (by simp) hb1)
  have s1 : w.heap.size + 1 ≤ w1.heap.size := by have := hb1.size; simpa using this
  clear hb1 hq4 e0 e1 e2 e3
  have q8 : row (w1.alloc (.cells (qa 12 (dg (x * x))) 57)) w1.heap.size = some (qa 12 (dg (x * x))) := row_alloc_at _ _ _ _ rfl
  have q4 := row_alloc r4 (.cells (qa 12 (dg (x * x))) 57)
  have B2 := Lib.hid (B1.out.alloc (by omega) (.cells (qa 12 (dg (x * x))) 57))
  have Q8 := Lib.hid q8
  have Q4 := Lib.hid q4
  clear q8 q4 r4
  cases th
  · have hpl : qa 12 (updA (fun _ => 0) 4 n) = qa 12 (dg (n * 18446744073709551616)) := plc_dg n 4 hn (by omega)
    go_wp2_with fail
    have hs2 := Lib.hid (show (w1.alloc (.cells (qa 12 (dg (x * x))) 57)).heap.size = w1.heap.size + 1 by simp)
    obtain ⟨p, hp⟩ : ∃ p, p = w1.heap.size := ⟨_, rfl⟩
    rw [← hp] at Q8 hs2 ⊢
    obtain ⟨w2, hw2⟩ : ∃ w2, w2 = w1.alloc (.cells (qa 12 (dg (x * x))) 57) := ⟨_, rfl⟩
    rw [← hw2] at Q8 Q4 B2 hs2 ⊢
    clear hw2 hp
    have r8 := row_alloc Q8.out (.cells (qa 12 (dg (n * 18446744073709551616))) 57)
    have r7 : row (w2.alloc (.cells (qa 12 (dg (n * 18446744073709551616))) 57)) (p + 1) = some (qa 12 (dg (n * 18446744073709551616))) := row_alloc_at _ _ _ _ hs2.out.symm
    have B5 := Lib.hid (B2.out.alloc (by exact B2.out.size) (.cells (qa 12 (dg (n * 18446744073709551616))) 57))
    obtain ⟨w5, hw5⟩ : ∃ w5, w5 = w2.alloc (.cells (qa 12 (dg (n * 18446744073709551616))) 57) := ⟨_, rfl⟩
    rw [← hw5] at r8 r7 B5 ⊢
    clear hw5
    have R8 := Lib.hid r8
    have R7 := Lib.hid r7
    have hY : n * 18446744073709551616 < 65536 ^ 12 := Nat.lt_of_lt_of_le (Nat.mul_lt_mul_of_pos_right hn (by decide)) (by decide)
    obtain ⟨X, hX⟩ : ∃ X, X = x * x := ⟨_, rfl⟩
    obtain ⟨Y, hYY⟩ : ∃ Y, Y = n * 18446744073709551616 := ⟨_, rfl⟩
    rw [← hX] at R8
    rw [← hYY] at R7 hY
    have HXY := Lib.hid (show decide (Y < X) = ovr x n false by rw [hX, hYY, ovr_f])
    have HS := Lib.hid (cmp_start X Y (by rw [hX]; exact (Nat.lt_of_lt_of_le (sq_lt x HX4.out) (by decide))) hY)
    clear hX hYY r7 r8 hs2 Q8 Q4 B2
    go_loopw [11] (fun iv wr => ∃ k m : Nat, k ≤ 12 ∧ iv = .int .i64 ((k : Int) - 1) ∧ X / 65536 ^ k = Y / 65536 ^ k ∧ wr = w5.drewN m) (fun iv _ => (intOf iv + 1).toNat)
    case atStart => exact ⟨12, 0, by omega, rfl, HS.out, dN0 _⟩
    case round =>
      clear HS
      obtain ⟨k, m, hk, rfl, hE, rfl⟩ := hrel
      have HE := Lib.hid hE
      clear hE
      rcases k with _ | i
      · have hd : decide ((0 : Int) ≤ ((0 : Nat) : Int) - 1) = false := by decide
        have HF := Lib.hid (show decide (Y < X) = false by
          have := HE.out
          rw [Nat.pow_zero, Nat.div_one, Nat.div_one] at this
          rw [decide_eq_false_iff_not]; omega)
        go_wp2_with fail
        go_ret
        refine ⟨?_, below_drewN B5.out _⟩
        rw [← HXY.out, HF.out]
        rfl
      · rw [show ((i + 1 : Nat) : Int) - 1 = (i : Int) by omega]
        have hd : decide ((0 : Int) ≤ (i : Int)) = true := by simp
        have hi : i < 12 := by omega
        have HC := Lib.hid (dg_cmp X Y i HE.out)
        have r7 : w5.cell? ⟨p + 1, i, none⟩ = some (.int .u64 ((dg Y i : Nat) : Int)) := by rw [cell_row R7.out, qa_get _ _ _ hi]
        have r8 : w5.cell? ⟨p, i, none⟩ = some (.int .u64 ((dg X i : Nat) : Int)) := by rw [cell_row R8.out, qa_get _ _ _ hi]
        by_cases hne : dg X i = dg Y i
        · have HN := Lib.hid (HC.out.1 hne)
          have hne2 : ((dg X i : Nat) : Int) = ((dg Y i : Nat) : Int) := by rw [hne]
          clear hne
          go_wp2_with fail
          go_quiet (fail)
          go_wp2_with fail
          go_roundw
          case rel => exact ⟨i, m + nq, by omega, rfl, HN.out, rfl⟩
          case measure => simp [intOf]
        · have HN := Lib.hid (HC.out.2 hne)
          have hne2 : ¬ ((dg X i : Nat) : Int) = ((dg Y i : Nat) : Int) := by omega
          clear hne
          go_wp2_with fail
          go_quiet (fail)
          go_wp2_with fail
          go_quiet (fail)
          go_wp2_with fail
          go_ret
          refine ⟨?_, below_drewN (below_drewN (below_drewN B5.out _) _) _⟩
          rw [← HXY.out, ← HN.out]
          rfl
  · have hpl : qa 12 (updA (fun _ => 0) 6 n) = qa 12 (dg (n * 79228162514264337593543950336)) := plc_dg n 6 hn (by omega)
    have q4 := Q4.out
    have hs3 : w.heap.size < w1.heap.size := by omega
    go_wp2_with fail
    refine (times_dg (x * x) x (up8 (dg (x * x))) (dg x) (fun i hi => up8_8 _ i hi) (fun _ _ => rfl) (sq_lt x HX4.out) HX4.out _).mono ?_
    rintro e w3 ⟨rfl, hb3⟩
    have r3 := carry hb3 Q8.out
    have B3 := Lib.hid (onto B2.out (by simp; omega) hb3)
    have hlt3 := row_lt r3
    clear hb3 Q8 q4 Q4 hs3
    obtain ⟨p, hp⟩ : ∃ p, p = w1.heap.size := ⟨_, rfl⟩
    rw [← hp] at r3 hlt3 s1 ⊢
    clear hp B1 B2
    go_wp2_with fail
    have r8 := row_alloc (row_setRow r3 (qa 12 (dg (x * x * x)))) (.cells (qa 12 (dg (n * 79228162514264337593543950336))) 57)
    have r7 : row ((w3.setRow p (qa 12 (dg (x * x * x)))).alloc (.cells (qa 12 (dg (n * 79228162514264337593543950336))) 57)) w3.heap.size = some (qa 12 (dg (n * 79228162514264337593543950336))) := row_alloc_at _ _ _ _ (by simp)
    have B5 := Lib.hid ((below_setRow B3.out (by omega : w.heap.size ≤ p) (qa 12 (dg (x * x * x)))).alloc (by simp; omega) (.cells (qa 12 (dg (n * 79228162514264337593543950336))) 57))
    obtain ⟨q, hqq⟩ : ∃ q, q = w3.heap.size := ⟨_, rfl⟩
    rw [← hqq] at r7 ⊢
    obtain ⟨w5, hw5⟩ : ∃ w5, w5 = (w3.setRow p (qa 12 (dg (x * x * x)))).alloc (.cells (qa 12 (dg (n * 79228162514264337593543950336))) 57) := ⟨_, rfl⟩
    rw [← hw5] at r8 r7 B5 ⊢
    clear hw5 hqq hlt3
    have R8 := Lib.hid r8
    have R7 := Lib.hid r7
    have hY : n * 79228162514264337593543950336 < 65536 ^ 12 := Nat.lt_of_lt_of_le (Nat.mul_lt_mul_of_pos_right hn (by decide)) (by decide)
    obtain ⟨X, hX⟩ : ∃ X, X = x * x * x := ⟨_, rfl⟩
    obtain ⟨Y, hYY⟩ : ∃ Y, Y = n * 79228162514264337593543950336 := ⟨_, rfl⟩
    rw [← hX] at R8
    rw [← hYY] at R7 hY
    have HXY := Lib.hid (show decide (Y < X) = ovr x n true by rw [hX, hYY, ovr_t])
    have HS := Lib.hid (cmp_start X Y (by rw [hX]; exact cb_lt x HX4.out) hY)
    clear hX hYY r7 r8 r3 B3
    go_loopw [11] (fun iv wr => ∃ k m : Nat, k ≤ 12 ∧ iv = .int .i64 ((k : Int) - 1) ∧ X / 65536 ^ k = Y / 65536 ^ k ∧ wr = w5.drewN m) (fun iv _ => (intOf iv + 1).toNat)
    case atStart => exact ⟨12, 0, by omega, rfl, HS.out, dN0 _⟩
    case round =>
      clear HS
      obtain ⟨k, m, hk, rfl, hE, rfl⟩ := hrel
      have HE := Lib.hid hE
      clear hE
      rcases k with _ | i
      · have hd : decide ((0 : Int) ≤ ((0 : Nat) : Int) - 1) = false := by decide
        have HF := Lib.hid (show decide (Y < X) = false by
          have := HE.out
          rw [Nat.pow_zero, Nat.div_one, Nat.div_one] at this
          rw [decide_eq_false_iff_not]; omega)
        go_wp2_with fail
        go_ret
        refine ⟨?_, below_drewN B5.out _⟩
        rw [← HXY.out, HF.out]
        rfl
      · rw [show ((i + 1 : Nat) : Int) - 1 = (i : Int) by omega]
        have hd : decide ((0 : Int) ≤ (i : Int)) = true := by simp
        have hi : i < 12 := by omega
        have HC := Lib.hid (dg_cmp X Y i HE.out)
        have r7 : w5.cell? ⟨q, i, none⟩ = some (.int .u64 ((dg Y i : Nat) : Int)) := by rw [cell_row R7.out, qa_get _ _ _ hi]
        have r8 : w5.cell? ⟨p, i, none⟩ = some (.int .u64 ((dg X i : Nat) : Int)) := by rw [cell_row R8.out, qa_get _ _ _ hi]
        by_cases hne : dg X i = dg Y i
        · have HN := Lib.hid (HC.out.1 hne)
          have hne2 : ((dg X i : Nat) : Int) = ((dg Y i : Nat) : Int) := by rw [hne]
          clear hne
          go_wp2_with fail
          go_quiet (fail)
          go_wp2_with fail
          go_roundw
          case rel => exact ⟨i, m + nq, by omega, rfl, HN.out, rfl⟩
          case measure => simp [intOf]
        · have HN := Lib.hid (HC.out.2 hne)
          have hne2 : ¬ ((dg X i : Nat) : Int) = ((dg Y i : Nat) : Int) := by omega
          clear hne
          go_wp2_with fail
          go_quiet (fail)
          go_wp2_with fail
          go_quiet (fail)
          go_wp2_with fail
          go_ret
          refine ⟨?_, below_drewN (below_drewN (below_drewN B5.out _) _) _⟩
          rw [← HXY.out, ← HN.out]
          rfl

theorem M_of32 (r : Nat) : (r : Int) % 4294967296 = M (BitVec.ofNat 32 r) := by unfold M; rw [BitVec.toNat_ofNat]; omega
theorem rtg_step (n : Nat) (th : Bool) (k r P x : Nat) (hP : P = 2 ^ k) (hx : x = r + P) : rtg n th (k + 1) r = if ovr x n th then rtg n th k r else rtg n th k x := by
  subst hP; subst hx; rfl
set_option maxRecDepth 20000 in
set_option maxHeartbeats 4000000 in
theorem root_any (n : Nat) (th : Bool) (hn : n < 65536) (w : World) :
    Calls Tryd.prog 27 #[.int .u64 n, .bool th] w fun e w' => e = .returned (.int .u32 (M (BitVec.ofNat 32 (rtg n th 37 0)))) ∧ Below w.heap.size w w' := by
  go_enter Tryd.func27, Tryd.ntmps27
  go_wp2_with fail
  go_loopw [5, 6, 7] (fun rv iv _ wr => ∃ k r : Nat, k ≤ 37 ∧ iv = .int .i64 ((k : Int) - 1) ∧ rv = .int .u64 r ∧ rtg n th k r = rtg n th 37 0 ∧ r + 2 ^ k ≤ 137438953472 ∧ Below w.heap.size w wr) (fun _ iv _ _ => (intOf iv + 1).toNat)
  case atStart => exact ⟨37, 0, by omega, rfl, rfl, rfl, by decide, Below.refl _ _⟩
  case round =>
    obtain ⟨k, r, hk, rfl, rfl, hR, hb, hB⟩ := hrel
    have HR := Lib.hid hR
    have HB := Lib.hid hB
    clear hR hB
    obtain ⟨wo, rfl⟩ : ∃ wo : World, wo = wr := ⟨_, rfl⟩
    rcases k with _ | i
    · have hd : decide ((0 : Int) ≤ ((0 : Nat) : Int) - 1) = false := by decide
      have hm := M_of32 r
      have HV := Lib.hid (show r = rtg n th 37 0 from HR.out)
      clear hb
      go_wp2_with fail
      go_ret
      exact ⟨by rw [← HV.out]; rfl, HB.out⟩
    · rw [show ((i + 1 : Nat) : Int) - 1 = (i : Int) by omega]
      have hd : decide ((0 : Int) ≤ (i : Int)) = true := by simp
      obtain ⟨P, hP⟩ : ∃ P, P = 2 ^ i := ⟨_, rfl⟩
      have hb2 : r + P + P ≤ 137438953472 := by rw [Nat.pow_succ, ← hP] at hb; omega
      have hP2 : (2 : Int) ^ i = (P : Int) := by rw [hP, Int.natCast_pow]; rfl
      obtain ⟨x, hx⟩ : ∃ x, x = r + P := ⟨_, rfl⟩
      have hx2 : (r : Int) + (P : Int) = (x : Int) := by omega
      have hxb : x + P ≤ 137438953472 := by omega
      have HS := Lib.hid (rtg_step n th i r P x hP hx)
      have HP := Lib.hid hP
      have HX := Lib.hid hx
      clear hP hx hb
      cases ho : ovr x n th
      all_goals
        go_wp2_with fail
        refine (above_any x n th (by omega) hn _).mono ?_
        rintro e w1 ⟨rfl, hb1⟩
        have B1 := Lib.hid (onto HB.out HB.out.size hb1)
        clear hb1
        have HO := Lib.hid ho
        go_wp2_with fail
        go_roundw
        case rel => exact ⟨i, _, by omega, rfl, rfl, by rw [← HR.out, HS.out, HO.out]; rfl, by rw [← HP.out]; omega, B1.out⟩
        case measure => simp [intOf]
end Go.Proofs.YtjebkokkgkkogaaDoor.Oct
