/- Contracts: Open, Ask of the reference. -/
import Derived.Test.YthokiohdeclmhaaSsR
namespace Go.Proofs.Ythokiohdeclmhaa.Oct
open Go.ChangeShapes Go.WideShapes Go.ChangeAt Go.RowKit Go.Maps
set_option linter.unusedVariables false

/-- the first one with the number -/
theorem ssG_at {l : List Se} {id : Int} {i : Nat} (h : i < l.length) (h1 : (l[i]).id = id) (h2 : ∀ j (hj : j < i), (l[j]).id ≠ id) : ssG l id = some l[i] := by
  induction l generalizing i with
  | nil => exact absurd h (by simp)
  | cons a r ih =>
    unfold ssG
    rw [List.find?_cons]
    cases i with
    | zero =>
      have h1 : a.id = id := h1
      rw [show (a.id == id) = true by simpa using h1]
      rfl
    | succ i =>
      have h3 := h2 0 (by omega)
      have h3 : a.id ≠ id := h3
      rw [show (a.id == id) = false by simpa using h3]
      exact ih (i := i) (by simpa using h) h1 (fun j hj => h2 (j + 1) (by omega))
theorem ssG_not {l : List Se} {id : Int} (h : ∀ s ∈ l, s.id ≠ id) : ssG l id = none := List.find?_eq_none.2 fun s hs => by simpa using h s hs
set_option maxRecDepth 20000 in
set_option maxHeartbeats 8000000 in
/-- what was told last, or that it wasn't; nobody writes its bytes -/
theorem rask_any (T : Mk) (t B : Nat) (A : Option Addr) (c : Nat) (l : List Se) (g id q : Int) (w : World) (hY : YtAt T w t B A c l g) (hl : l.length < 1000) (hi : i64B id) :
    Calls Try.prog 17 #[.pointer (some ⟨B, 0, none⟩), .int .i64 id, .int .i64 q] w fun e w' => ∃ A' c', e = .returned (.tuple #[repV (akS l id q).c (akS l id q).n (akS l id q).m (.slice A' (akS l id q).T c'), .bool (akB l id q), .int .i64 (akE l id q)]) ∧
      Sl w' w'.heap.size A' (akS l id q).T c' (akS l id q).f ∧ Below w.heap.size w w' := by
  obtain ⟨w1, hw1⟩ : ∃ w1, w1 = w.alloc (.cells #[.int .i64 0, .int .i64 0, .int .i64 0, .slice none 0 0] 31) := ⟨_, rfl⟩
  have bw : Below w.heap.size w w1 := by rw [hw1]; exact (Below.refl _ _).alloc (by simp) _
  have Y1 := Lib.hid (hY.fr (Fr.new (H := fun _ => False) bw 50) (fun h => h) (fun h => h) (fun h => h))
  have B1 := Lib.hid bw
  have R1 := Lib.hid (show row w1 w.heap.size = some #[.int .i64 0, .int .i64 0, .int .i64 0, .slice none 0 0] by rw [hw1]; exact row_alloc_at _ _ _ _ rfl)
  have HB := Lib.hid (show B ≠ w.heap.size by have := row_lt hY.row; omega)
  have H1 := Lib.hid (rat_any _ t B A c l g id w1 Y1.out hl)
  clear bw hY
  go_enter Try.func17, Try.ntmps17
  go_upto_region 1 with fail
  rw [← hw1]
  clear hw1
  have bd0 := rp_b0
  have O0 := fun w' : World => Sl.nothing w' w'.heap.size none 0 (fun _ => 0#8)
  have hrr := R1.out
  go_wp2_with fail
  refine H1.out.mono ?_
  rintro e w2 ⟨rfl, ⟨i, hi, rfl, h1, h2⟩ | ⟨rfl, h⟩⟩
  · have hG := ssG_at hi h1 h2
    have hd0 : decide ((i : Int) < 0) = false := decide_eq_false (by omega)
    obtain ⟨a0, a1⟩ := cells2S Y1.out.row
    obtain ⟨gk, ok, cur, A', c', rfl, hr, hTk, hcur, hrd, b0, b1, b2, -⟩ := Y1.out.el.seat hi
    have hle := Y1.out.el.le
    obtain ⟨s, hs⟩ : ∃ s, s = l[i] := ⟨_, rfl⟩
    rw [← hs] at hG hrd b0 b1 b2 h1
    have HR := Lib.hid hrd
    have B2' := fun P t => Lib.hid (b2 P t)
    have HRW := Lib.hid hr
    clear hrd hTk hcur h2 hs b0 h1
    by_cases q1 : q < s.q
    · have d1 : decide (q < s.q) = true := decide_eq_true q1
      have E1 := Lib.hid (show akE l id q = 151 by unfold akE; rw [hG]; exact if_pos (.inl q1))
      have E2 := Lib.hid (show akB l id q = false by unfold akB; rw [hG]; exact decide_eq_false (fun h => h.1 (.inl q1)))
      have E3 := Lib.hid (show akS l id q = .new 0 by unfold akS; rw [hG]; exact if_neg (fun h => h.1 (.inl q1)))
      clear hG q1 hr b2
      go_wp2_with fail
      rw [E1.out, E2.out, E3.out]
      exact bodyPost_ret (v := .tuple #[repV 0 0 0 (.slice none 0 0), .bool false, .int .i64 151]) (res_ctt Try.results17 _ _ w.heap.size _ _ rfl (row_setRow R1.out _) Try.underlying31 rfl (by kernel_rfl)) rfl ⟨none, 0, rfl, O0 _, below_setRow B1.out (Nat.le_refl _) _⟩
    · have d1 : decide (q < s.q) = false := decide_eq_false q1
      by_cases q2 : q < 1
      · have d2 : decide (q < 1) = true := decide_eq_true q2
        have E1 := Lib.hid (show akE l id q = 151 by unfold akE; rw [hG]; exact if_pos (.inr q2))
        have E2 := Lib.hid (show akB l id q = false by unfold akB; rw [hG]; exact decide_eq_false (fun h => h.1 (.inr q2)))
        have E3 := Lib.hid (show akS l id q = .new 0 by unfold akS; rw [hG]; exact if_neg (fun h => h.1 (.inr q2)))
        clear hG q1 q2 hr b2
        go_wp2_with fail
        rw [E1.out, E2.out, E3.out]
        exact bodyPost_ret (v := .tuple #[repV 0 0 0 (.slice none 0 0), .bool false, .int .i64 151]) (res_ctt Try.results17 _ _ w.heap.size _ _ rfl (row_setRow R1.out _) Try.underlying31 rfl (by kernel_rfl)) rfl ⟨none, 0, rfl, O0 _, below_setRow B1.out (Nat.le_refl _) _⟩
      · have d2 : decide (q < 1) = false := decide_eq_false q2
        have hno : ¬ (q < s.q ∨ q < 1) := fun h => h.elim q1 q2
        have E1 := Lib.hid (show akE l id q = 0 by unfold akE; rw [hG]; exact if_neg hno)
        by_cases q3 : q = s.q
        · have d3 : (q == s.q) = true := beq_iff_eq.2 q3
          have E2 := Lib.hid (show akB l id q = true by unfold akB; rw [hG]; exact decide_eq_true ⟨hno, q3⟩)
          have E3 := Lib.hid (show akS l id q = s by unfold akS; rw [hG]; exact if_pos ⟨hno, q3⟩)
          clear hG q1 q2 hno q3 B2'
          go_wp2_with fail
          rw [E1.out, E2.out, E3.out]
          have hF := Fr.row (T := paint T w.heap.size 50) (H := fun c => c = 50) (w := w2) (B := w.heap.size) (paint_new (Nat.le_refl _)) (#[.int .i64 s.c, .int .i64 s.n, .int .i64 s.m, .slice A' s.T c'] : Array Value)
          exact bodyPost_ret (v := .tuple #[repV s.c s.n s.m (.slice A' s.T c'), .bool true, .int .i64 0]) (res_ctt Try.results17 _ _ w.heap.size _ _ rfl (row_setRow R1.out _) Try.underlying31 rfl (by kernel_rfl)) rfl
            ⟨A', c', rfl, (HR.out.fr hF (by omega)).sl, below_setRow B1.out (Nat.le_refl _) _⟩
        · have d3 : (q == s.q) = false := beq_eq_false_iff_ne.2 q3
          have E2 := Lib.hid (show akB l id q = false by unfold akB; rw [hG]; exact decide_eq_false (fun h => q3 h.2))
          have E3 := Lib.hid (show akS l id q = .new 0 by unfold akS; rw [hG]; exact if_neg (fun h => q3 h.2))
          clear hG q1 q2 hno q3 hr b2
          go_wp2_with fail
          rw [E1.out, E2.out, E3.out]
          exact bodyPost_ret (v := .tuple #[repV 0 0 0 (.slice none 0 0), .bool false, .int .i64 0]) (res_ctt Try.results17 _ _ w.heap.size _ _ rfl (row_setRow R1.out _) Try.underlying31 rfl (by kernel_rfl)) rfl ⟨none, 0, rfl, O0 _, below_setRow B1.out (Nat.le_refl _) _⟩
  · have hG := ssG_not h
    have hd0 : decide ((-1 : Int) < 0) = true := rfl
    have E1 := Lib.hid (show akE l id q = 150 by unfold akE; rw [hG])
    have E2 := Lib.hid (show akB l id q = false by unfold akB; rw [hG])
    have E3 := Lib.hid (show akS l id q = .new 0 by unfold akS; rw [hG])
    clear hG h
    go_wp2_with fail
    rw [E1.out, E2.out, E3.out]
    exact bodyPost_ret (v := .tuple #[repV 0 0 0 (.slice none 0 0), .bool false, .int .i64 150]) (res_ctt Try.results17 _ _ w.heap.size _ _ rfl (row_setRow R1.out _) Try.underlying31 rfl (by kernel_rfl)) rfl ⟨none, 0, rfl, O0 _, below_setRow B1.out (Nat.le_refl _) _⟩
set_option maxRecDepth 20000 in
set_option maxHeartbeats 8000000 in
/-- one more is opened -/
theorem ropen15_any (T : Mk) (t B : Nat) (A : Option Addr) (c : Nat) (l : List Se) (g : Int) (w : World) (hY : YtAt T w t B A c l g) (ht : 0 < t) (hK : SsOk l g) :
    Calls Try.prog 13 #[.pointer (some ⟨B, 0, none⟩)] w fun e w' => e = .returned (.tuple #[.int .i64 (opN l g), .int .i64 (opE l g)]) ∧ ∃ T' A' c', Fr T T' (H2 t) w w' ∧ YtAt T' w' t B A' c' (opL l g) (opG l g) := by
  have hg0 := hK.g0
  have hg1 := hK.g1
  have hn8 := hK.n
  have HY := Lib.hid hY
  obtain ⟨a0, a1⟩ := cells2S hY.row
  have HN := Lib.hid (show opN l g = if opF l g then 0 else g + 1 from rfl)
  have HE := Lib.hid (show opE l g = if opF l g then 134 else 0 from rfl)
  have HL := Lib.hid (show opL l g = if opF l g then l else l ++ [Se.new (g + 1)] from rfl)
  have HG := Lib.hid (show opG l g = if opF l g then g else g + 1 from rfl)
  have HF := Lib.hid (show opF l g = (decide (l.length = 8) || decide (g + 1 = 1099511627776)) from rfl)
  clear hY hK
  go_enter Try.func13, Try.ntmps13
  by_cases h8 : l.length = 8
  · have d8 : decide ((8 : Int) ≤ (l.length : Int)) = true := decide_eq_true (by omega)
    have hF : opF l g = true := by rw [HF.out, h8]; rfl
    clear h8
    go_wp2_with fail
    rw [HN.out, HE.out, HL.out, HG.out, hF]
    exact bodyPost_ret (v := .tuple #[.int .i64 0, .int .i64 134]) (by simp [results, Try.results13, go_sem]) rfl ⟨rfl, T, A, c, Fr.refl _ _ _, HY.out⟩
  · have d8 : decide ((8 : Int) ≤ (l.length : Int)) = false := decide_eq_false (by omega)
    by_cases h9 : g + 1 = 1099511627776
    · have d9 : decide ((1099511627776 : Int) ≤ g + 1) = true := decide_eq_true (by omega)
      have hF : opF l g = true := by rw [HF.out, decide_eq_true h9, Bool.or_true]
      clear h9 h8
      go_wp2_with fail
      rw [HN.out, HE.out, HL.out, HG.out, hF]
      exact bodyPost_ret (v := .tuple #[.int .i64 0, .int .i64 134]) (by simp [results, Try.results13, go_sem]) rfl ⟨rfl, T, A, c, Fr.refl _ _ _, HY.out⟩
    · have d9 : decide ((1099511627776 : Int) ≤ g + 1) = false := decide_eq_false (by omega)
      have hF : opF l g = false := by rw [HF.out, decide_eq_false h9, decide_eq_false h8]; rfl
      clear h9 h8
      go_upto_region 3 with fail
      refine flow_frees [0] [([1, 2, 3, 4, 5, 6, 7, 8, 9], 10, false), ([], 11, true), ([12, 13], 14, true)] [] (by kernel_rfl) (by kernel_rfl) (fun _ _ _ _ _ h => h) ?_
      have hne : Nonempty (In (fun _ => True)) := ⟨⟨w, trivial⟩⟩
      simp only [pk, List.getElem?_cons_zero]
      repeat (go_big_quiet_step (fail))
      refine wpQuiet_nil ?_
      clear hne
      intro Z
      have F3 := Lib.hid (Fr.calm (T := T) (H := H2 t) Z.below fun _ _ => rfl)
      have Y3 := Lib.hid (HY.out.fr (Fr.calm (H := fun _ => False) Z.below fun _ _ => rfl) (fun h => h) (fun h => h) (fun h => h))
      obtain ⟨w3, hw3⟩ : ∃ w3, w3 = Z.val := ⟨_, rfl⟩
      rw [← hw3] at F3 Y3 ⊢
      clear hw3 Z a0 a1
      have cB := fun y : After w3 => cells2S (After.row Y3.out.row y)
      have bd1 := fun w => se_b1 (g + 1) w
      simp only [wpFs, pk, List.getElem?_cons_zero, List.getElem?_cons_succ]
      repeat (go_big_quiet_step (fail))
      refine wpQuiet_nil ?_
      clear cB
      go_wp2_with fail
      have bx := (Below.refl w3.heap.size w3).alloc (Nat.le_refl _) (.cells #[.int .i64 (g + 1), .int .i64 0, .int .i64 0, .int .i64 0, .int .i64 0, .slice none 0 0] 50)
      refine ⟨.inr bx, ?_⟩
      obtain ⟨w4, hw4⟩ : ∃ w4, w4 = w3.alloc (.cells #[.int .i64 (g + 1), .int .i64 0, .int .i64 0, .int .i64 0, .int .i64 0, .slice none 0 0] 50) := ⟨_, rfl⟩
      have r4 : row w4 w3.heap.size = some #[.int .i64 (g + 1), .int .i64 0, .int .i64 0, .int .i64 0, .int .i64 0, .slice none 0 0] := by rw [hw4]; exact row_alloc_at _ _ _ _ rfl
      rw [← hw4] at bx
      have F4 := Lib.hid (F3.out.trans (Fr.new (T := T) (H := H2 t) bx 0))
      have Y4 := Lib.hid (Y3.out.fr (Fr.new (H := fun _ => False) bx 0) (fun h => h) (fun h => h) (fun h => h))
      have D4 := Lib.hid (RdS.nil (paint T w3.heap.size 0) w4 0 (fun _ => 0#8))
      have R4 := Lib.hid r4
      obtain ⟨T4, hT4⟩ : ∃ T4, T4 = paint T w3.heap.size 0 := ⟨_, rfl⟩
      rw [← hT4] at F4 Y4 D4
      show wpQuiet _ _ _ _ _ _
      refine wpQuiet_nil ?_
      clear hT4 bx r4 F3 Y3
      rw [← hw4]
      refine wpl_appAt seEl_ok rfl (.tmp 21) (.tmp 27) rfl ssl_u se_info rfl (by decide) (by decide) Y4.out.el R4.out (x := Se.new (g + 1)) ⟨none, 0, rfl, D4.out⟩ (by omega) (by omega) (by simp [Act.eval]) (by simp [Act.eval]) ?_
      intro A5 c5 w5 e5 f5
      have r5 := f5.rowAt Y4.out.row (by rw [Y4.out.tg]; omega)
      have t5 : paint T4 w4.heap.size (t + 1) B = t := by rw [paint_old (row_lt Y4.out.row)]; exact Y4.out.tg
      have E5 := Lib.hid e5
      have F5 := Lib.hid (F4.out.trans (f5.mono fun c hc => (.inr hc : H2 t c)))
      obtain ⟨T5, hT5⟩ : ∃ T5, T5 = paint T4 w4.heap.size (t + 1) := ⟨_, rfl⟩
      rw [← hT5] at E5 F5 t5
      clear e5 f5 hT5 hw4 R4 D4 Y4 F4
      have hz5 := row_lt r5
      have fz := froz_row r5 0
      obtain ⟨x0, x1⟩ := cells2S r5
      have cB := fun y : After w5 => cells2S (After.row r5 y)
      go_wp2_with fail
      first | refine ⟨.inl trivial, ?_⟩ | skip
      show wpQuiet _ _ _ _ _ _
      repeat (go_big_quiet_step (fail))
      refine wpQuiet_nil ?_
      clear cB
      go_wp2_with fail
      first | refine ⟨.inl trivial, ?_⟩ | skip
      show wpQuiet _ _ _ _ _ _
      refine wpQuiet_nil ?_
      rw [setCell_row r5, show (#[.slice A l.length c, .int .i64 (g + 1)] : Array Value).setIfInBounds 0 (.slice A5 (l.length + 1) c5) = #[.slice A5 (l.length + 1) c5, .int .i64 (g + 1)] from rfl]
      have r6 := row_setRow r5 #[.slice A5 (l.length + 1) c5, .int .i64 (g + 1)]
      have f6 := Fr.row (T := T5) (H := fun c => c = t) (w := w5) (B := B) t5 (#[.slice A5 (l.length + 1) c5, .int .i64 (g + 1)] : Array Value)
      have E6 := Lib.hid (E5.out.fr seEl_ok f6 (by omega) (by omega))
      have F6 := Lib.hid (F5.out.trans (f6.mono fun c hc => (.inl hc : H2 t c)))
      obtain ⟨w6, hw6⟩ : ∃ w6, w6 = w5.setRow B #[.slice A5 (l.length + 1) c5, .int .i64 (g + 1)] := ⟨_, rfl⟩
      rw [← hw6] at r6 E6 F6 ⊢
      clear hw6 f6 r5 fz x0 x1 E5 F5 hz5
      obtain ⟨x0, x1⟩ := cells2S r6
      have fz := froz_row r6 1
      have hwr : IntKind.i64.wrap (g + 1 + 1) = g + 1 + 1 := IntWalk.i64_in _ (by omega)
      have hwr2 : IntKind.i64.wrap (g + 1 + 1 - 1) = g + 1 := by rw [show g + 1 + 1 - 1 = g + 1 by omega]; exact IntWalk.i64_in _ (by omega)
      go_upto_region 5 with fail
      rw [setCell_row r6, show (#[.slice A5 (l.length + 1) c5, .int .i64 (g + 1)] : Array Value).setIfInBounds 1 (.int .i64 (g + 1 + 1)) = #[.slice A5 (l.length + 1) c5, .int .i64 (g + 1 + 1)] from rfl]
      have r7 := row_setRow r6 #[.slice A5 (l.length + 1) c5, .int .i64 (g + 1 + 1)]
      have f7 := Fr.row (T := T5) (H := fun c => c = t) (w := w6) (B := B) t5 (#[.slice A5 (l.length + 1) c5, .int .i64 (g + 1 + 1)] : Array Value)
      have E7 := Lib.hid (E6.out.fr seEl_ok f7 (by omega) (by omega))
      have F7 := Lib.hid (F6.out.trans (f7.mono fun c hc => (.inl hc : H2 t c)))
      obtain ⟨w7, hw7⟩ : ∃ w7, w7 = w6.setRow B #[.slice A5 (l.length + 1) c5, .int .i64 (g + 1 + 1)] := ⟨_, rfl⟩
      rw [← hw7] at r7 E7 F7 ⊢
      clear hw7 f7 r6 fz x0 x1 E6 F6
      obtain ⟨x0, x1⟩ := cells2S r7
      have R7 := Lib.hid r7
      clear r7
      go_wp2_with fail
      have hll : (l ++ [Se.new (g + 1)]).length = l.length + 1 := by rw [List.length_append]; rfl
      rw [HN.out, HE.out, HL.out, HG.out, hF]
      refine bodyPost_ret (v := .tuple #[.int .i64 (g + 1), .int .i64 0]) (by simp [results, Try.results13, go_sem]) rfl ⟨rfl, T5, A5, c5, F7.out, ⟨?_, t5, E7.out⟩⟩
      rw [R7.out]
      simp
end Go.Proofs.Ythokiohdeclmhaa.Oct
