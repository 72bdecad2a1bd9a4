/- Contracts: sessions' New, Open, Expire. -/
import Derived.Test.YthokiohdeclmhaaSsB
namespace Go.Proofs.Ythokiohdeclmhaa.Oct
open Go.ChangeShapes Go.WideShapes Go.ChangeAt Go.RowKit Go.Maps
set_option linter.unusedVariables false

theorem se_b1 (x : Int) (w : World) : (Instr.build 50 #[(0, .int .i64 x)]).run Try.prog w = .ok (seV (.new x) (.slice none 0 0)) w := by kernel_rfl
set_option maxHeartbeats 1000000 in
theorem snew_any (T : Mk) (t : Nat) (w : World) : Calls Try.prog 9 #[] w fun e w' => ∃ B, e = .returned (.pointer (some ⟨B, 0, none⟩)) ∧ PtAt (paint T w.heap.size t) w' t B none [] 0 ∧ Below w.heap.size w w' := by
  go_enter Try.func9, Try.ntmps9
  go_wp2_with fail
  go_ret
  exact ⟨_, rfl, ⟨row_alloc_at _ _ _ _ rfl, paint_new (Nat.le_refl _), .inl ⟨rfl, rfl⟩⟩, (Below.refl _ _).alloc (Nat.le_refl _) _⟩
set_option maxRecDepth 20000 in
set_option maxHeartbeats 4000000 in
theorem popen_any (T : Mk) (t B : Nat) (mv : Option Nat) (l : List Se) (g : Int) (w : World) (hP : PtAt T w t B mv l g) (ht : 0 < t) (hK : SsOk l g) :
    Calls Try.prog 12 #[.pointer (some ⟨B, 0, none⟩)] w fun e w' => e = .returned (.tuple #[.int .i64 (opN l g), .int .i64 (opE l g)]) ∧ ∃ T' mv', Fr T T' (H2 t) w w' ∧ PtAt T' w' t B mv' (opL l g) (opG l g) := by
  have hg0 := hK.g0
  have hg1 := hK.g1
  have hn8 := hK.n
  have HP := Lib.hid hP
  have H1 := Lib.hid (pnext_any B mv g w hP.row hg0 hg1)
  have qL := fun ty => hP.mp.len ty
  obtain ⟨a0, a1⟩ := cells2S hP.row
  have hnot : ssH l (g + 1) = false := hK.not (.inr (by omega))
  have H2' := Lib.hid (keep_any T t B mv l (l ++ [Se.new (g + 1)]) g (Se.new (g + 1)) none 0 w hP ht (by unfold i64B; simp only [Se.new]; omega) (tx := t + 2) (RdS.nil _ _ _ _) (by unfold H2; omega) (Nat.zero_le _) (by omega) (fun j => ssH_app _ _ _) (fun j s => ssG_app hnot) (by rw [show (Se.new (g + 1)).id = g + 1 from rfl, hnot]; simp))
  have bd1 := fun w => se_b1 (g + 1) w
  have HN := Lib.hid (show opN l g = if opF l g then 0 else g + 1 from rfl)
  have HE := Lib.hid (show opE l g = if opF l g then 134 else 0 from rfl)
  have HL := Lib.hid (show opL l g = if opF l g then l else l ++ [Se.new (g + 1)] from rfl)
  have HG := Lib.hid (show opG l g = if opF l g then g else g + 1 from rfl)
  have HF := Lib.hid (show opF l g = (decide (l.length = 8) || decide (g + 1 = 1099511627776)) from rfl)
  clear hP hK hnot
  go_enter Try.func12, Try.ntmps12
  go_wp2_with fail
  refine H1.out.mono ?_
  rintro e w' ⟨rfl, rfl⟩
  by_cases h8 : l.length = 8
  · have d8 : ((l.length : Int) == 8) = true := beq_iff_eq.2 (by omega)
    go_wp2_with fail
    have hF : opF l g = true := by rw [HF.out, h8]; rfl
    rw [HN.out, HE.out, HL.out, HG.out, hF]
    exact bodyPost_ret (v := .tuple #[.int .i64 0, .int .i64 134]) (by simp [results, Try.results12, go_sem]) rfl ⟨rfl, T, mv, Fr.refl _ _ _, HP.out⟩
  · have d8 : ((l.length : Int) == 8) = false := beq_eq_false_iff_ne.2 (by omega)
    by_cases h9 : g + 1 = 1099511627776
    · have d9 : (g + 1 == 1099511627776) = true := beq_iff_eq.2 h9
      go_wp2_with fail
      have hF : opF l g = true := by rw [HF.out, decide_eq_true h9, Bool.or_true]
      rw [HN.out, HE.out, HL.out, HG.out, hF]
      exact bodyPost_ret (v := .tuple #[.int .i64 0, .int .i64 134]) (by simp [results, Try.results12, go_sem]) rfl ⟨rfl, T, mv, Fr.refl _ _ _, HP.out⟩
    · have d9 : (g + 1 == 1099511627776) = false := beq_eq_false_iff_ne.2 h9
      have hF : opF l g = false := by rw [HF.out, decide_eq_false h9, decide_eq_false h8]; rfl
      clear h9
      go_wp2_with fail
      refine H2'.out.mono ?_
      rintro e w2 ⟨rfl, T2, mv2, hF2, hP2⟩
      obtain ⟨b0, b1⟩ := cells2S hP2.row
      have f1 := froz_row hP2.row 1
      have HF2 := Lib.hid hF2
      have HP2 := Lib.hid hP2
      clear hF2 hP2 a0 a1
      go_wp2_with fail
      rw [HN.out, HE.out, HL.out, HG.out, hF, setCell_row HP2.out.row]
      have hF3 := Fr.row (T := T2) (H := fun c => c = t) (w := w2) (B := B) HP2.out.tg (#[.map mv2, .int .i64 (g + 1)] : Array Value)
      exact bodyPost_ret (v := .tuple #[.int .i64 (g + 1), .int .i64 0]) (by simp [results, Try.results12, go_sem]) rfl ⟨rfl, T2, mv2, HF2.out.trans (hF3.mono fun c hc => (.inl hc : H2 t c)), ⟨row_setRow HP2.out.row _, HP2.out.tg, HP2.out.mp.fr hF3 (by omega) (by omega)⟩⟩
set_option maxRecDepth 20000 in
set_option maxHeartbeats 4000000 in
theorem pexp_any (T : Mk) (t B : Nat) (mv : Option Nat) (l : List Se) (g id : Int) (w : World) (hP : PtAt T w t B mv l g) (ht : 0 < t) (hK : SsOk l g) (hi : i64B id) :
    Calls Try.prog 14 #[.pointer (some ⟨B, 0, none⟩), .int .i64 id] w fun e w' => e = .returned (.int .i64 (exE l id)) ∧ ∃ T' mv', Fr T T' (H2 t) w w' ∧ PtAt T' w' t B mv' (ssX l id) g := by
  obtain ⟨s, A, c, q1, q2, hs, hg⟩ := hP.mp.look hi (seat_z w)
  obtain ⟨a0, a1⟩ := cells2S hP.row
  have HP := Lib.hid hP
  obtain ⟨w1, hw1⟩ : ∃ w1, w1 = w.alloc (.cells #[.int .i64 s.id, .int .i64 s.q, .int .i64 s.c, .int .i64 s.n, .int .i64 s.m, .slice A s.T c] 50) := ⟨_, rfl⟩
  have bw : Below w.heap.size w w1 := by rw [hw1]; exact (Below.refl _ _).alloc (by simp) _
  have P1 := Lib.hid (hP.fr (Fr.new (H := fun _ => False) bw 0) (fun h => h) (fun h => h) (fun h => h))
  have F1 := Lib.hid (show Fr T (paint T w.heap.size 0) (H2 t) w w1 from Fr.new bw 0)
  have HX := Lib.hid (show exE l id = if ssH l id then 0 else 150 from rfl)
  have HU := Lib.hid hK.up
  have HXn := Lib.hid (ssX_none (l := l) (id := id))
  obtain ⟨b, hb⟩ : ∃ b, b = ssH l id := ⟨_, rfl⟩
  rw [← hb] at q1 HX HXn
  clear hP hK hs hg bw q2 hb
  go_enter Try.func14, Try.ntmps14
  go_upto_region 2 with fail
  rw [← hw1]
  clear hw1 q1 a0 a1
  obtain ⟨a0, a1⟩ := cells2S P1.out.row
  cases b with
  | false =>
    have EX := Lib.hid (show exE l id = 150 from HX.out)
    have EL := Lib.hid (HXn.out rfl)
    clear HX HXn
    go_wp2_with fail
    go_ret
    rw [EX.out, EL.out]
    exact ⟨rfl, _, mv, F1.out, P1.out⟩
  | true =>
    obtain ⟨w2, hr, hM2, hF2, hz2⟩ := P1.out.mp.drop (H := fun c => c = t + 1) hi HU.out rfl (by omega) 0
    have EX := Lib.hid (show exE l id = 0 from HX.out)
    have P2 := Lib.hid (show PtAt (paint T w.heap.size 0) w2 t B mv (ssX l id) g from ⟨hF2.rowAt P1.out.row (by rw [P1.out.tg]; omega), P1.out.tg, hM2⟩)
    have F2 := Lib.hid (F1.out.trans (hF2.mono fun c hc => (.inr hc : H2 t c)))
    clear HX HXn hM2 hF2
    go_wp2_with fail
    go_ret
    rw [EX.out]
    exact ⟨rfl, _, mv, F2.out, P2.out⟩
theorem se_f2 (x0 x1 x2 x3 x4 : Int) (V : Value) (w : World) : (Instr.field 50 (.agg #[.int .i64 x0, .int .i64 x1, .int .i64 x2, .int .i64 x3, .int .i64 x4, V]) 2).run Try.prog w = .ok (.agg #[.int .i64 x2, .int .i64 x3, .int .i64 x4, V]) w := by kernel_rfl
theorem rp_b0 (w : World) : (Instr.build 31 #[]).run Try.prog w = .ok (repV 0 0 0 (.slice none 0 0)) w := by kernel_rfl
theorem Own.new_ {w w' : World} {D n c : Nat} {A : Option Addr} {f : Bf} {u : TypeId} (h : Own w' D u (.slice A n c) n f) (hD : w.heap.size ≤ D) : Own w' w.heap.size u (.slice A n c) n f := h.base hD
set_option maxRecDepth 20000 in
set_option maxHeartbeats 4000000 in
theorem pask_any (T : Mk) (t B : Nat) (mv : Option Nat) (l : List Se) (g id q : Int) (w : World) (hP : PtAt T w t B mv l g) (hK : SsOk l g) (hi : i64B id) :
    Calls Try.prog 16 #[.pointer (some ⟨B, 0, none⟩), .int .i64 id, .int .i64 q] w fun e w' => ∃ A c, e = .returned (.tuple #[repV (akS l id q).c (akS l id q).n (akS l id q).m (.slice A (akS l id q).T c), .bool (akB l id q), .int .i64 (akE l id q)]) ∧
      Own w' w.heap.size 5 (.slice A (akS l id q).T c) (akS l id q).T (akS l id q).f ∧ Below w.heap.size w w' := by
  have bw0 : Below w.heap.size w (w.alloc (.cells #[.int .i64 0, .int .i64 0, .int .i64 0, .slice none 0 0] 31)) := (Below.refl _ _).alloc (by simp) _
  have P0 := hP.fr (Fr.new (H := fun _ => False) bw0 0) (fun h => h) (fun h => h) (fun h => h)
  obtain ⟨s, A, c, q1, q2, hs, hg⟩ := P0.mp.look hi (seat_z _)
  obtain ⟨a0, a1⟩ := cells2S P0.row
  obtain ⟨w1, hw1⟩ : ∃ w1, w1 = (w.alloc (.cells #[.int .i64 0, .int .i64 0, .int .i64 0, .slice none 0 0] 31)).alloc (.cells #[.int .i64 s.id, .int .i64 s.q, .int .i64 s.c, .int .i64 s.n, .int .i64 s.m, .slice A s.T c] 50) := ⟨_, rfl⟩
  have bw : Below w.heap.size w w1 := by rw [hw1]; exact bw0.alloc (by simp) _
  have R1 := Lib.hid (show row w1 w.heap.size = some #[.int .i64 0, .int .i64 0, .int .i64 0, .slice none 0 0] by rw [hw1]; exact row_alloc (row_alloc_at _ _ _ _ rfl) _)
  have R2 := Lib.hid (show row w1 (w.heap.size + 1) = some #[.int .i64 s.id, .int .i64 s.q, .int .i64 s.c, .int .i64 s.n, .int .i64 s.m, .slice A s.T c] by rw [hw1]; exact row_alloc_at _ _ _ _ (by simp))
  have B1 := Lib.hid bw
  have hz : w1.heap.size = w.heap.size + 2 := by rw [hw1]; simp
  have S1 := Lib.hid (show Sl w1 w1.heap.size A s.T c s.f by
    have h := hs.fr (Fr.new (H := fun _ => False) (show Below _ _ w1 by rw [hw1]; exact (Below.refl _ _).alloc (Nat.le_refl _) _) 0) (fun h => h)
    exact h.sl)
  have hn : s.T ≤ 140737488355328 := by
    rcases hg with h | ⟨-, -, rfl, -, -⟩
    · exact hK.t s (ssG_some h).1
    · exact Nat.zero_le _
  have HG := Lib.hid hg
  have H1 := Lib.hid (cseat_any s A c w1 S1.out hn)
  obtain ⟨b, hb⟩ : ∃ b, b = ssH l id := ⟨_, rfl⟩
  rw [← hb] at q1
  have HB := Lib.hid hb
  clear hP hK hs hg bw q2 hb P0 bw0 S1
  go_enter Try.func16, Try.ntmps16
  go_upto_region 2 with fail
  rw [← hw1]
  clear hw1 q1 a0 a1
  have bd0 := rp_b0
  have O0 := fun w' => Own.nil w' w.heap.size 5 (fun _ => 0#8)
  obtain ⟨a0, a1, a2, a3, a4, a5⟩ := cells6 R2.out
  have R1' := R1.out
  cases b with
  | false =>
    have hG : ssG l id = none := by
      rcases HG.out with h | ⟨-, h, -⟩
      · have := HB.out; rw [ssH_G, h] at this; cases this
      · exact h
    have E1 := Lib.hid (show akE l id q = 150 by unfold akE; rw [hG])
    have E2 := Lib.hid (show akB l id q = false by unfold akB; rw [hG])
    have E3 := Lib.hid (show akS l id q = .new 0 by unfold akS; rw [hG])
    clear hG HG HB
    go_wp2_with fail
    rw [E1.out, E2.out, E3.out]
    exact bodyPost_ret (v := .tuple #[repV 0 0 0 (.slice none 0 0), .bool false, .int .i64 150]) (res_ctt Try.results16 _ _ w.heap.size _ _ rfl (row_setRow R1.out _) Try.underlying31 rfl (by kernel_rfl)) rfl ⟨none, 0, rfl, O0 _, below_setRow B1.out (Nat.le_refl _) _⟩
  | true =>
    have hG : ssG l id = some s := by
      rcases HG.out with h | ⟨h, -⟩
      · exact h
      · rw [← HB.out] at h; cases h
    by_cases h1 : q < s.q
    · have d1 : decide (q < s.q) = true := decide_eq_true h1
      have E1 := Lib.hid (show akE l id q = 151 by unfold akE; rw [hG]; exact if_pos (.inl h1))
      have E2 := Lib.hid (show akB l id q = false by unfold akB; rw [hG]; exact decide_eq_false (fun h => h.1 (.inl h1)))
      have E3 := Lib.hid (show akS l id q = .new 0 by unfold akS; rw [hG]; exact if_neg (fun h => h.1 (.inl h1)))
      clear hG HG HB h1
      go_wp2_with fail
      rw [E1.out, E2.out, E3.out]
      exact bodyPost_ret (v := .tuple #[repV 0 0 0 (.slice none 0 0), .bool false, .int .i64 151]) (res_ctt Try.results16 _ _ w.heap.size _ _ rfl (row_setRow R1.out _) Try.underlying31 rfl (by kernel_rfl)) rfl ⟨none, 0, rfl, O0 _, below_setRow B1.out (Nat.le_refl _) _⟩
    · have d1 : decide (q < s.q) = false := decide_eq_false h1
      by_cases h2 : q < 1
      · have d2 : decide (q < 1) = true := decide_eq_true h2
        have E1 := Lib.hid (show akE l id q = 151 by unfold akE; rw [hG]; exact if_pos (.inr h2))
        have E2 := Lib.hid (show akB l id q = false by unfold akB; rw [hG]; exact decide_eq_false (fun h => h.1 (.inr h2)))
        have E3 := Lib.hid (show akS l id q = .new 0 by unfold akS; rw [hG]; exact if_neg (fun h => h.1 (.inr h2)))
        clear hG HG HB h1 h2
        go_wp2_with fail
        rw [E1.out, E2.out, E3.out]
        exact bodyPost_ret (v := .tuple #[repV 0 0 0 (.slice none 0 0), .bool false, .int .i64 151]) (res_ctt Try.results16 _ _ w.heap.size _ _ rfl (row_setRow R1.out _) Try.underlying31 rfl (by kernel_rfl)) rfl ⟨none, 0, rfl, O0 _, below_setRow B1.out (Nat.le_refl _) _⟩
      · have d2 : decide (q < 1) = false := decide_eq_false h2
        have hno : ¬ (q < s.q ∨ q < 1) := fun h => h.elim h1 h2
        have E1 := Lib.hid (show akE l id q = 0 by unfold akE; rw [hG]; exact if_neg hno)
        by_cases h3 : q = s.q
        · have d3 : decide (s.q < q) = false := decide_eq_false (by omega)
          have E2 := Lib.hid (show akB l id q = true by unfold akB; rw [hG]; exact decide_eq_true ⟨hno, h3⟩)
          have E3 := Lib.hid (show akS l id q = s by unfold akS; rw [hG]; exact if_pos ⟨hno, h3⟩)
          clear hG HG HB h1 h2 hno h3
          have r2 := R2.out
          go_wp2_with fail
          refine H1.out.mono ?_
          rintro e w2 ⟨A', c', rfl, ho, hb⟩
          have R1x := carry hb R1.out
          have O2 := Lib.hid ho
          have B2 := Lib.hid (onto B1.out (by omega) hb)
          have qf := fun w => se_f2 s.id s.q s.c s.n s.m (.slice A' s.T c') w
          clear ho hb R1' r2 a0 a1 a2 a3 a4 a5 H1
          go_wp2_with fail
          rw [E1.out, E2.out, E3.out]
          exact bodyPost_ret (v := .tuple #[repV s.c s.n s.m (.slice A' s.T c'), .bool true, .int .i64 0]) (res_ctt Try.results16 _ _ w.heap.size _ _ rfl (row_setRow R1x _) Try.underlying31 rfl (by kernel_rfl)) rfl
            ⟨A', c', rfl, (O2.out.setRow _ (fun e => by have := (World.ownsRow.lt O2.out _ e).1; omega) _).base (by omega), below_setRow B2.out (Nat.le_refl _) _⟩
        · have d3 : decide (s.q < q) = true := decide_eq_true (by omega)
          have E2 := Lib.hid (show akB l id q = false by unfold akB; rw [hG]; exact decide_eq_false (fun h => h3 h.2))
          have E3 := Lib.hid (show akS l id q = .new 0 by unfold akS; rw [hG]; exact if_neg (fun h => h3 h.2))
          clear hG HG HB h1 h2 hno h3
          go_wp2_with fail
          rw [E1.out, E2.out, E3.out]
          exact bodyPost_ret (v := .tuple #[repV 0 0 0 (.slice none 0 0), .bool false, .int .i64 0]) (res_ctt Try.results16 _ _ w.heap.size _ _ rfl (row_setRow R1.out _) Try.underlying31 rfl (by kernel_rfl)) rfl ⟨none, 0, rfl, O0 _, below_setRow B1.out (Nat.le_refl _) _⟩
end Go.Proofs.Ythokiohdeclmhaa.Oct
