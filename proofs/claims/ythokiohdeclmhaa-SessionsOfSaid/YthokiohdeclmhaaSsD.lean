/- Contracts: sessions' Done, Clone. -/
import Derived.Test.YthokiohdeclmhaaSsC
namespace Go.Proofs.Ythokiohdeclmhaa.Oct
open Go.ChangeShapes Go.WideShapes Go.ChangeAt Go.RowKit Go.Maps
set_option linter.unusedVariables false

theorem se_b3 (x q c n m : Int) (V : Value) (w : World) : (Instr.build 50 #[(0, .int .i64 x), (1, .int .i64 q), (2, .agg #[.int .i64 c, .int .i64 n, .int .i64 m, V])]).run Try.prog w = .ok (.agg #[.int .i64 x, .int .i64 q, .int .i64 c, .int .i64 n, .int .i64 m, V]) w := by kernel_rfl
set_option maxRecDepth 20000 in
set_option maxHeartbeats 4000000 in
theorem pdone_any (T : Mk) (t B : Nat) (mv : Option Nat) (l : List Se) (g : Int) (x : Se) (A : Option Addr) (c : Nat) (w : World) (hP : PtAt T w t B mv l g) (ht : 0 < t) (hK : SsOk l g) (hi : i64B x.id) {tx : Nat} (hs : RdS T w tx A x.T c x.f) (htx : ¬ H2 t tx) (hn : x.T ≤ 140737488355328) :
    Calls Try.prog 20 #[.pointer (some ⟨B, 0, none⟩), .int .i64 x.id, .int .i64 x.q, repV x.c x.n x.m (.slice A x.T c)] w fun e w' => e = .returned (.int .i64 (dnE l x.id x.q)) ∧ ∃ T' mv', Fr T T' (H2 t) w w' ∧ PtAt T' w' t B mv' (dnL l x) g := by
  have bw0 : Below w.heap.size w (w.alloc (.cells #[.int .i64 x.c, .int .i64 x.n, .int .i64 x.m, .slice A x.T c] 31)) := (Below.refl _ _).alloc (by simp) _
  have P0 := hP.fr (Fr.new (H := fun _ => False) bw0 0) (fun h => h) (fun h => h) (fun h => h)
  obtain ⟨s, A0, c0, q1, q2, hs0, hg⟩ := P0.mp.look hi (seat_z _)
  obtain ⟨a0, a1⟩ := cells2S P0.row
  obtain ⟨w1, hw1⟩ : ∃ w1, w1 = (w.alloc (.cells #[.int .i64 x.c, .int .i64 x.n, .int .i64 x.m, .slice A x.T c] 31)).alloc (.cells #[.int .i64 s.id, .int .i64 s.q, .int .i64 s.c, .int .i64 s.n, .int .i64 s.m, .slice A0 s.T c0] 50) := ⟨_, rfl⟩
  have bw : Below w.heap.size w w1 := by rw [hw1]; exact bw0.alloc (by simp) _
  have R1 := Lib.hid (show row w1 w.heap.size = some #[.int .i64 x.c, .int .i64 x.n, .int .i64 x.m, .slice A x.T c] by rw [hw1]; exact row_alloc (row_alloc_at _ _ _ _ rfl) _)
  have R2 := Lib.hid (show row w1 (w.heap.size + 1) = some #[.int .i64 s.id, .int .i64 s.q, .int .i64 s.c, .int .i64 s.n, .int .i64 s.m, .slice A0 s.T c0] by rw [hw1]; exact row_alloc_at _ _ _ _ (by simp))
  have F1 := Lib.hid (show Fr T (paint T w.heap.size 0) (H2 t) w w1 from Fr.new bw 0)
  have P1 := Lib.hid (hP.fr (Fr.new (H := fun _ => False) bw 0) (fun h => h) (fun h => h) (fun h => h))
  have S1 := Lib.hid (hs.fr (Fr.new (H := fun _ => False) bw 0) (fun h => h))
  obtain ⟨T1, hT1⟩ : ∃ T1, T1 = paint T w.heap.size 0 := ⟨_, rfl⟩
  rw [← hT1] at F1 P1 S1
  have H1 (hh : ssH l x.id = true) := keep_any T1 t B mv l (ssD l x) g x A c w1 P1.out ht hi S1.out htx hn (by have := hK.n; omega) (fun j => by
    rw [ssH_D l x hh]
    by_cases e : x.id = j
    · subst e; rw [hh]; rfl
    · rw [show (x.id == j) = false by simpa using e, Bool.or_false]) (fun j s => ssG_D) (by rw [hh, ssD_len]; rfl)
  have H1 := Lib.hid H1
  have bd3 := fun w => se_b3 x.id x.q x.c x.n x.m (.slice A x.T c) w
  have HG := Lib.hid hg
  obtain ⟨b, hb⟩ : ∃ b, b = ssH l x.id := ⟨_, rfl⟩
  rw [← hb] at q1
  have HB := Lib.hid hb
  clear hP hs hg bw q2 hb P0 bw0 S1 hs0 hT1 hK
  go_enter Try.func20, Try.ntmps20
  go_upto_region 2 with fail
  rw [← hw1]
  clear hw1 q1 a0 a1
  obtain ⟨a0, a1, a2, a3, a4, a5⟩ := cells6 R2.out
  have r1 := R1.out
  cases b with
  | false =>
    have hG : ssG l x.id = none := by
      rcases HG.out with h | ⟨-, h, -⟩
      · have := HB.out; rw [ssH_G, h] at this; cases this
      · exact h
    have hE : dnE l x.id x.q = 150 := by unfold dnE; rw [hG]
    have E1 := Lib.hid hE
    have E2 := Lib.hid (show dnL l x = l by unfold dnL; rw [hE]; exact if_neg (by omega))
    clear hG HG HB hE
    go_wp2_with fail
    go_ret
    rw [E1.out, E2.out]
    exact ⟨rfl, _, _, F1.out, P1.out⟩
  | true =>
    have hG : ssG l x.id = some s := by
      rcases HG.out with h | ⟨h, -⟩
      · exact h
      · rw [← HB.out] at h; cases h
    by_cases h1 : x.q ≤ s.q
    · have d1 : decide (x.q ≤ s.q) = true := decide_eq_true h1
      have hE : dnE l x.id x.q = 151 := by unfold dnE; rw [hG]; exact if_pos h1
      have E1 := Lib.hid hE
      have E2 := Lib.hid (show dnL l x = l by unfold dnL; rw [hE]; exact if_neg (by omega))
      clear hG HG HB hE h1
      go_wp2_with fail
      go_ret
      rw [E1.out, E2.out]
      exact ⟨rfl, _, _, F1.out, P1.out⟩
    · have d1 : decide (x.q ≤ s.q) = false := decide_eq_false h1
      have hE : dnE l x.id x.q = 0 := by unfold dnE; rw [hG]; exact if_neg h1
      have E1 := Lib.hid hE
      have E2 := Lib.hid (show dnL l x = ssD l x by unfold dnL; rw [hE]; exact if_pos rfl)
      have H1' := Lib.hid (H1.out HB.out.symm)
      clear hG HG HB hE h1 H1
      go_wp2_with fail
      refine H1'.out.mono ?_
      rintro e w2 ⟨rfl, T2, mv2, hF2, hP2⟩
      have F2 := Lib.hid (F1.out.trans hF2)
      have P2 := Lib.hid hP2
      clear hF2 hP2
      go_wp2_with fail
      go_ret
      rw [E1.out, E2.out]
      exact ⟨rfl, _, _, F2.out, P2.out⟩
set_option maxRecDepth 20000 in
set_option maxHeartbeats 4000000 in
/-- a clone: another table, of whatever marks t' -/
theorem pclone_any (T : Mk) (t t' B : Nat) (mv : Option Nat) (l : List Se) (g : Int) (w : World) (hP : PtAt T w t B mv l g) (ht : 0 < t) :
    Calls Try.prog 22 #[.pointer (some ⟨B, 0, none⟩)] w fun e w' => ∃ B' T' mv', e = .returned (.pointer (some ⟨B', 0, none⟩)) ∧ PtAt T' w' t' B' mv' l g ∧ PtAt T' w' t B mv l g ∧ (∀ H, Fr T T' H w w') := by
  have HP := Lib.hid hP
  clear hP
  go_enter Try.func22, Try.ntmps22
  go_upto_region 1 with fail
  refine flow_seen [([0, 1, 2, 3, 5, 6, 7, 8], 4, false), ([9], 10, true)] [11] (by kernel_rfl) (by kernel_rfl) (fun _ _ _ _ _ h => h) fun Z => ?_
  have F3 := Lib.hid (fun H => Fr.calm (T := T) (H := H) Z.below fun _ _ => rfl)
  have P3 := Lib.hid (HP.out.fr (Fr.calm (H := fun _ => False) Z.below fun _ _ => rfl) (fun h => h) (fun h => h) (fun h => h))
  obtain ⟨w3, hw3⟩ : ∃ w3, w3 = Z.val := ⟨_, rfl⟩
  rw [← hw3] at F3 P3 ⊢
  clear hw3 Z HP
  have H3 := Lib.hid (mclone_any T (t + 1) (t' + 1) mv l w3 P3.out.mp)
  have cB := fun y : After w3 => cells2S (After.row P3.out.row y)
  simp only [wpFs, pk, List.getElem?_cons_zero, List.getElem?_cons_succ]
  repeat (go_big_quiet_step (fail))
  refine wpQuiet_nil ?_
  clear cB
  go_wp2_with fail
  refine H3.out.mono ?_
  rintro e w4 ⟨mv', rfl, hm, hb⟩
  have F4 := Lib.hid (fun H => (F3.out H).trans (Fr.new (T := T) (H := H) hb (t' + 1)))
  have P4 := Lib.hid (P3.out.fr (Fr.new (H := fun _ => False) hb (t' + 1)) (fun h => h) (fun h => h) (fun h => h))
  have M4 := Lib.hid hm
  go_wp2_with fail
  refine ⟨.inr hb, ?_⟩
  clear hb hm H3 P3 F3
  obtain ⟨T4, hT4⟩ : ∃ T4, T4 = paint T w3.heap.size (t' + 1) := ⟨_, rfl⟩
  rw [← hT4] at F4 P4 M4
  clear hT4
  show wpQuiet _ _ _ _ _ _
  repeat (go_big_quiet_step (fail))
  refine wpQuiet_nil ?_
  go_wp2_with fail
  refine ⟨.inl trivial, ?_⟩
  show wpQuiet _ _ _ _ _ _
  repeat (go_big_quiet_step (fail))
  refine wpQuiet_nil ?_
  go_wp2_with fail
  have bx := (Below.refl w4.heap.size w4).alloc (Nat.le_refl _) (.cells #[.map mv', .int .i64 g] 61)
  have F5 (H : Nat → Prop) := Fr.new (T := T4) (H := H) bx t'
  go_ret
  exact ⟨_, _, mv', rfl, ⟨row_alloc_at _ _ _ _ rfl, paint_new (Nat.le_refl _), M4.out.fr (F5 fun _ => False) (fun h => h) (fun h => h)⟩, P4.out.fr (F5 fun _ => False) (fun h => h) (fun h => h) (fun h => h), fun H => (F4.out H).trans (F5 H)⟩
end Go.Proofs.Ythokiohdeclmhaa.Oct
