/- Contracts: sessions' next, keep; the program's table of seats. -/
import Derived.Test.YthokiohdeclmhaaSsA
namespace Go.Proofs.Ythokiohdeclmhaa.Oct
open Go.ChangeShapes Go.WideShapes Go.ChangeAt Go.RowKit Go.Maps
set_option linter.unusedVariables false

/-- the program's table in block B: its map of seats, how many numbers were given -/
structure PtAt (T : Mk) (w : World) (t B : Nat) (mv : Option Nat) (l : List Se) (g : Int) : Prop where
  row : Oct.row w B = some #[.map mv, .int .i64 g]
  tg : T B = t
  mp : MpV T w (t + 1) mv l
def H2 (t : Nat) : Nat → Prop := fun c => c = t ∨ c = t + 1
theorem PtAt.fr {T T' : Mk} {H : Nat → Prop} {w w' : World} {t B : Nat} {mv : Option Nat} {l : List Se} {g : Int} (h : PtAt T w t B mv l g) (hf : Fr T T' H w w') (h1 : ¬ H t) (h2 : ¬ H (t + 1)) (h0 : ¬ H 0) : PtAt T' w' t B mv l g :=
  ⟨hf.rowAt h.row (by rw [h.tg]; exact h1), by rw [hf.tag B (row_lt h.row)]; exact h.tg, h.mp.fr hf h2 h0⟩
theorem cells2S {w : World} {B : Nat} {a b : Value} (h : row w B = some #[a, b]) : w.cell? ⟨B, 0, none⟩ = some a ∧ w.cell? ⟨B, 1, none⟩ = some b := by
  simp only [cell_row h]
  exact ⟨rfl, rfl⟩
set_option maxHeartbeats 1000000 in
theorem pnext_any (B : Nat) (mv : Option Nat) (g : Int) (w : World) (hr : row w B = some #[.map mv, .int .i64 g]) (h0 : 0 ≤ g) (h1 : g < 1099511627776) :
    Calls Try.prog 27 #[.pointer (some ⟨B, 0, none⟩)] w fun e w' => e = .returned (.int .i64 (g + 1)) ∧ w' = w := by
  obtain ⟨a0, a1⟩ := cells2S hr
  have hw : IntKind.i64.wrap (g + 1) = g + 1 := IntWalk.i64_in _ (by omega)
  clear hr
  go_enter Try.func27, Try.ntmps27
  go_wp2_with fail
  go_ret
  exact ⟨rfl, rfl⟩
set_option maxRecDepth 20000 in
set_option maxHeartbeats 4000000 in
/-- a session is laid into the table: l' is what stands behind it -/
theorem keep_any (T : Mk) (t B : Nat) (mv : Option Nat) (l l' : List Se) (g : Int) (x : Se) (A : Option Addr) (c : Nat) (w : World) (hP : PtAt T w t B mv l g) (ht : 0 < t) (hi : i64B x.id) {tx : Nat} (hs : RdS T w tx A x.T c x.f) (htx : ¬ H2 t tx) (hn : x.T ≤ 140737488355328) (hl9 : l.length < 1000)
    (hH : ∀ j, ssH l' j = (ssH l j || x.id == j)) (hG : ∀ j s, ssG l' j = some s → (j = x.id ∧ s = x) ∨ (j ≠ x.id ∧ ssG l j = some s)) (hl : l'.length = if ssH l x.id then l.length else l.length + 1) :
    Calls Try.prog 28 #[.pointer (some ⟨B, 0, none⟩), seV x (.slice A x.T c)] w fun e w' => e = .returned (.tuple #[]) ∧ ∃ T' mv', Fr T T' (H2 t) w w' ∧ PtAt T' w' t B mv' l' g := by
  have hBl := row_lt hP.row
  obtain ⟨w1, hw1⟩ : ∃ w1, w1 = w.alloc (.cells #[.int .i64 x.id, .int .i64 x.q, .int .i64 x.c, .int .i64 x.n, .int .i64 x.m, .slice A x.T c] 50) := ⟨_, rfl⟩
  have bw : Below w.heap.size w w1 := by rw [hw1]; exact (Below.refl _ _).alloc (by simp) _
  have hz : w1.heap.size = w.heap.size + 1 := by rw [hw1]; simp
  have hB0 : w.heap.size ≠ B := by omega
  have F1 := Lib.hid (show Fr T (paint T w.heap.size 0) (H2 t) w w1 from Fr.new bw 0)
  have P1 := Lib.hid (hP.fr (Fr.new (H := fun _ => False) bw 0) (fun h => h) (fun h => h) (fun h => h))
  have S1 := Lib.hid (hs.fr (Fr.new (H := fun _ => False) bw 0) (fun h => h))
  have R1 := Lib.hid (show row w1 w.heap.size = some #[.int .i64 x.id, .int .i64 x.q, .int .i64 x.c, .int .i64 x.n, .int .i64 x.m, .slice A x.T c] by rw [hw1]; exact row_alloc_at _ _ _ _ rfl)
  obtain ⟨T1, hT1⟩ : ∃ T1, T1 = paint T w.heap.size 0 := ⟨_, rfl⟩
  rw [← hT1] at F1 P1 S1
  clear hP bw hs hT1
  go_enter Try.func28, Try.ntmps28
  go_upto_region 1 with fail
  rw [← hw1]
  clear hw1
  have q := fun w => run_eql_map_nil_sl (P := Try.prog) w 59 _ _ mv seat_u
  obtain ⟨a0, a1⟩ := cells2S P1.out.row
  rcases P1.out.mp with ⟨rfl, rfl⟩ | ⟨M, rfl, hTM, hM⟩
  · have hmm := @run_makeMap Try.prog
    have f0 := froz_row P1.out.row 0
    obtain ⟨w2, hw2⟩ : ∃ w2, w2 = (w1.setRow B #[.map (some (w.heap.size + 1)), .int .i64 g]).alloc (.map #[] 0) := ⟨_, rfl⟩
    have ez : (w1.setRow B #[.map (some (w.heap.size + 1)), .int .i64 g]).heap.size = w.heap.size + 1 := by rw [setRow_sizeS]; exact hz
    have b2 : Below w1.heap.size (w1.setRow B #[.map (some (w.heap.size + 1)), .int .i64 g]) w2 := by rw [hw2]; exact (Below.refl _ _).alloc (by rw [ez, hz]; omega) _
    have fA : Fr T1 T1 (fun c => c = t) w1 (w1.setRow B #[.map (some (w.heap.size + 1)), .int .i64 g]) := Fr.row P1.out.tg _
    have fB : Fr T1 (paint T1 w1.heap.size (t + 1)) (fun c => c = t) (w1.setRow B #[.map (some (w.heap.size + 1)), .int .i64 g]) w2 := by
      have := Fr.new (T := T1) (H := fun c => c = t) (w := w1.setRow B #[.map (some (w.heap.size + 1)), .int .i64 g]) (w' := w2) (by rw [setRow_sizeS]; exact b2) (t + 1)
      rw [setRow_sizeS] at this
      exact this
    have hrB : row (w1.setRow B #[.map (some (w.heap.size + 1)), .int .i64 g]) B = some #[.map (some (w.heap.size + 1)), .int .i64 g] := row_setRow P1.out.row _
    have hM2 : MpAt (paint T1 w1.heap.size (t + 1)) w2 (w.heap.size + 1) [] := by
      have h := MpAt.made (paint T1 w1.heap.size (t + 1)) (w1.setRow B #[.map (some (w.heap.size + 1)), .int .i64 g])
      rw [← hw2, ez] at h
      exact h
    have P2 := Lib.hid (show PtAt (paint T1 w1.heap.size (t + 1)) w2 t B (some (w.heap.size + 1)) [] g from
      ⟨by rw [hw2]; exact row_alloc hrB _, by rw [paint_old (row_lt P1.out.row)]; exact P1.out.tg, .inr ⟨_, rfl, paint_new (by omega), hM2⟩⟩)
    have F2 := Lib.hid ((F1.out.trans (fA.mono fun c hc => (.inl hc : H2 t c))).trans (fB.mono fun c hc => (.inl hc : H2 t c)))
    have R2 := Lib.hid (show row w2 w.heap.size = some #[.int .i64 x.id, .int .i64 x.q, .int .i64 x.c, .int .i64 x.n, .int .i64 x.m, .slice A x.T c] by rw [hw2]; exact row_alloc ((row_setRow_other _ _ _ _ hB0).trans R1.out) _)
    have S2 := Lib.hid ((S1.out.fr (fA.mono fun c hc => (.inl hc : H2 t c)) htx).fr (fB.mono fun c hc => (.inl hc : H2 t c)) htx)
    go_upto_region 3 with fail
    rw [setCell_row P1.out.row, show (#[Value.map none, .int .i64 g] : Array Value).setIfInBounds 0 (.map (some (w.heap.size + 1))) = #[.map (some (w.heap.size + 1)), .int .i64 g] from rfl, ← hw2]
    obtain ⟨T2, hT2⟩ : ∃ T2, T2 = paint T1 w1.heap.size (t + 1) := ⟨_, rfl⟩
    rw [← hT2] at F2 P2 S2
    obtain ⟨M, hMM⟩ : ∃ M, M = w.heap.size + 1 := ⟨_, rfl⟩
    rw [← hMM] at P2
    obtain ⟨l0, hl0⟩ : ∃ l0 : List Se, l0 = [] := ⟨_, rfl⟩
    rw [← hl0] at P2 hl9 hH hG hl
    clear P1 F1 R1 S1 hw2 ez b2 fA fB hrB hM2 f0 hmm a0 a1 q hT2 hMM hl0
    refine flow_seen [([0, 1, 2, 3, 4, 5, 6], 7, false), ([], 8, true)] [] (by kernel_rfl) (by kernel_rfl) (fun _ _ _ _ _ h => h) fun Z => ?_
    have F3 := Lib.hid (F2.out.trans (Fr.calm (H := H2 t) Z.below fun _ _ => rfl))
    have P3 := Lib.hid (P2.out.fr (Fr.calm (H := fun _ => False) Z.below fun _ _ => rfl) (fun h => h) (fun h => h) (fun h => h))
    have R3 := Lib.hid (carry Z.below R2.out)
    have S3 := Lib.hid (S2.out.fr (Fr.calm (H := fun _ => False) Z.below fun _ _ => rfl) (fun h => h))
    obtain ⟨w3, hw3⟩ : ∃ w3, w3 = Z.val := ⟨_, rfl⟩
    rw [← hw3] at F3 P3 R3 S3 ⊢
    clear hw3 Z R2 S2 F2 P2
    have H3 := Lib.hid (cseat_any x A c w3 S3.out.sl hn)
    have cB := fun y : After w3 => cells2S (After.row P3.out.row y)
    have cR := fun y : After w3 => After.row R3.out y
    have cC := fun y : After w3 => cells6 (After.row R3.out y)
    simp only [wpFs, pk, List.getElem?_cons_zero, List.getElem?_cons_succ]
    repeat (go_big_quiet_step (fail))
    refine wpQuiet_nil ?_
    clear cB cR cC
    go_wp2_with fail
    refine H3.out.mono ?_
    rintro e w4 ⟨A', c', rfl, ho, hb⟩
    have F4 := Lib.hid (F3.out.trans (Fr.new (H := H2 t) hb 0))
    have P4 := Lib.hid (P3.out.fr (Fr.new (H := fun _ => False) hb 0) (fun h => h) (fun h => h) (fun h => h))
    have D4 := Lib.hid (ho.rdS T2 0)
    go_wp2_with fail
    refine ⟨.inr hb, ?_⟩
    clear ho hb H3 S3 R3 P3 F3
    obtain ⟨T4, hT4⟩ : ∃ T4, T4 = paint T2 w3.heap.size 0 := ⟨_, rfl⟩
    rw [← hT4] at F4 P4 D4
    clear hT4
    obtain ⟨hT, hM⟩ : T4 M = t + 1 ∧ MpAt T4 w4 M l0 := by
      rcases P4.out.mp with ⟨h, -⟩ | ⟨M', e, h1, h2⟩
      · cases h
      · cases e; exact ⟨h1, h2⟩
    obtain ⟨w5, hr, hM5, hF5, hz5⟩ := hM.put (H := fun c => c = t + 1) hi D4.out hT (by omega) hl9 hH hG hl
    have P5 := Lib.hid (show PtAt T4 w5 t B (some M) l' g from ⟨hF5.rowAt P4.out.row (by rw [P4.out.tg]; omega), P4.out.tg, .inr ⟨M, rfl, hT, hM5⟩⟩)
    have F5 := Lib.hid (F4.out.trans (hF5.mono fun c hc => (.inr hc : H2 t c)))
    clear hM hM5 hF5 hT P4 F4 D4
    show wpQuiet _ _ _ _ _ _
    refine wpQuiet_nil ?_
    go_wp2_with fail
    refine ⟨.inl trivial, ?_⟩
    show wpQuiet _ _ _ _ _ _
    refine wpQuiet_nil ?_
    go_wp2_with fail
    exact bodyPost_end (v := .tuple #[]) (by simp [results, Try.results28, go_sem]) rfl ⟨rfl, _, _, F5.out, P5.out⟩
  · obtain ⟨T2, hT2⟩ : ∃ T2, T2 = T1 := ⟨_, rfl⟩
    obtain ⟨l0, hl0⟩ : ∃ l0 : List Se, l0 = l := ⟨_, rfl⟩
    go_upto_region 3 with fail
    have P2 := P1
    have F2 := F1
    have R2 := R1
    have S2 := S1
    rw [← hT2] at F2 P2 S2
    rw [← hl0] at P2 hl9 hH hG hl
    clear P1 F1 R1 S1 a0 a1 q hT2 hTM hM hl0
    refine flow_seen [([0, 1, 2, 3, 4, 5, 6], 7, false), ([], 8, true)] [] (by kernel_rfl) (by kernel_rfl) (fun _ _ _ _ _ h => h) fun Z => ?_
    have F3 := Lib.hid (F2.out.trans (Fr.calm (H := H2 t) Z.below fun _ _ => rfl))
    have P3 := Lib.hid (P2.out.fr (Fr.calm (H := fun _ => False) Z.below fun _ _ => rfl) (fun h => h) (fun h => h) (fun h => h))
    have R3 := Lib.hid (carry Z.below R2.out)
    have S3 := Lib.hid (S2.out.fr (Fr.calm (H := fun _ => False) Z.below fun _ _ => rfl) (fun h => h))
    obtain ⟨w3, hw3⟩ : ∃ w3, w3 = Z.val := ⟨_, rfl⟩
    rw [← hw3] at F3 P3 R3 S3 ⊢
    clear hw3 Z R2 S2 F2 P2
    have H3 := Lib.hid (cseat_any x A c w3 S3.out.sl hn)
    have cB := fun y : After w3 => cells2S (After.row P3.out.row y)
    have cR := fun y : After w3 => After.row R3.out y
    have cC := fun y : After w3 => cells6 (After.row R3.out y)
    simp only [wpFs, pk, List.getElem?_cons_zero, List.getElem?_cons_succ]
    repeat (go_big_quiet_step (fail))
    refine wpQuiet_nil ?_
    clear cB cR cC
    go_wp2_with fail
    refine H3.out.mono ?_
    rintro e w4 ⟨A', c', rfl, ho, hb⟩
    have F4 := Lib.hid (F3.out.trans (Fr.new (H := H2 t) hb 0))
    have P4 := Lib.hid (P3.out.fr (Fr.new (H := fun _ => False) hb 0) (fun h => h) (fun h => h) (fun h => h))
    have D4 := Lib.hid (ho.rdS T2 0)
    go_wp2_with fail
    refine ⟨.inr hb, ?_⟩
    clear ho hb H3 S3 R3 P3 F3
    obtain ⟨T4, hT4⟩ : ∃ T4, T4 = paint T2 w3.heap.size 0 := ⟨_, rfl⟩
    rw [← hT4] at F4 P4 D4
    clear hT4
    obtain ⟨hT, hM⟩ : T4 M = t + 1 ∧ MpAt T4 w4 M l0 := by
      rcases P4.out.mp with ⟨h, -⟩ | ⟨M', e, h1, h2⟩
      · cases h
      · cases e; exact ⟨h1, h2⟩
    obtain ⟨w5, hr, hM5, hF5, hz5⟩ := hM.put (H := fun c => c = t + 1) hi D4.out hT (by omega) hl9 hH hG hl
    have P5 := Lib.hid (show PtAt T4 w5 t B (some M) l' g from ⟨hF5.rowAt P4.out.row (by rw [P4.out.tg]; omega), P4.out.tg, .inr ⟨M, rfl, hT, hM5⟩⟩)
    have F5 := Lib.hid (F4.out.trans (hF5.mono fun c hc => (.inr hc : H2 t c)))
    clear hM hM5 hF5 hT P4 F4 D4
    show wpQuiet _ _ _ _ _ _
    refine wpQuiet_nil ?_
    go_wp2_with fail
    refine ⟨.inl trivial, ?_⟩
    show wpQuiet _ _ _ _ _ _
    refine wpQuiet_nil ?_
    go_wp2_with fail
    exact bodyPost_end (v := .tuple #[]) (by simp [results, Try.results28, go_sem]) rfl ⟨rfl, _, _, F5.out, P5.out⟩
end Go.Proofs.Ythokiohdeclmhaa.Oct
