/- Contracts: disk's Boot. -/
import Derived.Test.YthdhbjfenanbnaaDkN
namespace Go.Proofs.Ythdhbjfenanbnaa.Oct
open Go.ChangeShapes Go.WideShapes Go.ChangeAt Go.RowKit
set_option linter.unusedVariables false

def iV (a : Nat → Int) : Nat → Value := fun i => .int .i64 (a i)
/-- numbers that came in -/
structure Ints (T : Mk) (w : World) (A : Option Addr) (n c : Nat) (a : Nat → Int) : Prop where
  sl : SlG w w.heap.size A n c (iV a)
  tg : 0 < n → ∀ ad, A = some ad → T ad.block = 0
  rg : ∀ j, j < n → -9223372036854775808 ≤ a j ∧ a j < 9223372036854775808
theorem Ints.fr {T T' : Mk} {H : Nat → Prop} {w w' : World} {A : Option Addr} {n c : Nat} {a : Nat → Int} (h : Ints T w A n c a) (hf : Fr T T' H w w') (h0 : ¬ H 0) : Ints T' w' A n c a := by
  refine ⟨⟨h.sl.le, fun hn => ?_⟩, fun hn ad ha => ?_, h.rg⟩
  · obtain ⟨g, o, e, hg, hc⟩ := h.sl.at_ hn
    have e1 := h.tg hn _ e
    refine ⟨g, o, e, Nat.lt_of_lt_of_le hg hf.size, fun i hi => ?_⟩
    rw [hf.cellAt hg (by simp only at e1; rw [e1]; exact h0)]
    exact hc i hi
  · obtain ⟨g, o, e, hg, hc⟩ := h.sl.at_ hn
    rw [e] at ha
    cases ha
    rw [hf.tag g hg]
    exact h.tg hn _ e
theorem pck_lt {a : Nat → Int} {n : Nat} (h : ∀ j, j < n → -9223372036854775808 ≤ a j ∧ a j < 9223372036854775808) (i : Nat) : pck a n i < 9223372036854775808 := by
  unfold pck
  split
  · omega
  · have := h i (by omega)
    split <;> omega
set_option maxHeartbeats 1000000 in
theorem number_any (T : Mk) (x n c i : Nat) (A : Option Addr) (a : Nat → Int) (w : World) (hx : Bx w x (.slice A n c)) (hs : Ints T w A n c a) (hi : i < 1000) :
    Calls Try.prog 31 #[.int .i64 (i : Int), .pointer (some ⟨x, 0, none⟩)] w fun e w' => e = .returned (.int .i64 ((pck a n i : Nat) : Int)) ∧ w = w' := by
  have q0 := hx.cell
  have HS := Lib.hid hs
  clear hx hs
  by_cases h0 : n ≤ i
  · have hd : decide (n ≤ i) = true := by simpa using h0
    have HP := Lib.hid (show pck a n i = 0 by unfold pck; rw [if_pos h0])
    clear h0
    go_enter Try.func31, Try.ntmps31
    go_wp2_with fail
    go_ret
    exact ⟨by rw [HP.out]; rfl, rfl⟩
  · have hd : decide (n ≤ i) = false := by simpa using h0
    obtain ⟨g, o, rfl, hg, hc⟩ := HS.out.sl.at_ (by omega)
    have q1 : w.cell? ⟨g, o + i, none⟩ = some (.int .i64 (a i)) := hc i (by omega)
    obtain ⟨b1, b2⟩ := HS.out.rg i (by omega)
    obtain ⟨y, hy⟩ : ∃ y, y = a i := ⟨_, rfl⟩
    have HY := Lib.hid hy
    rw [← hy] at q1 b1 b2
    have hlt : i < n := by omega
    have H0 := Lib.hid h0
    clear hc hy h0
    by_cases hneg : y < 0
    · have hd2 : decide (y < 0) = true := by simpa using hneg
      have HP := Lib.hid (show ((pck a n i : Nat) : Int) = -(y + 1) by unfold pck; rw [if_neg H0.out, ← HY.out, if_pos hneg]; omega)
      have w1 : IntKind.i64.wrap (y + 1) = y + 1 := IntWalk.i64_in _ (by omega)
      have w2 : IntKind.i64.wrap (-(y + 1)) = -(y + 1) := IntWalk.i64_in _ (by omega)
      go_enter Try.func31, Try.ntmps31
      go_wp2_with fail
      go_ret
      exact ⟨by rw [HP.out]; rfl, rfl⟩
    · have hd2 : decide (y < 0) = false := by simpa using hneg
      have HP := Lib.hid (show ((pck a n i : Nat) : Int) = y by unfold pck; rw [if_neg H0.out, ← HY.out, if_neg hneg]; omega)
      go_enter Try.func31, Try.ntmps31
      go_wp2_with fail
      go_ret
      exact ⟨by rw [HP.out]; rfl, rfl⟩
/-- the first j files booted -/
def Dk.part (d : Dk) (g : Nat → Nat) (j : Nat) : Dk := { d with f := fun i => if i < j then (d.f i).boot (g i) (g (4 + i)) (g (8 + i)) else d.f i }
theorem part_0 (d : Dk) (g : Nat → Nat) : d.part g 0 = d := by
  have e : (fun i => if i < 0 then (d.f i).boot (g i) (g (4 + i)) (g (8 + i)) else d.f i) = d.f := by funext i; rw [if_neg (by omega)]
  unfold Dk.part
  rw [e]
theorem part_step (d : Dk) (g : Nat → Nat) (j : Nat) : { d.part g j with f := updD (d.part g j).f j ((d.f j).boot (g j) (g (4 + j)) (g (8 + j))) } = d.part g (j + 1) := by
  have e : updD (d.part g j).f j ((d.f j).boot (g j) (g (4 + j)) (g (8 + j))) = (d.part g (j + 1)).f := by
    funext i
    unfold updD Dk.part
    simp only
    by_cases h : i = j
    · subst h; rw [if_pos rfl, if_pos (by omega)]
    · rw [if_neg h]
      by_cases h2 : i < j
      · rw [if_pos h2, if_pos (by omega)]
      · rw [if_neg h2, if_neg (by omega)]
  rw [e]
  rfl
theorem dk_head4 {T : Mk} {w : World} {t B : Nat} {d d' : Dk} {V : Nat → Value} {l l' : Int} (hr : row w B = some (dkC V d.n d.off d.u.isSome l)) (hT : T B = t) (ht : 0 < t) (h3 : ∀ i, i < 4 → FilAt T w (t + 1 + 2 * i) (V (2 * i)) (V (2 * i + 1)) (d.f i))
    (hl : ∀ m, d'.u = some m → l' = (m : Int)) (hl2 : -9223372036854775808 ≤ l' ∧ l' < 9223372036854775808) (hf : ∀ i, i < 4 → d'.f i = d.f i) :
    Fr T T (fun y => y = t) w (w.setRow B (dkC V d'.n d'.off d'.u.isSome l')) ∧ DkAt T (w.setRow B (dkC V d'.n d'.off d'.u.isSome l')) t B d' := by
  have f1 := Fr.row (T := T) (w := w) (H := fun y => y = t) (B := B) hT (dkC V d'.n d'.off d'.u.isSome l')
  refine ⟨f1, hT, ⟨V, l', row_setRow hr _, hl, hl2, fun i hi => ?_⟩⟩
  rw [hf i hi]
  exact (h3 i hi).fr f1 (by omega) (by omega) (by omega)
set_option maxHeartbeats 4000000 in
theorem boot_any (T : Mk) (t B n c : Nat) (A : Option Addr) (a : Nat → Int) (d : Dk) (w : World) (h : DkAt T w t B d) (hk : d.ok) (ht : 0 < t) (hn : d.n < 1000000000000) (hs : Ints T w A n c a) :
    Calls Try.prog 14 #[.pointer (some ⟨B, 0, none⟩), .slice A n c] w fun e w' => e = .returned (.tuple #[]) ∧ ∃ T', Fr T T' (Hs t) w w' ∧ DkAt T' w' t B (d.boot (pck a n)) := by
  have H := Lib.hid h
  have HS := Lib.hid hs
  have HK := Lib.hid hk
  obtain ⟨g, hg⟩ : ∃ g, g = pck a n := ⟨_, rfl⟩
  have HG := Lib.hid hg
  rw [← hg]
  clear h hs hk hg
  go_enter Try.func14, Try.ntmps14
  go_wp2_with fail
  have b1 : Below w.heap.size w (w.alloc (.cells #[.slice A n c] 30)) := (Below.refl _ _).alloc (Nat.le_refl _) _
  have X1 := Lib.hid (Bx.new w (.slice A n c) 30)
  have F1 := Lib.hid (Fr.new (T := T) (H := Hs t) b1 0)
  have D1 := Lib.hid (H.out.fr (Fr.new (T := T) (H := fun _ => False) b1 0) (fun _ _ e => e) (fun e => e))
  have S1 := Lib.hid (HS.out.fr (Fr.new (T := T) (H := fun _ => False) b1 0) (fun e => e))
  have HX := Lib.hid (show paint T w.heap.size 0 w.heap.size = 0 from paint_new (Nat.le_refl _))
  obtain ⟨w1, hw1⟩ : ∃ w1, w1 = w.alloc (.cells #[.slice A n c] 30) := ⟨_, rfl⟩
  rw [← hw1] at b1 X1 F1 D1 S1 ⊢
  clear hw1
  go_loopw [7] (fun iv wr => ∃ (j : Nat) (T1 : Mk), j ≤ 4 ∧ iv = .int .i64 (j : Int) ∧ Fr T T1 (Hs t) w wr ∧ DkAt T1 wr t B (d.part g j) ∧ Bx wr w.heap.size (.slice A n c) ∧ T1 w.heap.size = 0 ∧ Ints T1 wr A n c a) (fun iv _ => 4 - (intOf iv).toNat)
  case atStart => exact ⟨0, _, by omega, rfl, F1.out, by rw [part_0]; exact D1.out, X1.out, HX.out, S1.out⟩
  case round =>
    clear F1 D1 X1 S1 HX b1
    obtain ⟨j, T2, hj, rfl, hf, hd, hx, hxt, hsn⟩ := hrel
    obtain ⟨wo, rfl⟩ : ∃ wo : World, wo = wr := ⟨_, rfl⟩
    have HF := Lib.hid hf
    have HD := Lib.hid hd
    have HX := Lib.hid hx
    have HXT := Lib.hid hxt
    have HSN := Lib.hid hsn
    clear hf hd hx hxt hsn
    by_cases hlt : j < 4
    · have hd : decide ((j : Int) < 4) = true := by simp; omega
      go_wp2_with fail
      have hgl := fun i => pck_lt (a := a) (n := n) HS.out.rg i
      rw [← HG.out] at hgl
      have w1' : IntKind.i64.wrap (4 + (j : Int)) = 4 + (j : Int) := IntWalk.i64_in _ (by omega)
      have w2' : IntKind.i64.wrap (8 + (j : Int)) = 8 + (j : Int) := IntWalk.i64_in _ (by omega)
      have b1 : decide ((j : Int) < 4) = true := hd
      refine flow_seen [([0, 1, 2, 3, 4, 5, 6, 7, 9, 10, 11, 13, 14, 15], 8, false), ([], 12, false), ([], 16, false), ([], 17, true)] [] (by kernel_rfl) (by kernel_rfl) (fun _ _ _ _ _ h => h) fun X => ?_
      have F3 := Lib.hid (HF.out.trans (Fr.new (H := Hs t) X.below 0))
      have D3 := Lib.hid (HD.out.fr (Fr.new (H := fun _ => False) X.below 0) (fun _ _ e => e) (fun e => e))
      have X3 := Lib.hid (HX.out.calm X.below)
      have S3 := Lib.hid (HSN.out.fr (Fr.new (H := fun _ => False) X.below 0) (fun e => e))
      have hxl : w.heap.size < wo.heap.size := by obtain ⟨_, h1, _⟩ := HX.out; exact row_lt h1
      have Y3 := Lib.hid (show paint T2 wo.heap.size 0 w.heap.size = 0 by rw [paint_old hxl]; exact HXT.out)
      obtain ⟨T3, hT3⟩ : ∃ T3, T3 = paint T2 wo.heap.size 0 := ⟨_, rfl⟩
      obtain ⟨w3, hw3⟩ : ∃ w3, w3 = X.val := ⟨_, rfl⟩
      rw [← hw3, ← hT3] at F3 D3 S3
      rw [← hT3] at Y3
      rw [← hw3] at X3 ⊢
      clear hw3 hT3 X HF HD HX HSN HXT hxl
      simp only [wpFs, pk, List.getElem?_cons_zero, List.getElem?_cons_succ]
      repeat (go_big_quiet_step (fail))
      refine wpQuiet_nil ?_
      have N0 := Lib.hid (number_any T3 _ n c j A a w3 X3.out S3.out (by omega))
      have N1 := Lib.hid (number_any T3 _ n c (4 + j) A a w3 X3.out S3.out (by omega))
      have N2 := Lib.hid (number_any T3 _ n c (8 + j) A a w3 X3.out S3.out (by omega))
      rw [← HG.out] at N0 N1 N2
      rw [show ((4 + j : Nat) : Int) = 4 + (j : Int) from Int.natCast_add 4 j] at N1
      rw [show ((8 + j : Nat) : Int) = 8 + (j : Int) from Int.natCast_add 8 j] at N2
      obtain ⟨g0, hg0⟩ : ∃ g0, g0 = g j := ⟨_, rfl⟩
      obtain ⟨g1, hg1⟩ : ∃ g1, g1 = g (4 + j) := ⟨_, rfl⟩
      obtain ⟨g2, hg2⟩ : ∃ g2, g2 = g (8 + j) := ⟨_, rfl⟩
      have hl0 := hgl j
      have hl1 := hgl (4 + j)
      have hl2 := hgl (8 + j)
      rw [← hg0] at N0 hl0
      rw [← hg1] at N1 hl1
      rw [← hg2] at N2 hl2
      have HG0 := Lib.hid hg0
      have HG1 := Lib.hid hg1
      have HG2 := Lib.hid hg2
      obtain ⟨V, l, hr, hfu, hl3, h3⟩ := D3.out.row
      obtain ⟨hd1, hp1, ok1⟩ := h3 j hlt
      have hfj : (d.part g j).f j = d.f j := by unfold Dk.part; simp
      rw [hfj] at hd1 hp1 ok1
      obtain ⟨A2, c2, hv2, hp2, -⟩ := hp1.sl
      have HC := Lib.hid (restart_any T3 t (t + 1 + 2 * j) (t + 1 + 2 * j + 1) B (j * 2) c2 g0 g1 g2 A2 _ (V (2 * j)) (d.f j).s (d.f j).l w3 hr D3.out.tg (by rw [dk_get _ _ _ _ _ (by omega), show j * 2 = 2 * j by omega]) (by rw [dk_get _ _ _ _ _ (by omega), show j * 2 + 1 = 2 * j + 1 by omega, hv2]) hd1 hp2 ok1 (by omega) (by omega) (by omega) (by omega) (by omega) (by have := HK.out.few j hlt; omega) hl0 hl1 hl2)
      have HR := Lib.hid hr
      have H3 := Lib.hid h3
      have HFU := Lib.hid hfu
      have OK1 := Lib.hid ok1
      clear hr h3 hd1 hp1 hp2 hfj hgl hg0 hg1 hg2 hfu hv2 ok1
      go_wp2_with fail
      refine N0.out.mono ?_
      rintro e w4 ⟨rfl, rfl⟩
      go_wp2_with fail
      first | refine ⟨.inr (Below.refl _ _), ?_⟩ | refine ⟨Below.refl _ _, ?_⟩
      show wpQuiet _ _ _ _ _ _
      refine wpQuiet_nil ?_
      go_wp2_with fail
      refine N1.out.mono ?_
      rintro e w4 ⟨rfl, rfl⟩
      go_wp2_with fail
      first | refine ⟨.inr (Below.refl _ _), ?_⟩ | refine ⟨Below.refl _ _, ?_⟩
      show wpQuiet _ _ _ _ _ _
      refine wpQuiet_nil ?_
      go_wp2_with fail
      refine N2.out.mono ?_
      rintro e w4 ⟨rfl, rfl⟩
      go_wp2_with fail
      first | refine ⟨.inr (Below.refl _ _), ?_⟩ | refine ⟨Below.refl _ _, ?_⟩
      show wpQuiet _ _ _ _ _ _
      refine wpQuiet_nil ?_
      go_wp2_with fail
      refine HC.out.mono ?_
      rintro e w5 ⟨rfl, T5, v5, f5, r5, o5⟩
      rw [show j * 2 + 1 = 2 * j + 1 by omega, show j * 2 = 2 * j by omega, dk_set _ _ _ _ _ (by omega), dk_set _ _ _ _ _ (by omega)] at r5
      have F5 := Lib.hid (F3.out.trans (f5.mono (H' := Hs t) fun y hy => by rcases hy with rfl | rfl <;> exact ⟨by omega, by omega⟩))
      have hz0 : ¬ ((0 : Nat) = t ∨ 0 = t + 1 + 2 * j) := by omega
      have d5 := dk_fil (T := T3) (w := w3) (t := t) (B := B) (i := j) (d := d.part g j) (x := (d.f j).boot g0 g1 g2) (V := V) (l := l) (vd := v5) (vp := .slice none 0 0) (by rw [f5.tag B (row_lt HR.out)]; exact D3.out.tg) hlt
        r5 HFU.out hl3 (fun i hi hne => (H3.out i hi).fr f5 (by omega) (by omega) hz0)
        ⟨o5, ElOw.nil, Fl.ok.boot (x := d.f j) OK1.out _ _ _⟩
      rw [HG0.out, HG1.out, HG2.out, part_step] at d5
      have D5 := Lib.hid d5
      have S5 := Lib.hid (S3.out.fr f5 hz0)
      have X5 := Lib.hid (show Bx w5 w.heap.size (.slice A n c) by
        obtain ⟨cc, h1, h2⟩ := X3.out
        exact ⟨cc, f5.rowAt h1 (by rw [Y3.out]; exact hz0), h2⟩)
      have Y5 := Lib.hid (show T5 w.heap.size = 0 by
        obtain ⟨cc, h1, h2⟩ := X3.out
        rw [f5.tag _ (row_lt h1)]; exact Y3.out)
      clear f5 r5 o5 d5 HC N0 N1 N2 HR H3 HFU OK1 F3 D3 S3 X3 Y3
      go_wp2_with fail
      first | refine ⟨.inl trivial, ?_⟩ | skip
      show wpQuiet _ _ _ _ _ _
      refine wpQuiet_nil ?_
      go_wp2_with fail
      go_roundw
      case rel => exact ⟨j + 1, T5, by omega, by go_num, F5.out, D5.out, X5.out, Y5.out, S5.out⟩
      case measure => simp [intOf]; omega
    · have hd : decide ((j : Int) < 4) = false := by simp; omega
      have hj4 : j = 4 := by omega
      subst hj4
      obtain ⟨V, l, hr, hfu, hl2, h3⟩ := HD.out.row
      have z9 := froz_row hr 9
      obtain ⟨-, q9, -, -⟩ := dk_cells hr
      have k9 := Lib.hid (dk_off hr false)
      have r9 := row_setRow hr (dkC V (d.part g 4).n false (d.part g 4).u.isSome l)
      have z10 := froz_row r9 10
      obtain ⟨-, -, q10, -⟩ := dk_cells r9
      have k10 := Lib.hid (dk_u r9 false)
      rw [← k9.out] at z10 q10
      have D5 := Lib.hid (dk_head4 (d := d.part g 4) (d' := d.boot g) (l' := l) hr HD.out.tg ht h3 (fun m hm => by cases hm) hl2 (fun i hi => by show (d.f i).boot _ _ _ = if i < 4 then (d.f i).boot _ _ _ else d.f i; rw [if_pos hi]))
      clear hr hfu h3 r9
      go_wp2_with fail
      rw [k9.out, k10.out, setRow_setRow]
      go_end0
      exact ⟨rfl, T2, HF.out.trans (D5.out.1.mono (H' := Hs t) fun y hy => by subst hy; exact ⟨Nat.le_refl _, by omega⟩), D5.out.2⟩
end Go.Proofs.Ythdhbjfenanbnaa.Oct
