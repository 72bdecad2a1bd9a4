/- Contracts: disk's Clone. -/
import Derived.Test.YthdhbjfenanbnaaDkO
import Derived.Test.YthdhbjfenanbnaaFld
namespace Go.Proofs.Ythdhbjfenanbnaa.Oct
open Go.ChangeShapes Go.WideShapes Go.ChangeAt Go.RowKit
set_option linter.unusedVariables false

theorem dk_i : (Try.prog.info? 61).map (·.size) = some 12 := by kernel_rfl
@[go_sem ↓] theorem dk_l61 (p : Value) : Instr.loadAt 61 p = ldA 61 p := rfl
@[go_sem ↓] theorem dk_s61 (p v : Value) : Instr.storeAt 61 p v = stA 61 p v := rfl
theorem dk_lw {w : World} {B : Nat} {V : Nat → Value} {n l : Int} {off u : Bool} (h : row w B = some (dkC V n off u l)) : (ldA 61 (.pointer (some ⟨B, 0, none⟩))).run Try.prog w = .ok (.agg (dkC V n off u l)) w := by
  rw [ld_row _ _ Try.underlying61 rfl 12 dk_i, h]
  exact ldR_whole _ _ _ _ _ _ (dk_size V n l off u).symm
theorem dk_sw {w : World} {B : Nat} {V : Nat → Value} {n l : Int} {off u : Bool} {c : Array Value} (h : row w B = some c) (hc : c.size = 12) (hV : ∀ i, i < 8 → (V i).oneCell' = true) : (stA 61 (.pointer (some ⟨B, 0, none⟩)) (.agg (dkC V n off u l))).run Try.prog w = .ok () (w.setRow B (dkC V n off u l)) := by
  rw [st_rule _ 12 dk_i, h]
  exact stR_whole _ _ _ _ _ _ _ hc.symm (by rw [dk_size, hc]) (dk_ones _ _ _ _ _ hV)
theorem setpair {w : World} {p o : Nat} {C : Array Value} {x y : Value} (h : row w p = some C) : (w.setCell ⟨p, o, none⟩ x).setCell ⟨p, o + 1, none⟩ y = w.setRow p ((C.setIfInBounds o x).setIfInBounds (o + 1) y) := by
  rw [setCell_row h, setCell_row (row_setRow h _), setRow_setRow]
set_option maxHeartbeats 4000000 in
theorem dclone_any (T : Mk) (t t2 B : Nat) (d : Dk) (w : World) (h : DkAt T w t B d) (hk : d.ok) (ht : 0 < t2) (hn : d.n < 1000000000000) :
    Calls Try.prog 12 #[.pointer (some ⟨B, 0, none⟩)] w fun e w' => ∃ T' B', e = .returned (.pointer (some ⟨B', 0, none⟩)) ∧ (∀ k, k < w.heap.size → T' k = T k) ∧ Below w.heap.size w w' ∧ w.heap.size ≤ B' ∧ DkAt T' w' t2 B' d := by
  have H := Lib.hid h
  have HK := Lib.hid hk
  obtain ⟨V, l, hr, hfu, hl2, h3⟩ := h.row
  have HR := Lib.hid hr
  have H3 := Lib.hid h3
  have HFU := Lib.hid hfu
  have hV : ∀ i, i < 8 → (V i).oneCell' = true := fun i hi => by
    obtain ⟨hd1, hp1, -⟩ := h3 (i / 2) (by omega)
    obtain ⟨A1, c1, hv1, -, -⟩ := hd1.rd
    obtain ⟨A2, c2, hv2, -, -⟩ := hp1.sl
    rcases Nat.mod_two_eq_zero_or_one i with e | e
    · rw [show 2 * (i / 2) = i by omega] at hv1; rw [hv1]; rfl
    · rw [show 2 * (i / 2) + 1 = i by omega] at hv2; rw [hv2]; rfl
  have HV := Lib.hid hV
  have q1 := dk_lw hr
  obtain ⟨z0, hz0⟩ : ∃ z0, z0 = w.heap.size := ⟨_, rfl⟩
  have q2 := fun (c : Array Value) (hc : c.size = 12) => dk_sw (V := V) (n := d.n) (l := l) (off := d.off) (u := d.u.isSome) (row_alloc_at w c 61 w.heap.size rfl) hc hV
  clear h hk hr h3 hfu hV
  go_enter Try.func12, Try.ntmps12
  go_wp2_with fail
  have b1 : Below w.heap.size w (w.alloc (.cells (dkC V d.n d.off d.u.isSome l) 61)) := (Below.refl _ _).alloc (Nat.le_refl _) _
  have r1 := row_alloc_at w (dkC V d.n d.off d.u.isSome l) 61 w.heap.size rfl
  obtain ⟨w1, hw1⟩ : ∃ w1, w1 = w.alloc (.cells (dkC V d.n d.off d.u.isSome l) 61) := ⟨_, rfl⟩
  rw [← hw1] at b1 r1 ⊢
  have B1 := Lib.hid b1
  have R1 := Lib.hid r1
  clear q1 q2 hw1 b1 r1
  rw [← hz0] at R1 ⊢
  have HZ := Lib.hid hz0
  clear hz0
  go_loopw [8] (fun iv wr => ∃ (j : Nat) (T1 : Mk) (V' : Nat → Value), j ≤ 4 ∧ iv = .int .i64 (j : Int) ∧ (∀ k, k < w.heap.size → T1 k = T k) ∧ Below w.heap.size w wr ∧ T1 z0 = t2 ∧ row wr z0 = some (dkC V' d.n d.off d.u.isSome l) ∧ (∀ i, i < j → FilAt T1 wr (t2 + 1 + 2 * i) (V' (2 * i)) (V' (2 * i + 1)) (d.f i)) ∧ ∀ i, 2 * j ≤ i → V' i = V i) (fun iv _ => 4 - (intOf iv).toNat)
  case atStart => exact ⟨0, paint T w.heap.size t2, V, by omega, rfl, fun k hk => paint_old hk, B1.out, by rw [HZ.out]; exact paint_new (Nat.le_refl _), R1.out, fun i hi => absurd hi (by omega), fun i _ => rfl⟩
  case round =>
    clear B1 R1
    obtain ⟨j, T2, V2, hj, rfl, hto, hb, hzt, hr, hfl, hrest⟩ := hrel
    obtain ⟨wo, rfl⟩ : ∃ wo : World, wo = wr := ⟨_, rfl⟩
    have TO := Lib.hid hto
    have BB := Lib.hid hb
    have ZT := Lib.hid hzt
    have RR := Lib.hid hr
    have FL := Lib.hid hfl
    have RS := Lib.hid hrest
    clear hto hb hzt hr hfl hrest
    by_cases hlt : j < 4
    · have hd : decide ((j : Int) < 4) = true := by simp; omega
      have P4 := Lib.hid ((H3.out j hlt).fr (Fr.calm (T' := T2) (H := fun _ => False) BB.out TO.out) (fun e => e) (fun e => e) (fun e => e))
      have HC := Lib.hid (fclone_any T2 (t + 1 + 2 * j) (t + 1 + 2 * j + 1) (t2 + 1 + 2 * j) (t2 + 1 + 2 * j + 1) z0 (j * 2) _ (V (2 * j)) (V (2 * j + 1)) (d.f j).s (d.f j).l wo RR.out (by rw [dk_get _ _ _ _ _ (by omega), show j * 2 = 2 * j by omega, RS.out _ (Nat.le_refl _)]) (by rw [dk_get _ _ _ _ _ (by omega), show j * 2 + 1 = 2 * j + 1 by omega, RS.out _ (by omega)]) P4.out.d P4.out.p P4.out.ok (by have := HK.out.few j hlt; omega))
      have b4 : decide ((j : Int) < 4) = true := hd
      have OK := Lib.hid P4.out.ok
      clear P4
      go_wp2_with fail
      refine HC.out.mono ?_
      rintro e w5 ⟨T5, vd, vp, rfl, hto, hb, hod, hop⟩
      obtain ⟨A1, c1, hv1, -, -⟩ := hod.rd
      obtain ⟨A2, c2, hv2, -, -⟩ := hop.sl
      subst hv1
      subst hv2
      have R5 := Lib.hid (carry hb RR.out)
      have k0 : w5.cell? ⟨z0, j * 2, none⟩ = some (V2 (2 * j)) := by rw [cell_row R5.out, dk_get _ _ _ _ _ (by omega), show j * 2 = 2 * j by omega]
      have k1 : w5.cell? ⟨z0, j * 2 + 1, none⟩ = some (V2 (2 * j + 1)) := by rw [cell_row R5.out, dk_get _ _ _ _ _ (by omega), show j * 2 + 1 = 2 * j + 1 by omega]
      have y0 := froz_row R5.out (j * 2)
      have y1 := froz_row R5.out (j * 2 + 1)
      have hto5 := Lib.hid (show ∀ k, k < wo.heap.size → T5 k = T2 k from hto)
      have hb5 := Lib.hid hb
      have hod5 := Lib.hid hod
      have hop5 := Lib.hid hop
      clear hto hb hod hop HC
      go_wp2_with fail
      rw [setpair R5.out, show j * 2 + 1 = 2 * j + 1 by omega, show j * 2 = 2 * j by omega, dk_set _ _ _ _ _ (by omega), dk_set _ _ _ _ _ (by omega)]
      have hzz := row_lt RR.out
      have hT5z : T5 z0 = t2 := by rw [hto5.out z0 hzz]; exact ZT.out
      obtain ⟨V5, hV5⟩ : ∃ V5, V5 = updV (updV V2 (2 * j) (.slice A1 (d.f j).s.length c1)) (2 * j + 1) (.slice A2 (d.f j).l.length c2) := ⟨_, rfl⟩
      rw [← hV5]
      have F6 := Lib.hid (Fr.row (T := T5) (w := w5) (H := fun y => y = t2) (B := z0) hT5z (dkC V5 d.n d.off d.u.isSome l))
      have HT5 := Lib.hid hT5z
      have HV5 := Lib.hid hV5
      clear hT5z hV5
      go_roundw
      case rel =>
        have f6 := F6.out
        refine ⟨j + 1, T5, V5, by omega, by go_num, fun k hk => by rw [hto5.out k (by have := BB.out.size; omega)]; exact TO.out k hk, ?_, HT5.out, row_setRow R5.out _, fun i hi => ?_, fun i hi => ?_⟩
        · exact below_setRow (BB.out.trans (hb5.out.mono BB.out.size)) (by rw [HZ.out]; exact Nat.le_refl _) _
        · by_cases hij : i = j
          · subst hij
            rw [show V5 (2 * i) = .slice A1 (d.f i).s.length c1 by rw [HV5.out, updV_other _ _ (by omega), updV_same], show V5 (2 * i + 1) = .slice A2 (d.f i).l.length c2 by rw [HV5.out, updV_same]]
            exact ⟨OwB.fr (H := fun y => y = t2) hod5.out f6 (show ¬ (t2 + 1 + 2 * i = t2) by omega), ElOw.fr (H := fun y => y = t2) chE_ok hop5.out f6 (show ¬ (t2 + 1 + 2 * i + 1 = t2) by omega) (show ¬ (0 = t2) by omega), OK.out⟩
          · rw [show V5 (2 * i) = V2 (2 * i) by rw [HV5.out, updV_other _ _ (by omega), updV_other _ _ (by omega)], show V5 (2 * i + 1) = V2 (2 * i + 1) by rw [HV5.out, updV_other _ _ (by omega), updV_other _ _ (by omega)]]
            exact FilAt.fr (H := fun y => y = t2) ((FL.out i (by omega)).fr (Fr.calm (T' := T5) (H := fun _ => False) hb5.out hto5.out) (fun e => e) (fun e => e) (fun e => e)) f6 (show ¬ (t2 + 1 + 2 * i = t2) by omega) (show ¬ (t2 + 1 + 2 * i + 1 = t2) by omega) (show ¬ (0 = t2) by omega)
        · rw [HV5.out, updV_other _ _ (by omega), updV_other _ _ (by omega)]
          exact RS.out i (by omega)
      case measure => simp [intOf]; omega
    · have hd : decide ((j : Int) < 4) = false := by simp; omega
      have hj4 : j = 4 := by omega
      subst hj4
      go_wp2_with fail
      go_ret
      exact ⟨T2, z0, rfl, TO.out, BB.out, by rw [HZ.out]; exact Nat.le_refl _, ZT.out, ⟨V2, l, RR.out, HFU.out, hl2, FL.out⟩⟩
end Go.Proofs.Ythdhbjfenanbnaa.Oct
