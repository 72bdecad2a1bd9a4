/- Contracts of the reference: pick, has, New, step, Fuse. -/
import Derived.Test.YthdhbjfenanbnaaDkS
import Derived.Deep.CutBlock
namespace Go.Proofs.Ythdhbjfenanbnaa.Oct
open Go.ChangeShapes Go.WideShapes Go.ChangeAt Go.RowKit
set_option linter.unusedVariables false

set_option maxHeartbeats 1000000 in
theorem pick_any (T : Mk) (n c i : Nat) (A : Option Addr) (a : Nat → Int) (w : World) (hs : Ints T w A n c a) (hi : i < 1000) :
    Calls Try.prog 46 #[.slice A n c, .int .i64 (i : Int)] w fun e w' => e = .returned (.int .i64 ((pck a n i : Nat) : Int)) ∧ w = w' := by
  have HS := Lib.hid hs
  clear hs
  by_cases h0 : n ≤ i
  · have hd : decide ((n : Int) ≤ (i : Int)) = true := by simp; omega
    have HP := Lib.hid (show pck a n i = 0 by unfold pck; rw [if_pos h0])
    go_enter Try.func46, Try.ntmps46
    go_wp2_with fail
    go_ret
    exact ⟨by rw [HP.out]; rfl, rfl⟩
  · have hd : decide ((n : Int) ≤ (i : Int)) = false := by simp; omega
    obtain ⟨g, o, rfl, hg, hc⟩ := HS.out.sl.at_ (by omega)
    have q1 : w.cell? ⟨g, o + i, none⟩ = some (.int .i64 (a i)) := hc i (by omega)
    have hb := HS.out.rg i (by omega)
    by_cases h1 : a i < 0
    · have hd1 : decide (a i < 0) = true := by simpa using h1
      have HP := Lib.hid (show ((pck a n i : Nat) : Int) = -(a i + 1) by unfold pck; rw [if_neg h0, if_pos h1]; omega)
      clear hc
      go_enter Try.func46, Try.ntmps46
      go_wp2_with fail
      go_ret
      exact ⟨by rw [HP.out]; rfl, rfl⟩
    · have hd1 : decide (a i < 0) = false := by simpa using h1
      have HP := Lib.hid (show ((pck a n i : Nat) : Int) = a i by unfold pck; rw [if_neg h0, if_neg h1]; omega)
      clear hc
      go_enter Try.func46, Try.ntmps46
      go_wp2_with fail
      go_ret
      exact ⟨by rw [HP.out]; rfl, rfl⟩
/-- the beginning of a row of the call's own -/
theorem Own.cutTo {w : World} {base n c : Nat} {u : TypeId} {A : Option Addr} {f : Bf} (h : Own w base u (.slice A n c) n f) (k : Nat) (hk : k ≤ n) : Own w base u (.slice A k c) k f := by
  unfold Own at h ⊢
  refine ⟨by rw [Array.length_toList, ba_size]; omega, ?_⟩
  rcases h.2 with ⟨e, h0⟩ | ⟨g, cap, cur, e, hb, hg, hc, hm, hcs, htk⟩
  · cases e; exact .inl ⟨by rw [show k = 0 by omega], by omega⟩
  · cases e
    refine .inr ⟨g, c, cur, rfl, hb, hg, by omega, hm, hcs, ?_⟩
    have e1 : (ba n f).toList.take k = (ba k f).toList := by
      apply List.ext_getElem?
      intro i
      rw [List.getElem?_take]
      by_cases hi : i < k
      · rw [if_pos hi, Array.getElem?_toList, Array.getElem?_toList, ba_get _ _ _ (by omega), ba_get _ _ _ hi]
      · rw [if_neg hi, Array.getElem?_toList, ba_none _ _ _ hi]
    rw [← e1, ← htk, List.take_take, Nat.mul_one, Nat.mul_one, Nat.min_eq_left hk]
set_option maxHeartbeats 2000000 in
theorem rhas_any (T : Mk) (tp c c2 : Nat) (A A2 : Option Addr) (s : By) (l : List Ch) (w : World) (hs : Sl w w.heap.size A s.length c (lf s)) (hp : ElSl 3 doE T w tp A2 c2 l) (hok : Okc s l) (hn : l.length ≤ 1000000000000) :
    Calls Try.prog 39 #[.slice A s.length c, .slice A2 l.length c2] w fun e w' => ∃ v', e = .returned v' ∧ Own w' w.heap.size 5 v' (has s l).length (lf (has s l)) ∧ Below w.heap.size w w' := by
  have hM := maxF_eq
  have hls := hok.first
  have HP := Lib.hid hp
  have HO := Lib.hid hok
  have b1 : Below w.heap.size w (w.alloc (.cells #[] 5)) := (Below.refl _ _).alloc (Nat.le_refl _) _
  have OE := Lib.hid (Own.empty w w.heap.size 5 nF (Nat.le_refl _))
  have SE := Lib.hid ((hs.below b1).more b1.size)
  have B1 := Lib.hid b1
  clear hs hp hok b1
  go_enter Try.func39, Try.ntmps39
  go_wp2_with (at_builtin; refine wpl_appB rfl (.tmp 7) (.tmp 8) rfl sli_u u8_info OE.out SE.out (by omega) B1.out.size rfl rfl ?_; intro v2 w2 ho2 hg2 ht2)
  rw [catF_zero, Nat.zero_add] at ho2
  have O2 := Lib.hid ho2
  have B2 := Lib.hid (OE.out.after hg2 B1.out B1.out.size (Nat.le_refl _))
  clear ho2 hg2 ht2 OE SE B1
  go_loopw [5, 6] (fun bv iv wr => ∃ (j : Nat), j ≤ l.length ∧ iv = .int .i64 (j : Int) ∧ Below w.heap.size w wr ∧ Own wr w.heap.size 5 bv (has s (l.take j)).length (lf (has s (l.take j)))) (fun _ iv _ => l.length - (intOf iv).toNat)
  case atStart => exact ⟨0, by omega, rfl, B2.out, O2.out⟩
  case round =>
    clear O2 B2
    obtain ⟨j, hj, rfl, hb, ho⟩ := hrel
    obtain ⟨wo, rfl⟩ : ∃ wo : World, wo = wr := ⟨_, rfl⟩
    have BI := Lib.hid hb
    have OI := Lib.hid ho
    clear hb ho
    by_cases hlt : j < l.length
    · have hd : decide ((j : Int) < (l.length : Int)) = true := by simp; omega
      have P1 := HP.out.fr doE_ok (Fr.new (H := fun _ => False) BI.out 0) (fun e => e) (fun e => e)
      obtain ⟨g, o, hA, hg, hT, hcl⟩ := P1.at_ (by omega)
      obtain ⟨vs, hvs, hcs⟩ := hcl j hlt
      have q0 := hcs 0 (by omega)
      have q1 := hcs 1 (by omega)
      have q2 := hcs 2 (by omega)
      obtain ⟨hfit, hlen⟩ := HO.out.at_ j hlt
      obtain ⟨x, hx⟩ : ∃ x, x = l[j] := ⟨_, rfl⟩
      rw [← hx] at hvs hfit hlen
      have HX := Lib.hid hx
      have hle := hfit.le
      obtain ⟨b0, hb0⟩ : ∃ b0, b0 = has s (l.take j) := ⟨_, rfl⟩
      have HB0 := Lib.hid hb0
      rw [← hb0] at hle OI hfit
      obtain ⟨A1, c1, hv1, hs1, hm1, -⟩ := OI.out.sl
      subst hv1
      subst hA
      have hc1 := hs1.le
      have HFI := Lib.hid hfit
      have HS1 := Lib.hid hs1
      clear hcl hcs P1 hx hb0 hfit hs1
      rcases hvs with ⟨hcut, rfl⟩ | ⟨hcut, A3, c3, rfl, hr3⟩
      · simp only [List.getElem?_cons_zero, List.getElem?_cons_succ, Nat.add_zero] at q0 q1 q2
        have hup := run_upto sli_u u8_i A1 b0.length c1 x.k (by omega)
        have O3 := Lib.hid (OI.out.cutTo x.k hle)
        clear OI HS1
        go_wp2_with fail
        refine ⟨⟨j + 1, by omega, by push_cast; rfl, BI.out, ?_⟩, by simp [intOf]; omega⟩
        have e : x.on b0 = b0.take x.k := by unfold Ch.on; rw [(HFI.out.1 hcut).2, List.append_nil]
        have e2 : (b0.take x.k).length = x.k := by rw [List.length_take]; omega
        rw [has_step s l j hlt, ← HX.out, ← HB0.out, e, e2]
        exact O3.out.congr fun i hi => (lf_take _ _ _ hi).symm
      · simp only [List.getElem?_cons_zero, List.getElem?_cons_succ, Nat.add_zero] at q0 q1 q2
        have S3 := Lib.hid hr3.sl
        have ek : x.k = b0.length := HFI.out.2 hcut
        have HEK := Lib.hid ek
        have hlb : b0.length + x.b.length ≤ maxF := by omega
        clear hr3 HS1 ek
        have hbz := BI.out.size
        go_wp2_with (refine wpl_appB rfl (.tmp 28) (.tmp 33) rfl sli_u u8_info OI.out S3.out (by omega) hbz rfl rfl ?_; intro v4 w4 ho4 hg4 ht4)
        refine ⟨⟨j + 1, by omega, by push_cast; rfl, OI.out.after hg4 BI.out hbz (Nat.le_refl _), ?_⟩, by simp [intOf]; omega⟩
        have e : x.on b0 = b0 ++ x.b := by unfold Ch.on; rw [HEK.out, List.take_length]
        rw [has_step s l j hlt, ← HX.out, ← HB0.out, e, List.length_append]
        exact ho4.congr fun i hi => (lf_app _ _ _).symm
    · have hd : decide ((j : Int) < (l.length : Int)) = false := by simp; omega
      have hjn : j = l.length := by omega
      subst hjn
      rw [List.take_length] at OI
      go_wp2_with fail
      go_ret
      exact ⟨_, rfl, OI.out, BI.out⟩
theorem rk_new : (#[.slice none 0 0, .slice none 0 0, .slice none 0 0, .slice none 0 0, .slice none 0 0, .slice none 0 0, .slice none 0 0, .slice none 0 0, .bool false, .int .i64 (-1), .int .i64 0] : Array Value) = rkC (fun _ => .slice none 0 0) newD.off (leftI newD.u) newD.n := by unfold rkC; rfl
theorem rnew_any (T : Mk) (t : Nat) (w : World) : Calls Try.prog 10 #[] w fun e w' => e = .returned (.pointer (some ⟨w.heap.size, 0, none⟩)) ∧ Below w.heap.size w w' ∧ RkAt (paint T w.heap.size t) w' t w.heap.size newD := by
  go_enter Try.func10, Try.ntmps10
  go_wp2_with fail
  go_ret
  rw [rk_new]
  refine ⟨rfl, (Below.refl _ _).alloc (Nat.le_refl _) _, paint_new (Nat.le_refl _), ⟨_, row_alloc_at _ _ _ _ rfl, fun m hm => (by cases hm), fun i hi => ⟨⟨none, 0, rfl, RdS.nil _ _ _ _⟩, ElOw.nil, ?_⟩⟩⟩
  show ([] : By).length ≤ maxF
  simp
/-- the block's own cells are laid anew, the files stay -/
theorem rk_head {T : Mk} {w : World} {t B : Nat} {d d' : Dk} {V : Nat → Value} (hr : row w B = some (rkC V d.off (leftI d.u) d.n)) (hT : T B = t) (ht : 0 < t) (h3 : ∀ i, i < 4 → RFil T w (t + 1 + i) (V (2 * i)) (V (2 * i + 1)) (d.f i))
    (hu : ∀ m, d'.u = some m → m < 9223372036854775808) (hf : d'.f = d.f) :
    Fr T T (fun y => y = t) w (w.setRow B (rkC V d'.off (leftI d'.u) d'.n)) ∧ RkAt T (w.setRow B (rkC V d'.off (leftI d'.u) d'.n)) t B d' := by
  have f1 := Fr.row (T := T) (w := w) (H := fun y => y = t) (B := B) hT (rkC V d'.off (leftI d'.u) d'.n)
  refine ⟨f1, hT, ⟨V, row_setRow hr _, hu, fun i hi => ?_⟩⟩
  rw [hf]
  exact (h3 i hi).fr f1 (by omega) (by omega)
/-- a step of the reference's -/
def Dk.stp (d : Dk) : Nat × Dk := if d.dead then (5, d.dark) else (0, d.tick)
set_option maxHeartbeats 4000000 in
theorem rstep_any (T : Mk) (t B : Nat) (d : Dk) (w : World) (h : RkAt T w t B d) (ht : 0 < t) (hn : d.n < 1000000000000) :
    Calls Try.prog 45 #[.pointer (some ⟨B, 0, none⟩)] w fun e w' => e = .returned (.int .i64 (d.stp.1 : Int)) ∧ Fr T T (fun y => y = t) w w' ∧ RkAt T w' t B d.stp.2 := by
  obtain ⟨V, hr, hu, h3⟩ := h.row
  obtain ⟨q1, q2, q3⟩ := rk_cells hr
  have HT := Lib.hid h.tg
  have HR := Lib.hid hr
  have H3 := Lib.hid h3
  have HU := Lib.hid hu
  by_cases hd : d.dead
  · have HS := Lib.hid (show d.stp = (5, d.dark) from if_pos hd)
    have HK := Lib.hid (rk_head (d' := d.dark) hr h.tg ht h3 hu rfl)
    have z1 := froz_row hr 8
    have k1 := Lib.hid (show w.setCell ⟨B, 8, none⟩ (.bool true) = w.setRow B (rkC V d.dark.off (leftI d.dark.u) d.dark.n) from rk_off hr true)
    clear h hr hu h3 q3
    rcases hoff : d.off with _ | _
    · have hu0 : d.u = some 0 := by
        rcases hd with e | e
        · rw [hoff] at e; cases e
        · exact e
      rw [hu0] at q2
      rw [hoff] at q1
      have q2' : w.cell? ⟨B, 9, none⟩ = some (.int .i64 0) := q2
      clear q2 hd hoff hu0
      go_enter Try.func45, Try.ntmps45
      go_wp2_with fail
      rw [k1.out]
      go_ret
      rw [HS.out]
      exact ⟨rfl, HK.out⟩
    · rw [hoff] at q1
      clear hd hoff q2
      go_enter Try.func45, Try.ntmps45
      go_wp2_with fail
      rw [k1.out]
      go_ret
      rw [HS.out]
      exact ⟨rfl, HK.out⟩
  · have hoff : d.off = false := by
      rcases e : d.off with _ | _
      · rfl
      · exact absurd (.inl e) hd
    have HS := Lib.hid (show d.stp = (0, d.tick) from if_neg hd)
    have HK := Lib.hid (rk_head (d' := d.tick) hr h.tg ht h3 (fun m hm => by
      have e : d.u.map (· - 1) = some m := hm
      rcases eu : d.u with _ | k
      · rw [eu] at e; cases e
      · rw [eu] at e; have e1 : k - 1 = m := (by injection e); have := hu k eu; omega) rfl)
    rw [hoff] at q1
    rcases eu : d.u with _ | m
    · have z3 := froz_row hr 10
      have k3 := Lib.hid (show w.setCell ⟨B, 10, none⟩ (.int .i64 ((d.n : Int) + 1)) = w.setRow B (rkC V d.tick.off (leftI d.tick.u) d.tick.n) by
        rw [rk_n hr]
        show _ = w.setRow B (rkC V d.off (leftI (d.u.map (· - 1))) ((d.n + 1 : Nat) : Int))
        rw [eu]
        rfl)
      rw [eu] at q2
      have q2' : w.cell? ⟨B, 9, none⟩ = some (.int .i64 (-1)) := q2
      clear h hr hu h3 q2 hd hoff eu
      go_enter Try.func45, Try.ntmps45
      go_wp2_with fail
      rw [k3.out]
      go_ret
      rw [HS.out]
      exact ⟨rfl, HK.out⟩
    · have hm0 : m ≠ 0 := fun e => hd (.inr (by rw [eu, e]))
      have hm2 := hu m eu
      rw [eu] at q2
      have q2' : w.cell? ⟨B, 9, none⟩ = some (.int .i64 (m : Int)) := q2
      have hd1 : ((m : Int) == 0) = false := by simpa using hm0
      have hd2 : decide ((0 : Int) < (m : Int)) = true := by simp; omega
      have z2 := froz_row hr 9
      have k2 := Lib.hid (rk_l hr ((m : Int) - 1))
      have r2 := row_setRow hr (rkC V d.off ((m : Int) - 1) d.n)
      have q4 := (rk_cells r2).2.2
      have z4 := froz_row r2 10
      rw [← k2.out] at q4 z4
      have k3 := Lib.hid (show (w.setCell ⟨B, 9, none⟩ (.int .i64 ((m : Int) - 1))).setCell ⟨B, 10, none⟩ (.int .i64 ((d.n : Int) + 1)) = w.setRow B (rkC V d.tick.off (leftI d.tick.u) d.tick.n) by
        rw [k2.out, rk_n r2, setRow_setRow]
        show _ = w.setRow B (rkC V d.off (leftI (d.u.map (· - 1))) ((d.n + 1 : Nat) : Int))
        rw [eu]
        show _ = w.setRow B (rkC V d.off ((m - 1 : Nat) : Int) ((d.n + 1 : Nat) : Int))
        rw [show ((m - 1 : Nat) : Int) = (m : Int) - 1 by omega]
        rfl)
      clear h hr hu h3 q2 hd hoff eu r2
      go_enter Try.func45, Try.ntmps45
      go_wp2_with fail
      rw [k3.out]
      go_ret
      rw [HS.out]
      exact ⟨rfl, HK.out⟩
set_option maxHeartbeats 1000000 in
theorem rfuse_any (T : Mk) (t B : Nat) (d : Dk) (n : Int) (w : World) (h : RkAt T w t B d) (ht : 0 < t) (hn : -9223372036854775808 ≤ n ∧ n < 9223372036854775808) :
    Calls Try.prog 36 #[.pointer (some ⟨B, 0, none⟩), .int .i64 n] w fun e w' => e = .returned (.tuple #[]) ∧ Fr T T (fun y => y = t) w w' ∧ RkAt T w' t B (d.fuse n) := by
  obtain ⟨V, hr, hu, h3⟩ := h.row
  have HK := Lib.hid (rk_head (d' := d.fuse n) hr h.tg ht h3 (fun m hm => by
    have e : (if n < 0 then none else some n.toNat) = some m := hm
    by_cases h0 : n < 0
    · rw [if_pos h0] at e; cases e
    · rw [if_neg h0] at e; cases e; omega) rfl)
  have z1 := froz_row hr 9
  obtain ⟨x, hx⟩ : ∃ x, x = if n < -1 then -1 else n := ⟨_, rfl⟩
  have k1 := Lib.hid (show w.setCell ⟨B, 9, none⟩ (.int .i64 x) = w.setRow B (rkC V (d.fuse n).off (leftI (d.fuse n).u) (d.fuse n).n) by
    rw [rk_l hr]
    have e : leftI (d.fuse n).u = x := by
      show leftI (if n < 0 then none else some n.toNat) = _
      rw [hx]
      by_cases h0 : n < 0
      · rw [if_pos h0]
        show (-1 : Int) = _
        by_cases h1 : n < -1
        · rw [if_pos h1]
        · rw [if_neg h1]; omega
      · rw [if_neg h0, if_neg (by omega)]; show ((n.toNat : Nat) : Int) = _; omega
    rw [e]
    rfl)
  obtain ⟨-, q2, -⟩ := rk_cells hr
  by_cases h0 : n < -1
  · rw [if_pos h0] at hx
    subst hx
    have hd : decide (n < -1) = true := by simpa using h0
    clear h hr hu h3
    go_enter Try.func36, Try.ntmps36
    go_wp2_with fail
    rw [k1.out]
    go_end0
    exact ⟨rfl, HK.out⟩
  · rw [if_neg h0] at hx
    subst hx
    have hd : decide (x < -1) = false := by simpa using h0
    clear h hr hu h3
    go_enter Try.func36, Try.ntmps36
    go_wp2_with fail
    rw [k1.out]
    go_end0
    exact ⟨rfl, HK.out⟩
end Go.Proofs.Ythdhbjfenanbnaa.Oct
