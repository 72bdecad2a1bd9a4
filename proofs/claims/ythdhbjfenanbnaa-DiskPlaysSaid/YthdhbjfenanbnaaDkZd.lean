/- Contracts of the reference: Boot. -/
import Derived.Test.YthdhbjfenanbnaaDkZc
namespace Go.Proofs.Ythdhbjfenanbnaa.Oct
open Go.ChangeShapes Go.WideShapes Go.ChangeAt Go.RowKit
set_option linter.unusedVariables false

theorem rk_head4 {T : Mk} {w : World} {t B : Nat} {d d' : Dk} {V : Nat → Value} (hr : row w B = some (rkC V d.off (leftI d.u) d.n)) (hT : T B = t) (ht : 0 < t) (h3 : ∀ i, i < 4 → RFil T w (t + 1 + i) (V (2 * i)) (V (2 * i + 1)) (d.f i))
    (hu : ∀ m, d'.u = some m → m < 9223372036854775808) (hf : ∀ i, i < 4 → d'.f i = d.f i) :
    Fr T T (fun y => y = t) w (w.setRow B (rkC V d'.off (leftI d'.u) d'.n)) ∧ RkAt T (w.setRow B (rkC V d'.off (leftI d'.u) d'.n)) t B d' := by
  have f1 := Fr.row (T := T) (w := w) (H := fun y => y = t) (B := B) hT (rkC V d'.off (leftI d'.u) d'.n)
  refine ⟨f1, hT, ⟨V, row_setRow hr _, hu, fun i hi => ?_⟩⟩
  rw [hf i hi]
  exact (h3 i hi).fr f1 (by omega) (by omega)
theorem flp_upd (b0 xb : By) (L J v : Nat) (hL : L = J + 1) (hLe : L ≤ xb.length) (i : Nat) (hi : i < b0.length + L) :
    upd (catF b0.length (lf b0) (lf xb)) (b0.length + J) (lf xb J ^^^ BitVec.ofNat 8 v) i = lf (b0 ++ flp (xb.take L) v) i := by
  have htl : (xb.take L).length = L := by rw [List.length_take]; omega
  rw [lf_app]
  unfold upd catF
  by_cases h1 : i = b0.length + J
  · rw [if_pos h1, if_neg (by omega), show i - b0.length = J by omega]
    unfold flp
    rw [htl, lf_set _ _ _ _ (by rw [htl]; omega), if_pos (by omega), show L - 1 = J by omega, lf_take _ _ _ (by omega : J < L)]
  · rw [if_neg h1]
    by_cases h2 : i < b0.length
    · rw [if_pos h2, if_pos h2]
    · rw [if_neg h2, if_neg h2]
      unfold flp
      rw [htl, lf_set _ _ _ _ (by rw [htl]; omega), if_neg (by omega), lf_take _ _ _ (by omega)]
set_option maxRecDepth 20000 in
set_option maxHeartbeats 8000000 in
theorem rboot_any (T : Mk) (t B n c : Nat) (A : Option Addr) (a : Nat → Int) (d : Dk) (w : World) (h : RkAt T w t B d) (hk : d.ok) (ht : 0 < t) (hn : d.n < 1000000000000) (hs : Ints T w A n c a) :
    Calls Try.prog 37 #[.pointer (some ⟨B, 0, none⟩), .slice A n c] w fun e w' => e = .returned (.tuple #[]) ∧ ∃ T', Fr T T' (Hs t) w w' ∧ RkAt T' w' t B (d.boot (pck a n)) := by
  have H := Lib.hid h
  have HS := Lib.hid hs
  have HK := Lib.hid hk
  have hM := maxF_eq
  obtain ⟨g, hg⟩ : ∃ g, g = pck a n := ⟨_, rfl⟩
  have HG := Lib.hid hg
  rw [← hg]
  clear h hs hk hg
  go_enter Try.func37, Try.ntmps37
  go_wp2_with fail
  go_loopw [4] (fun iv wr => ∃ (j : Nat) (T1 : Mk), j ≤ 4 ∧ iv = .int .i64 (j : Int) ∧ Fr T T1 (Hs t) w wr ∧ RkAt T1 wr t B (d.part g j) ∧ Ints T1 wr A n c a) (fun iv _ => 4 - (intOf iv).toNat)
  case atStart => exact ⟨0, T, by omega, rfl, Fr.refl _ _ _, by rw [part_0]; exact H.out, HS.out⟩
  case round =>
    obtain ⟨j, T2, hj, rfl, hf, hd, hsn⟩ := hrel
    obtain ⟨wo, rfl⟩ : ∃ wo : World, wo = wr := ⟨_, rfl⟩
    have HF := Lib.hid hf
    have HD := Lib.hid hd
    have HSN := Lib.hid hsn
    clear hf hd hsn
    by_cases hlt : j < 4
    · have hd : decide ((j : Int) < 4) = true := by simp; omega
      have hgl := fun i => pck_lt (a := a) (n := n) HS.out.rg i
      rw [← HG.out] at hgl
      have N0 := Lib.hid (fun (y : World) (hy : Below wo.heap.size wo y) => pick_any _ n c j A a y (HSN.out.fr (Fr.new (H := fun _ => False) hy 0) (fun e => e)) (by omega))
      have N1 := Lib.hid (fun (y : World) (hy : Below wo.heap.size wo y) => pick_any _ n c (4 + j) A a y (HSN.out.fr (Fr.new (H := fun _ => False) hy 0) (fun e => e)) (by omega))
      have N2 := Lib.hid (fun (y : World) (hy : Below wo.heap.size wo y) => pick_any _ n c (8 + j) A a y (HSN.out.fr (Fr.new (H := fun _ => False) hy 0) (fun e => e)) (by omega))
      rw [← HG.out] at N0 N1 N2
      rw [show ((4 + j : Nat) : Int) = 4 + (j : Int) from Int.natCast_add 4 j] at N1
      rw [show ((8 + j : Nat) : Int) = 8 + (j : Int) from Int.natCast_add 8 j] at N2
      obtain ⟨g0, hg0⟩ : ∃ g0, g0 = g j := ⟨_, rfl⟩
      obtain ⟨g1, hg1⟩ : ∃ g1, g1 = g (4 + j) := ⟨_, rfl⟩
      obtain ⟨g2, hg2⟩ : ∃ g2, g2 = g (8 + j) := ⟨_, rfl⟩
      have hl0 := hgl j
      have hl1 := hgl (4 + j)
      have hl2 := hgl (8 + j)
      rw [← hg0] at N0 hl0
      rw [← hg1] at N1 hl1
      rw [← hg2] at N2 hl2
      have HG0 := Lib.hid hg0
      have HG1 := Lib.hid hg1
      have HG2 := Lib.hid hg2
      obtain ⟨V, hr, hu, h3⟩ := HD.out.row
      obtain ⟨⟨A1, c1, hv1, hr1⟩, hp1, ok1⟩ := h3 j hlt
      have hfj : (d.part g j).f j = d.f j := by unfold Dk.part; simp
      rw [hfj] at hv1 hr1 hp1 ok1
      obtain ⟨A2, c2, hv2, hp2, -⟩ := hp1.sl
      have hlF := HK.out.few j hlt
      obtain ⟨s, hse⟩ : ∃ s, s = (d.f j).s := ⟨_, rfl⟩
      obtain ⟨l, hle⟩ : ∃ l, l = (d.f j).l := ⟨_, rfl⟩
      have HFJ := Lib.hid (show d.f j = ⟨s, l⟩ by rw [hse, hle])
      have ok2 : Okc s l := by rw [hse, hle]; exact ok1
      rw [← hle] at hp2 hv2 hlF
      rw [← hse] at hv1 hr1
      obtain ⟨K, hK⟩ : ∃ K, K = g0 % (l.length + 1) := ⟨_, rfl⟩
      have hKl : K ≤ l.length := by have := Nat.mod_lt g0 (show 0 < l.length + 1 by omega); omega
      have hpm : (g0 : Int).tmod ((l.length : Int) + 1) = (K : Int) := by rw [hK, Int.tmod_eq_emod_of_nonneg (by omega)]; rfl
      have hkl : (l.take K).length = K := by rw [List.length_take]; omega
      have HCC := fun (y : World) (hy : Below wo.heap.size wo y) => rhas_any (paint T2 wo.heap.size 0) (t + 1 + j) c1 c2 A1 A2 s (l.take K) y (hr1.fr (Fr.new (H := fun _ => False) hy 0) (fun e => e)).sl ((hp2.take K).fr doE_ok (Fr.new (H := fun _ => False) hy 0) (fun e => e) (fun e => e)) (Okc.take ok2 K) (by rw [hkl]; omega)
      rw [hkl] at HCC
      have HC := Lib.hid HCC
      have hlc := hp2.le
      have g1' : wo.cell? ⟨B, j * 2, none⟩ = some (.slice A1 s.length c1) := by rw [cell_row hr, rk_get _ _ _ _ (by omega), show j * 2 = 2 * j by omega, hv1]
      have g2' : wo.cell? ⟨B, j * 2 + 1, none⟩ = some (.slice A2 l.length c2) := by rw [cell_row hr, rk_get _ _ _ _ (by omega), show j * 2 + 1 = 2 * j + 1 by omega, hv2]
      have hB := row_lt hr
      have Gs := Lib.hid g1'
      have Gs2 := Lib.hid g2'
      have R5 := Lib.hid hr
      have H3 := Lib.hid h3
      have HU := Lib.hid hu
      have HTT := Lib.hid HD.out.tg
      have HP2 := Lib.hid hp2
      have OK2 := Lib.hid ok2
      have HKK := Lib.hid hK
      clear hg0 hg1 hg2 hr h3 hu hv1 hr1 hp1 ok1 hv2 hp2 hse hle hfj HCC g1' ok2 hK hgl
      go_wp2_with fail
      refine (N0.out wo (Below.refl _ _)).mono ?_
      rintro e w' ⟨rfl, rfl⟩
      clear N0
      go_wp2_with fail
      have hup := run_uptoK sld_u don_i A2 l.length c2 K (by omega)
      refine flow_seen [([0, 1, 2, 3, 4, 5, 6, 7, 8, 9], 10, true)] [11] (by kernel_rfl) (by kernel_rfl) (fun _ _ _ _ _ h => h) fun X => ?_
      have B6 := Lib.hid X.below
      obtain ⟨w6, hw6⟩ : ∃ w6, w6 = X.val := ⟨_, rfl⟩
      rw [← hw6] at B6 ⊢
      clear hw6 X
      have e1 : ∀ y : After w6, y.val.cell? ⟨B, j * 2, none⟩ = some (.slice A1 s.length c1) := fun y => ((onto B6.out B6.out.size y.below).cell (p := ⟨B, j * 2, none⟩) hB).trans Gs.out
      simp only [wpFs, pk, List.getElem?_cons_zero, List.getElem?_cons_succ]
      repeat (go_big_quiet_step (fail))
      refine wpQuiet_nil ?_
      clear e1 hup g2' hpm
      go_wp2_with fail
      refine (HC.out w6 B6.out).mono ?_
      rintro e w7 ⟨v7, rfl, o7, b7⟩
      have B7 := Lib.hid (onto B6.out B6.out.size b7)
      have O7 := Lib.hid (o7.base B6.out.size)
      obtain ⟨A7, c7, rfl, -, -, -⟩ := o7.sl
      obtain ⟨b0, hb0⟩ : ∃ b0, b0 = has s (l.take K) := ⟨_, rfl⟩
      have hbl : b0.length ≤ maxF := by rw [hb0]; exact (Okc.take OK2.out K).len
      rw [← hb0] at O7 ⊢
      have HB0 := Lib.hid hb0
      clear o7 b7 HC B6 hb0 hkl
      go_wp2_with fail
      first | refine ⟨.inl trivial, ?_⟩ | skip
      show wpQuiet _ _ _ _ _ _
      repeat (go_big_quiet_step (fail))
      refine wpQuiet_nil ?_
      obtain ⟨z, hz⟩ : ∃ z, z = b0 ++ torn l K g1 g2 := ⟨_, rfl⟩
      have HZ := Lib.hid hz
      have TAIL := Lib.hid (fun (Z : Nat) (v : Value) (wx : World) (hZ : Z = z.length) (ho : Own wx wo.heap.size 5 v Z (lf z)) (hb : Below wo.heap.size wo wx) => show (∃ T3, Fr T T3 (Hs t) w (wx.setRow B (rkC (updV (updV V (2 * j) v) (2 * j + 1) (.slice none 0 0)) (d.part g j).off (leftI (d.part g j).u) (d.part g j).n)) ∧ RkAt T3 (wx.setRow B (rkC (updV (updV V (2 * j) v) (2 * j + 1) (.slice none 0 0)) (d.part g j).off (leftI (d.part g j).u) (d.part g j).n)) t B (d.part g (j + 1)) ∧ Ints T3 (wx.setRow B (rkC (updV (updV V (2 * j) v) (2 * j + 1) (.slice none 0 0)) (d.part g j).off (leftI (d.part g j).u) (d.part g j).n)) A n c a) from by
        subst hZ
        have O8 := OwB.of_new (l := z) ho rfl (fun _ _ => rfl) T2 0
        obtain ⟨A8, c8, rfl, r8, -⟩ := O8.rd
        have hT7 : paint T2 wo.heap.size 0 B = t := by rw [paint_old hB]; exact HTT.out
        obtain ⟨C', hC'⟩ : ∃ C', C' = rkC (updV (updV V (2 * j) (.slice A8 z.length c8)) (2 * j + 1) (.slice none 0 0)) (d.part g j).off (leftI (d.part g j).u) (d.part g j).n := ⟨_, rfl⟩
        rw [← hC']
        have f8 := fun (H : Nat → Prop) h => Fr.row (T := paint T2 wo.heap.size 0) (w := wx) (H := H) (B := B) h C'
        have F8 := (HF.out.trans (Fr.new (H := Hs t) hb 0)).trans (f8 (Hs t) (by rw [hT7]; exact ⟨Nat.le_refl _, by omega⟩))
        have G8 := (Fr.new (T := T2) (H := fun y => y = t) hb 0).trans (f8 (fun y => y = t) hT7)
        have D8 := r8.fr (f8 (fun y => y = t) hT7) (by omega)
        have R8 := row_setRow (carry hb R5.out) C'
        refine ⟨_, F8, ?_, HSN.out.fr G8 (by omega)⟩
        rw [← part_step]
        refine rk_fil (V := V) (by rw [G8.tag B hB]; exact HTT.out) hlt (by rw [R8, hC']) HU.out (fun i hi hne => (H3.out i hi).fr G8 (by omega) (by omega)) ⟨⟨A8, c8, ?_, ?_⟩, ElOw.nil, ?_⟩
        · have e : ((d.f j).boot (g j) (g (4 + j)) (g (8 + j))).s = z := by
            rw [HFJ.out, HZ.out, HB0.out, HKK.out, HG0.out, HG1.out, HG2.out]; rfl
          rw [e]
        · have e : ((d.f j).boot (g j) (g (4 + j)) (g (8 + j))).s = z := by
            rw [HFJ.out, HZ.out, HB0.out, HKK.out, HG0.out, HG1.out, HG2.out]; rfl
          rw [e]
          exact D8
        · exact (HK.out.ok j hlt).boot _ _ _)
      clear hz
      have FIN := Lib.hid (fun (wx : World) (hb : Below wo.heap.size wo wx) (v : Value) => show (wx.cell? ⟨B, j * 2, none⟩ = some (.slice A1 s.length c1) ∧ wx.cell? ⟨B, j * 2 + 1, none⟩ = some (.slice A2 l.length c2) ∧ wx.frozen? ⟨B, j * 2, none⟩ = false ∧ wx.frozen? ⟨B, j * 2 + 1, none⟩ = false ∧ (wx.setCell ⟨B, j * 2, none⟩ v).setCell ⟨B, j * 2 + 1, none⟩ (.slice none 0 0) = wx.setRow B (rkC (updV (updV V (2 * j) v) (2 * j + 1) (.slice none 0 0)) (d.part g j).off (leftI (d.part g j).u) (d.part g j).n)) from
        ⟨(hb.cell (p := ⟨B, j * 2, none⟩) hB).trans Gs.out, (hb.cell (p := ⟨B, j * 2 + 1, none⟩) hB).trans Gs2.out, froz_row (carry hb R5.out) _, froz_row (carry hb R5.out) _, rk_set2 (carry hb R5.out) hlt v (.slice none 0 0)⟩)
      by_cases hKlt : K < l.length
      · have hdk : decide (K < l.length) = true := by simpa using hKlt
        have P7 := HP2.out.fr doE_ok (Fr.new (H := fun _ => False) B7.out 0) (fun e => e) (fun e => e)
        obtain ⟨g', o', hA2, hg', -, hcl⟩ := P7.at_ (by omega)
        obtain ⟨vs, hvs, hcs⟩ := hcl K hKlt
        have q0 := hcs 0 (by omega)
        have q1 := hcs 1 (by omega)
        have q2 := hcs 2 (by omega)
        obtain ⟨hfit, hlen⟩ := OK2.out.at_ K hKlt
        have HTO := Lib.hid (show torn l K g1 g2 = flp ((l[K]).b.take (g1 % ((l[K]).b.length + 1))) g2 by unfold torn; rw [List.getElem?_eq_getElem hKlt])
        obtain ⟨x, hx⟩ : ∃ x, x = l[K] := ⟨_, rfl⟩
        rw [← hx] at hvs hfit hlen HTO
        subst hA2
        have HFI := Lib.hid hfit
        clear hcl hcs P7 hx hfit
        rcases hvs with ⟨hcut, rfl⟩ | ⟨hcut, A3, c3, rfl, hr3⟩
        · simp only [List.getElem?_cons_zero, List.getElem?_cons_succ, Nat.add_zero] at q0 q1 q2
          have hz : z = b0 := by rw [HZ.out, HTO.out, (HFI.out.1 hcut).2, List.take_nil, flp_nil, List.append_nil]
          have TL := Lib.hid (TAIL.out b0.length (.slice A7 b0.length c7) w7 (by rw [hz]) (by rw [hz]; exact O7.out) B7.out)
          obtain ⟨k0, k1, z0, z1, k2⟩ := FIN.out w7 B7.out (.slice A7 b0.length c7)
          have K2 := Lib.hid k2
          clear hz hcut k2 FIN TAIL
          go_wp2_with fail
          rw [K2.out]
          obtain ⟨T3, tf, tr, ti⟩ := TL.out
          exact ⟨⟨j + 1, T3, by omega, by push_cast; rfl, tf, tr, ti⟩, by simp [intOf]; omega⟩
        · simp only [List.getElem?_cons_zero, List.getElem?_cons_succ, Nat.add_zero] at q0 q1 q2
          obtain ⟨L, hL⟩ : ∃ L, L = g1 % (x.b.length + 1) := ⟨_, rfl⟩
          have hLe : L ≤ x.b.length := by have := Nat.mod_lt g1 (show 0 < x.b.length + 1 by omega); omega
          have hpm : (g1 : Int).tmod ((x.b.length : Int) + 1) = (L : Int) := by rw [hL, Int.tmod_eq_emod_of_nonneg (by omega)]; rfl
          have HZ2 := Lib.hid (show z = b0 ++ flp (x.b.take L) g2 by rw [HZ.out, HTO.out, hL])
          have R3 := Lib.hid (hr3.sl.upto L hLe)
          have hc3 := hr3.sl.le
          have Q2 := Lib.hid q2
          clear hL hr3 q1 q2
          go_wp2_with fail
          refine flow_seen [([0, 1, 2, 4, 5, 6, 7, 8, 9, 10], 3, false)] [11, 12] (by kernel_rfl) (by kernel_rfl) (fun _ _ _ _ _ h => h) fun X => ?_
          have b78 := X.below
          have B8 := Lib.hid (onto B7.out B7.out.size X.below)
          have O8 := Lib.hid (O7.out.below X.below (Nat.le_refl _))
          have S8 := Lib.hid ((R3.out.below (X.below)).more X.below.size)
          have q2 := fun y : After X.val => ((onto X.below X.below.size y.below).cell (p := ⟨g', o' + K * 3 + 2, none⟩) hg').trans Q2.out
          obtain ⟨w8, hw8⟩ : ∃ w8, w8 = X.val := ⟨_, rfl⟩
          rw [← hw8] at B8 O8 S8 q2 b78 ⊢
          have Q8 := Lib.hid ((b78.cell (p := ⟨g', o' + K * 3 + 2, none⟩) hg').trans Q2.out)
          clear hw8 X b78 B7 O7 R3 Q2 q0
          simp only [wpFs, pk, List.getElem?_cons_zero, List.getElem?_cons_succ]
          repeat (go_big_quiet_step (fail))
          refine wpQuiet_nil ?_
          clear q2
          go_wp2_with fail
          refine (N1.out w8 B8.out).mono ?_
          rintro e w' ⟨rfl, rfl⟩
          clear N1
          go_wp2_with fail
          first | refine ⟨.inr (Below.refl _ _), ?_⟩ | refine ⟨Below.refl _ _, ?_⟩
          show wpQuiet _ _ _ _ _ _
          repeat (go_big_quiet_step (fail))
          refine wpQuiet_nil ?_
          have hup := run_upto sli_u u8_i A3 x.b.length c3 L (by omega)
          have q2 := Q8.out
          clear hpm
          have hbz := B8.out.size
          by_cases hL0 : L = 0
          · subst hL0
            have hz : z = b0 := by rw [HZ2.out, List.take_zero, flp_nil, List.append_nil]
            go_wp2_with (refine wpl_appB rfl (.tmp 62) (.tmp 69) rfl sli_u u8_info O8.out S8.out (by omega) hbz rfl rfl ?_; intro v9 w9 ho9 hg9 ht9
                         obtain ⟨A9, c9, hv9, -, -, -⟩ := ho9.sl
                         subst hv9
                         have B9 := Lib.hid (O8.out.after hg9 B8.out hbz (Nat.le_refl _))
                         obtain ⟨k0, k1, z0, z1, k2⟩ := FIN.out w9 B9.out (.slice A9 b0.length c9)
                         have K2 := Lib.hid k2
                         clear k2)
            rw [K2.out]
            obtain ⟨T3, tf, tr, ti⟩ := TAIL.out b0.length (.slice A9 b0.length c9) w9 (by rw [hz]) (by rw [hz]; exact ho9.congr fun i hi => by unfold catF; rw [if_pos (by omega)]) B9.out
            exact ⟨⟨j + 1, T3, by omega, by push_cast; rfl, tf, tr, ti⟩, by simp [intOf]; omega⟩
          · have hd9 : decide ((0 : Int) < (L : Int)) = true := by simp; omega
            obtain ⟨J, hJ⟩ : ∃ J, L = J + 1 := ⟨L - 1, by omega⟩
            have HJ := Lib.hid hJ
            clear hJ
            go_wp2_with (refine wpl_appB rfl (.tmp 62) (.tmp 69) rfl sli_u u8_info O8.out S8.out (by omega) hbz rfl rfl ?_; intro v9 w9 ho9 hg9 ht9
                         obtain ⟨A9, c9, hv9, hs9, -, hA9⟩ := ho9.sl
                         subst hv9)
            have hJb := HJ.out
            have B9 := Lib.hid (O8.out.after hg9 B8.out hbz (Nat.le_refl _))
            obtain ⟨N9, hN9⟩ : ∃ N9, N9 = b0.length + L := ⟨_, rfl⟩
            obtain ⟨I9, hI9⟩ : ∃ I9, I9 = b0.length + J := ⟨_, rfl⟩
            have hI9n : I9 < N9 := by omega
            have hJ1 : (N9 : Int) - 1 = (I9 : Int) := by omega
            have hN9b : N9 ≤ 10000000 := by omega
            have hI9b : I9 ≤ 10000000 := by omega
            rw [← hN9] at ho9 hs9 ⊢
            obtain ⟨g9, hg9', hg9b⟩ : ∃ g9, A9 = some ⟨g9, 0, none⟩ ∧ wo.heap.size ≤ g9 := by
              rcases hA9 with rfl | h
              · obtain ⟨_, _, e, _⟩ := hs9.at_ (by omega); cases e
              · exact h
            subst hg9'
            obtain ⟨fz, cl, -⟩ := ho9.set (g := g9) (i := I9) (x := 0#8) rfl (by omega)
            have hg9s := World.block_lt_of_cell? w9 _ cl
            rw [show catF b0.length (lf b0) (lf x.b) I9 = lf x.b J by unfold catF; rw [if_neg (by omega), show I9 - b0.length = J by omega]] at cl
            have O9 := Lib.hid ho9
            have CL := Lib.hid cl
            have HI9 := Lib.hid hI9
            have HN9 := Lib.hid hN9
            clear hJb hI9 hN9 hg9 ht9 hs9 hA9 ho9 fz cl hup q2 O8 S8 Q8 HTO HZ hd9
            refine flow_seen [([0, 1, 2, 3, 4, 5, 6, 7, 8, 9, 10, 11, 12], 13, false), ([14, 15, 16], 17, true)] [] (by kernel_rfl) (by kernel_rfl) (fun _ _ _ _ _ h => h) fun X => ?_
            have B10 := Lib.hid (onto B9.out B9.out.size X.below)
            have O10 := Lib.hid (O9.out.below X.below (Nat.le_refl _))
            have q2 := fun y : After X.val => ((onto X.below X.below.size y.below).cell (p := ⟨g9, I9, none⟩) hg9s).trans CL.out
            have CL10 := Lib.hid ((X.below.cell (p := ⟨g9, I9, none⟩) hg9s).trans CL.out)
            obtain ⟨w10, hw10⟩ : ∃ w10, w10 = X.val := ⟨_, rfl⟩
            rw [← hw10] at B10 O10 q2 CL10 ⊢
            clear hw10 X CL O9 B9 B8
            simp only [wpFs, pk, List.getElem?_cons_zero, List.getElem?_cons_succ]
            repeat (go_big_quiet_step (fail))
            refine wpQuiet_nil ?_
            clear q2
            go_wp2_with fail
            refine (N2.out w10 B10.out).mono ?_
            rintro e w' ⟨rfl, rfl⟩
            clear N2
            go_wp2_with fail
            first | refine ⟨.inr (Below.refl _ _), ?_⟩ | refine ⟨Below.refl _ _, ?_⟩
            show wpQuiet _ _ _ _ _ _
            have f4 := b8_int g2
            have f5 := I_xor (lf x.b J) (BitVec.ofNat 8 g2)
            repeat (go_big_quiet_step (fail))
            refine wpQuiet_nil ?_
            obtain ⟨fz, -, O11'⟩ := O10.out.set (g := g9) (i := I9) (x := lf x.b J ^^^ BitVec.ofNat 8 g2) rfl hI9n
            have O11 := Lib.hid O11'
            have B11 := Lib.hid (B10.out.setCell (p := ⟨g9, I9, none⟩) hg9b (.int .u8 (I (lf x.b J ^^^ BitVec.ofNat 8 g2))))
            have cl := CL10.out
            clear O11'
            go_wp2_with fail
            obtain ⟨w11, hw11⟩ : ∃ w11, w11 = w10.setCell ⟨g9, I9, none⟩ (.int .u8 (I (lf x.b J ^^^ BitVec.ofNat 8 g2))) := ⟨_, rfl⟩
            rw [← hw11] at O11 B11 ⊢
            clear hw11 fz cl O10 B10 CL10 f4 f5
            go_wp2_with fail
            first | refine ⟨.inl trivial, ?_⟩ | skip
            show wpQuiet _ _ _ _ _ _
            refine wpQuiet_nil ?_
            obtain ⟨k0, k1, z0, z1, k2⟩ := FIN.out w11 B11.out (.slice (some ⟨g9, 0, none⟩) N9 c9)
            have K2 := Lib.hid k2
            clear k2
            go_wp2_with fail
            rw [K2.out]
            obtain ⟨T3, tf, tr, ti⟩ := TAIL.out N9 (.slice (some ⟨g9, 0, none⟩) N9 c9) w11 (by rw [HZ2.out, List.length_append, flp_len, List.length_take, HN9.out]; omega) (O11.out.congr fun i hi => by
              rw [HZ2.out, HI9.out]
              exact flp_upd b0 x.b L J g2 HJ.out hLe i (by have := HN9.out; omega)) B11.out
            exact ⟨⟨j + 1, T3, by omega, by push_cast; rfl, tf, tr, ti⟩, by simp [intOf]; omega⟩
      · have hdk : decide (K < l.length) = false := by simpa using hKlt
        have hz : z = b0 := by
          rw [HZ.out]
          unfold torn
          rw [List.getElem?_eq_none (by omega), List.append_nil]
        have TL := Lib.hid (TAIL.out b0.length (.slice A7 b0.length c7) w7 (by rw [hz]) (by rw [hz]; exact O7.out) B7.out)
        obtain ⟨k0, k1, z0, z1, k2⟩ := FIN.out w7 B7.out (.slice A7 b0.length c7)
        have K2 := Lib.hid k2
        clear hz k2 FIN TAIL
        go_wp2_with fail
        rw [K2.out]
        obtain ⟨T3, tf, tr, ti⟩ := TL.out
        exact ⟨⟨j + 1, T3, by omega, by push_cast; rfl, tf, tr, ti⟩, by simp [intOf]; omega⟩
    · have hd : decide ((j : Int) < 4) = false := by simp; omega
      obtain rfl : j = 4 := by omega
      obtain ⟨V, hr, hu, h3⟩ := HD.out.row
      obtain ⟨q1, q2, q3⟩ := rk_cells hr
      have hx := rk_head4 (d' := d.boot g) hr HD.out.tg ht h3 (fun m hm => by cases hm) (fun i hi => by unfold Dk.part Dk.boot; simp [hi])
      have z1 := froz_row hr 8
      have k1 := rk_off hr false
      have r1 := row_setRow hr (rkC V false (leftI (d.part g 4).u) (d.part g 4).n)
      have z2 := froz_row r1 9
      have q4 := (rk_cells r1).2.1
      rw [← k1] at z2 q4
      have K2 := Lib.hid (show (wo.setCell ⟨B, 8, none⟩ (.bool false)).setCell ⟨B, 9, none⟩ (.int .i64 (-1)) = wo.setRow B (rkC V (d.boot g).off (leftI (d.boot g).u) (d.boot g).n) by
        rw [k1, rk_l r1, setRow_setRow]; rfl)
      have HX := Lib.hid hx
      clear hx hr hu h3 k1 r1 q3
      go_wp2_with fail
      rw [K2.out]
      go_end0
      exact ⟨rfl, T2, HF.out.trans (RkAt.hs HX.out.1), HX.out.2⟩
end Go.Proofs.Ythdhbjfenanbnaa.Oct
