import Derived.Test.YteffjpdcghlnlaaGreatDoorZcKpAll
import Derived.Test.YteffjpdcghlnlaaGreatDoorZcKrAll
import Derived.WalkSpells
import Derived.Test.YteffjpdcghlnlaaGreatDoorZcStB1
import Derived.Test.YteffjpdcghlnlaaGreatDoorZcStX
import Derived.Test.YteffjpdcghlnlaaGreatDoorZcSsU
set_option linter.unusedVariables false
set_option linter.unusedSimpArgs false
set_option maxHeartbeats 8000000
set_option maxRecDepth 20000
namespace Go.Proofs.YteffjpdcghlnlaaGreatDoor.Oct
open Go.ChangeShapes Go.WideShapes Go.ChangeAt Go.RowKit
variable {ko : Nat} {kR : Array Value}
theorem hld_len : Tryz.prog.arrayLen 74 = 8 := by kernel_rfl
theorem hld_elem : Tryz.prog.elem 74 = 73 := by kernel_rfl
theorem vsa_len : Tryz.prog.arrayLen 71 = 4 := by kernel_rfl
theorem vsa_elem : Tryz.prog.elem 71 = 63 := by kernel_rfl
theorem size_of {P : Program} {t m : Nat} (h : (P.info? t).map (·.size) = some m) (w : World) : (sizeOf t).run P w = .ok m w := by
 cases hq : P.info? t with
 | none => rw [hq] at h; cases h
 | some i =>
  rw [hq] at h
  have h0 : i.size = m := Option.some.inj h
  simp [sizeOf, typeInfo, hq, h0]
theorem hld_slh (B m : Nat) (hm : m ≤ 8) (w : World) : (Instr.sliceAt 74 (.pointer (some ⟨B, ko, none⟩)) none (some (.int .i64 (m : Int))) none).run Tryz.prog w = .ok (.slice (some ⟨B, ko, none⟩) m 8) w := by
 rw [run_sliceAt_array_h w 74 ⟨B, ko, none⟩ (by kernel_rfl) .i64 _ (by omega) (by rw [hld_len]; omega), hld_elem, size_of kr_i, hld_len, Result.andThen_ok]
 unfold slicedAt
 rw [if_neg (by omega), Int.toNat_natCast]
 rfl
theorem vsa_slh (B m : Nat) (hm : m ≤ 4) (w : World) : (Instr.sliceAt 71 (.pointer (some ⟨B, 1, none⟩)) none (some (.int .i64 (m : Int))) none).run Tryz.prog w = .ok (.slice (some ⟨B, 1, none⟩) m 4) w := by
 rw [run_sliceAt_array_h w 71 ⟨B, 1, none⟩ (by kernel_rfl) .i64 _ (by omega) (by rw [vsa_len]; omega), vsa_elem, size_of ver_i, vsa_len, Result.andThen_ok]
 unfold slicedAt
 rw [if_neg (by omega), Int.toNat_natCast]
 rfl
theorem pcv_any (g o c : Nat) (l : List Ve) (w : World) (hs : VRd w (.slice (some ⟨g, o, none⟩) l.length c) l) (hl : l.length ≤ 1000) :
  Calls Tryz.prog 129 #[.slice (some ⟨g, o, none⟩) l.length c] w fun e w' => ∃ A' c', e = .returned (.slice A' l.length c') ∧ w'.ownsRow 0 63 34 (.slice A' l.length c') l.length (vsC l) ∧ (∀ k, (Value.slice A' l.length c').ownBlock = some k → w.heap.size ≤ k) ∧ Below w.heap.size w w' := by
 have HS := Lib.hid hs
 obtain ⟨n, hn⟩ : ∃ n, n = l.length := ⟨_, rfl⟩
 have HN := Lib.hid hn
 rw [← hn] at hl ⊢
 obtain ⟨w1, hw1⟩ : ∃ w1, w1 = w.alloc (.cells #[] 63) := ⟨_, rfl⟩
 have b1 : Below w.heap.size w w1 := by rw [hw1]; exact (Below.refl w.heap.size w).alloc (by simp) _
 have o1 : w1.ownsRow 0 63 34 (.slice (some ⟨w.heap.size, 0, none⟩) 0 0) 0 [] := by rw [hw1]; exact World.ownsRow_made w #[] 0 (Nat.zero_le _) (Nat.zero_le _) rfl
 have h1 := HS.out.below b1
 rw [← hn] at h1
 have HW1 := Lib.hid hw1
 have B1 := Lib.hid b1
 have hw : w.heap.size < w1.heap.size := by rw [hw1]; simp
 clear hs hn b1 hw1
 have qT := fun (w : World) (n c : Nat) => Lib.run_eql_slice_nil (P := Tryz.prog) w 57 63 (some ⟨g, o, none⟩) n c 0 0 vers_u
 go_enter Tryz.func129, Tryz.ntmps129
 go_wp2_with (rw [← HW1.out]; refine wpl_appRd rfl (.tmp 5) (.tmp 6) rfl vers_u ver_info (veA_size _) (by decide) o1 h1 (by rw [← HN.out]; omega) rfl rfl ?_; intro v4 w4 ho4 hg4 ht4)
 go_ret
 have hf : Below w.heap.size w w4 := B1.out.grown hg4 B1.out.size (fun k e => by cases e; exact Nat.le_refl _)
 have htg : ∀ k, v4.ownBlock = some k → w.heap.size ≤ k := fun k hk => by
  rcases ht4 with e | e <;> rw [e] at hk <;> cases hk
  ·exact Nat.le_refl _
  ·exact B1.out.size
 have V4 : ∀ (T : Mk) t, VsAt (zH T w.heap.size t) w4 t 63 v4 l := fun T t => ⟨ho4, fun k hk => zN (htg k hk)⟩
 obtain ⟨A5, c5, hv5, -⟩ := (V4 (fun _ => 0) 0).form
 subst hv5
 rw [HN.out]
 exact ⟨A5, c5, rfl, ho4, htg, hf⟩
def kyX (c : Array Value) (q : Nat) : Array Value := c.extract q (q + 138)
theorem kyX_size {c : Array Value} {q : Nat} (h : q + 138 ≤ c.size) : (kyX c q).size = 138 := by unfold kyX; rw [Array.size_extract]; omega
theorem kyX_ones {c : Array Value} {q : Nat} (h : Ones c) : Ones (kyX c q) := by
 unfold Ones kyX at *
 rw [Array.all_eq_true] at *
 intro j hj
 rw [Array.size_extract] at hj
 rw [Array.getElem_extract]
 exact h _ (by omega)
theorem kyX_key {c : Array Value} {q : Nat} {r : Rg} (h : KyC c q r) (hs : q + 138 ≤ c.size) : KyC (kyX c q) 0 r :=
 h.eq fun j hj => by unfold kyX; rw [Array.getElem?_extract, if_pos (by omega), Nat.zero_add]
theorem KyC.rd {c : Array Value} {r : Rg} {w : World} {X cap : Nat} (h : KyC c 0 r) (hr : row w X = some c) (hc : 4 ≤ cap) (hm : cap ≤ 100) : VRd w (.slice (some ⟨X, 1, none⟩) r.l.length cap) r.l :=
 ⟨_, _, rfl, by have := h.few; omega, by unfold maxLen; omega, (fun e => by cases e), fun _ => ⟨X, 1, rfl, zK hr, fun i j hi hj => by rw [zF hr, ← h.ver i hi j hj, Nat.zero_add]⟩⟩
def ClX (w : World) (X : Nat) (cx : Array Value) (y : World) : Prop := Below w.heap.size w y ∧ row y X = some cx
theorem ClX.alloc {w : World} {X : Nat} {cx : Array Value} : ∀ (y : World) (z : Obj), ClX w X cx y → ClX w X cx (y.alloc z) := fun y z h => ⟨h.1.alloc h.1.size z, zI h.2 z⟩
theorem prs_any (T : Mk) (t t' B : Nat) (K : Ks) (w : World) (h : KpAt T w t B ko kR K) (hfr : ∀ k, k < w.heap.size → ¬ Hk t' (T k)) :
  Calls Tryz.prog 71 #[.pointer (some ⟨B, ko, none⟩)] w fun e w' => ∃ v T', e = .returned v ∧ RsAt T' w' t' 59 63 v K ∧ Nk T T' t' w w' := by
 obtain ⟨cb, hrow, hks⟩ := h.at_
 have h8 := h.ok.1
 have HKS := Lib.hid hks
 have HROW := Lib.hid hrow
 have HFR := Lib.hid hfr
 have HOK := Lib.hid h.ok
 obtain ⟨n, hn⟩ : ∃ n, n = K.length := ⟨_, rfl⟩
 have HN := Lib.hid hn
 have k1 : ∀ x : After w, x.val.cell? ⟨B, ko + 1104, none⟩ = some (.int .i64 (n : Int)) := fun x => by rw [hn]; exact hks.cell B (zC x.below hrow)
 rw [← hn] at h8
 have hsl := hld_slh (ko := ko) B n h8
 clear h hks hrow hn hfr
 go_enter Tryz.func71, Tryz.ntmps71
 go_wp2_with fail
 refine xD (by kernel_rfl) (by kernel_rfl) ?_
 repeat (go_big_quiet_step (fail))
 refine wpQuiet_nil ?_
 rintro _ ⟨x, rfl⟩
 obtain ⟨w0, hw0⟩ : ∃ wx, wx = x.val := ⟨_, rfl⟩
 have B0 := Lib.hid x.below
 rw [← hw0] at B0 ⊢
 clear hw0 k1 x
 go_wp2_with fail
 go_loopw [3, 15] (fun ov iv wr => ∃ (j : Nat) (T' : Mk), j ≤ n ∧ iv = .int .i64 j ∧ RsAt T' wr t' 59 63 ov (K.take j) ∧ (∀ k, k < w.heap.size → T' k = T k) ∧ (∀ k, T' k = T k ∨ Hk t' (T' k)) ∧ Below w.heap.size w wr) (fun _ iv _ => n - (intOf iv).toNat)
 case atStart => exact ⟨0, T, by omega, rfl, RsAt.nil, fun _ _ => rfl, fun _ => .inl rfl, B0.out⟩
 case round =>
  obtain ⟨j, T1, hj, rfl, hrs, htg, hmk, hb⟩ := hrel
  have HMK := Lib.hid hmk
  clear hmk
  obtain ⟨w1, rfl⟩ : ∃ w1 : World, w1 = wr := ⟨_, rfl⟩
  have HRS := Lib.hid hrs
  have HTG := Lib.hid htg
  have HB := Lib.hid hb
  by_cases hlt : j < n
  ·have hjK : j < K.length := by have := HN.out; omega
   have hlen : (K.take j).length = j := by rw [List.length_take]; omega
   have hsz : ko + j * 138 + 138 ≤ cb.size := by have := HKS.out.fitc; omega
   obtain ⟨r, hr⟩ : ∃ r, r = K[j] := ⟨_, rfl⟩
   have hky := HKS.out.key j (by omega)
   rw [rgI_lt hjK, ← hr] at hky
   have hkx := kyX_key hky hsz
   have hsx := kyX_size hsz
   have hox := kyX_ones (q := ko + j * 138) HKS.out.ones
   obtain ⟨cx, hcx⟩ : ∃ cx, cx = kyX cb (ko + j * 138) := ⟨_, rfl⟩
   rw [← hcx] at hkx hsx hox
   have hld : ∀ x : World, ldR Tryz.prog 73 138 x B (ko + j * 138) (some cb) = .ok (.agg cx) x := fun x => by
    unfold ldR
    simp only [if_pos hsz]
    rw [hcx]
    rfl
   have hst : ∀ (x : World) (X : Nat), stR Tryz.prog 73 138 x X 0 (.agg cx) (some kyZ) = .ok () (x.setRow X cx) := fun x X => stR_whole _ _ _ _ _ _ _ kyZ_size.symm (by rw [hsx, kyZ_size]) hox
   have rB := zC hb HROW.out
   obtain ⟨Ao, co, rfl, hleo, hmo, -⟩ := hrs.form
   rw [hlen] at HRS ⊢
   have HL := Lib.hid hlen
   have HR := Lib.hid hr
   have HKX := Lib.hid hkx
   obtain ⟨L, hL⟩ : ∃ L, L = r.l.length := ⟨_, rfl⟩
   have hL4 : L ≤ 4 := by rw [hL]; exact hkx.few
   have HLL := Lib.hid hL
   obtain ⟨w2, hw2⟩ : ∃ w2, w2 = w1.alloc (.cells cx 73) := ⟨_, rfl⟩
   have b2 : Below w1.heap.size w1 w2 := by rw [hw2]; exact (Below.refl _ _).alloc (Nat.le_refl _) _
   have rX : row w2 w1.heap.size = some cx := by rw [hw2]; exact zA _ _ _ _ rfl
   have HW2 := Lib.hid hw2
   have B2 := Lib.hid b2
   have RX := Lib.hid rX
   clear hrs htg hb hlen hr hky hkx hsx hox hcx hL hw2 b2 rX
   have zO : ∀ k, (Value.slice Ao j co).ownBlock = some k → w.heap.size ≤ k ∧ k < w1.heap.size ∧ T1 k = t' := fun k hk => by
    obtain ⟨ys, hys, -⟩ := HRS.out.own
    rw [HL.out] at hys
    refine ⟨?_, (World.ownsRow.lt hys k hk).2, HRS.out.tg k hk⟩
    rcases Nat.lt_or_ge k w.heap.size with h | h
    ·exact absurd ⟨by rw [← HRS.out.tg k hk]; exact Nat.le_of_eq (HTG.out k h), by rw [← HTG.out k h, HRS.out.tg k hk]; omega⟩ (HFR.out k h)
    ·exact h
   have ZO := Lib.hid zO
   have zw := HB.out.size
   clear zO
   go_wp2_with fail
   rw [← HW2.out]
   obtain ⟨X, hX⟩ : ∃ X, X = w1.heap.size := ⟨_, rfl⟩
   rw [← hX] at RX ⊢
   have HX := Lib.hid hX
   have hsl4 := vsa_slh X L hL4
   have hXs : X < w2.heap.size := zK RX.out
   have hwX : w.heap.size ≤ X := by omega
   clear hld hst rB hX
   refine flow_many [.inl [0, 1, 2, 3, 4, 5, 6], pE 7, .inl [8], pS 9, pU 9, pE 10, .inl [11]] (ClX w X cx) (Value.slice Ao j co).ownBlock.toList (by kernel_rfl) (by kernel_rfl) (fun _ _ _ _ _ h => h) (fun _ _ _ _ _ h => h) ClX.alloc ⟨zL (onto HB.out HB.out.size B2.out) 1, by rw [zQ]; exact RX.out⟩ (fun k hk => by have h1 := (ZO.out k (by simpa using hk)).2.1; have h2 := B2.out.size; show k < w2.heap.size; omega) ?_
   have hne : Nonempty (In (ClX w X cx)) := ⟨⟨w2, onto HB.out HB.out.size B2.out, RX.out⟩⟩
   have B3 := Lib.hid (zL (Below.refl w2.heap.size w2) 1)
   have r3 : row (w2.drewN 1) X = some cx := by rw [zQ]; exact RX.out
   have z3 : (w2.drewN 1).heap.size = w2.heap.size := rfl
   obtain ⟨w3, hw3⟩ : ∃ w3, w3 = w2.drewN 1 := ⟨_, rfl⟩
   rw [← hw3] at B3 z3 r3 ⊢
   clear hw3
   have q1 : ∀ y : In (ClX w X cx), y.val.cell? ⟨X, 0, none⟩ = some (.bool r.off) := fun y => by rw [zF y.ok.2]; exact HKX.out.off
   have q2 : ∀ y : In (ClX w X cx), y.val.cell? ⟨X, 137, none⟩ = some (.int .i64 (L : Int)) := fun y => by rw [zF y.ok.2, HLL.out]; have := HKX.out.cnt; rw [Nat.zero_add] at this; exact this
   refine wpM_q ?_
   simp only [pk, List.getElem?_cons_zero, List.getElem?_cons_succ]
   repeat (go_big_quiet_step (fail))
   refine wpQuiet_nil ?_
   clear q1 q2
   refine wpM_e _ rfl (fun y2 hy2 => ?_)
   have hcv := pcv_any X 1 4 r.l y2.val (HKX.out.rd hy2.2 (by omega) (by omega)) (by rw [← HLL.out]; omega)
   rw [← HLL.out] at hcv
   have HCV := Lib.hid hcv
   have B4 := Lib.hid (onto (onto B2.out B2.out.size B3.out) (by have := B2.out.size; have := B3.out.size; omega) y2.below)
   have C4 := Lib.hid hy2
   obtain ⟨w4, hw4⟩ : ∃ w4, w4 = y2.val := ⟨_, rfl⟩
   rw [← hw4] at HCV B4 C4 ⊢
   clear hcv hw4 hy2 y2
   go_wp2_with fail
   refine HCV.out.mono ?_
   rintro e w5 ⟨A5, c5, rfl, ho5, htg5, hb5⟩
   have B5 := Lib.hid (onto B4.out B4.out.size hb5)
   have C5 := Lib.hid (show ClX w X cx w5 from ⟨onto C4.out.1 C4.out.1.size hb5, zC hb5 C4.out.2⟩)
   have V5 := Lib.hid (show VsAt (zH T1 w1.heap.size (t' + 1 + j)) w5 (t' + 1 + j) 63 (.slice A5 L c5) r.l from ⟨by rw [HLL.out] at ho5 ⊢; exact ho5, fun k hk => zN (by have := htg5 k hk; have := B4.out.size; omega)⟩)
   have F5 := Lib.hid (show Frm (Value.slice Ao j co).ownBlock.toList w4 w5 from Frm.of hb5)
   have hZ5 : ∀ k, (Value.slice Ao j co).ownBlock = some k → k < w5.heap.size := fun k hk => by have h1 := (ZO.out k hk).2.1; have h2 := B5.out.size; omega
   have HZ5 := Lib.hid hZ5
   clear hb5 ho5 htg5 HCV hZ5
   go_wp2_with fail
   refine yD (C := ClX w X cx) (Value.slice Ao j co).ownBlock.toList F5.out (fun k hk => ⟨.inl hk, HZ5.out k (by simpa using hk)⟩) C5.out ClX.alloc ?_
   refine wpM_q ?_
   simp only [pk, List.getElem?_cons_zero, List.getElem?_cons_succ]
   repeat (go_big_quiet_step (fail))
   refine wpQuiet_nil ?_
   clear hne
   refine wpM_s (fun p' => .slice (some ⟨p', 0, none⟩) 1 1) (.cells (rgA r.off (.slice A5 L c5)) 59) _ rfl rfl (fun w => ex_rinK _ (.tmp 27) rfl _ _ _ _ rfl w) ?_
   refine wpM_u _ _ _ 28 (.head _) rfl rfl (fun y hy p2 hp21 hp22 hp23 hp24 => ?_)
   refine wpM_e _ rfl (fun y2 hy2 => ?_)
   have b46 := onto y.below y.below.size y2.below
   have B6 := Lib.hid (onto B5.out B5.out.size b46)
   have V6 := Lib.hid (V5.out.fr (Fr.same (H := fun _ => False) b46) (fun e => e))
   have R6 := Lib.hid (zC y2.below (row_of hp24))
   have C6 := Lib.hid hy2
   obtain ⟨w6, hw6⟩ : ∃ w6, w6 = y2.val := ⟨_, rfl⟩
   rw [← hw6] at B6 V6 R6 C6 ⊢
   clear hw6 hy2 hy hp23 hp24 hp22 b46 B5 V5 C5 C4 y2 y
   have hrs6 := HRS.out.fr (Fr.new (T := T1) (H := fun _ => False) B6.out (t' + 1 + j)) (fun _ _ _ e => e)
   have HRS6 := Lib.hid hrs6
   obtain ⟨xs, hxs, hel⟩ := hrs6.own
   have HEL := Lib.hid hel
   have HXS := Lib.hid hxs
   rw [HL.out] at hxs
   have hrow6 : row w6 p2 = some ([.bool r.off, .slice A5 L c5] : List Value).toArray := by rw [R6.out]; unfold rgA; rfl
   clear hel hrs6
   go_wp2_with (refine wpl_appK rfl (.tmp 19) (.tmp 28) rfl rins_u rin_info (rgA_size _ _) (by decide) (by decide) hxs hrow6 rfl (fun v hv => by simp at hv; rcases hv with rfl | rfl <;> rfl) (by omega) rfl rfl ?_; intro v7 w7 ho7 hg7 ht7)
   have ho7' := ho7
   rw [← HL.out] at ho7'
   have hvs6 : VsAt (zH T1 w1.heap.size (t' + 1 + j)) w6 (t' + 1 + (K.take j).length) 63 (.slice A5 L c5) r.l := by rw [HL.out]; exact V6.out
   have V7 := HRS6.out.app (r := r) HXS.out HEL.out ho7' hg7 ht7 hvs6
   rw [show K.take j ++ [r] = K.take (j + 1) by rw [HR.out, List.take_append_getElem]] at V7
   have B7 := Lib.hid (C6.out.1.grown hg7 C6.out.1.size (fun k e => (ZO.out k e).1))
   have HV7 := Lib.hid V7
   have HT7 := Lib.hid (show ∀ k, k < w.heap.size → zH (zH T1 w1.heap.size (t' + 1 + j)) w6.heap.size t' k = T k from fun k hk => by
    rw [zJ (by have := B6.out.size; omega), zJ (by omega)]; exact HTG.out k hk)
   have hs7 := hg7.size
   have HM7 := Lib.hid (show ∀ k, zH (zH T1 w1.heap.size (t' + 1 + j)) w6.heap.size t' k = T k ∨ Hk t' (zH (zH T1 w1.heap.size (t' + 1 + j)) w6.heap.size t' k) from fun k => by
    by_cases hk : k < w6.heap.size
    ·rw [zJ hk]
     by_cases hk1 : k < w1.heap.size
     ·rw [zJ hk1]; exact HMK.out k
     ·rw [zN (by omega)]; exact .inr ⟨by omega, by omega⟩
    ·rw [zN (by omega)]; exact .inr ⟨by omega, by omega⟩)
   have rX7 : row w7 X = some cx := by rw [yX (hg7.block X (zK C6.out.2) (fun e => by have := (ZO.out X e.symm).2.1; have := HX.out; omega))]; exact C6.out.2
   refine yD (C := ClX w X cx) [] ((Frm.app hg7).more (fun k hk => by simp; right; simpa using hk)) hot_none ⟨B7.out, rX7⟩ ClX.alloc ?_
   clear ho7 ho7' hg7 ht7 hvs6 R6 hrow6 HXS HEL HRS6 hxs V7 V6
   have hne : Nonempty (In (ClX w X cx)) := ⟨⟨w6, C6.out⟩⟩
   refine wpM_q ?_
   simp only [pk, List.getElem?_cons_zero, List.getElem?_cons_succ]
   repeat (go_big_quiet_step (fail))
   refine wpQuiet_nil ?_
   clear hne
   refine wpM_nil (fun y => ?_)
   have HV8 := Lib.hid (HV7.out.fr (Fr.same (H := fun _ => False) y.below) (fun _ _ _ e => e))
   have HB8 := Lib.hid (onto B7.out B7.out.size y.below)
   go_wp2_with fail
   go_roundw
   case rel => exact ⟨j + 1, _, by omega, by go_num, HV8.out, HT7.out, HM7.out, HB8.out⟩
   case measure => simp [intOf]; omega
  ·obtain rfl : j = n := by omega
   have HRS' := HRS.out
   rw [List.take_of_length_le (by rw [← HN.out]; exact Nat.le_refl _)] at HRS'
   have HQ := Lib.hid HRS'
   clear HRS' HRS hrs
   go_wp2_with fail
   go_ret
   exact ⟨_, T1, rfl, HQ.out, ⟨HB.out, HTG.out, HMK.out⟩⟩
open Go.Maps
theorem ta_i : (Tryz.prog.info? 81).map (·.size) = some 2 := by kernel_rfl
@[go_sem ↓] theorem ta_l (p : Value) : Instr.loadAt 81 p = ldA 81 p := rfl
@[go_sem] theorem ta_ld (w : World) (b o : Nat) : (ldA 81 (.pointer (some ⟨b, o, none⟩))).run Tryz.prog w = ldR Tryz.prog 81 2 w b o (row w b) := ld_rowS _ _ Tryz.underlying81 rfl 2 ta_i w b o
@[go_sem] theorem ta_ldx (P : Program) (t : Nat) (w : World) (b : Nat) (x0 x1 : Value) : ldR P t 2 w b 0 (some #[x0, x1]) = .ok (.agg #[x0, x1]) w := ldR_whole P t 2 w b _ rfl
@[go_sem] theorem sc_ld (w : World) (b o : Nat) : (ldA 68 (.pointer (some ⟨b, o, none⟩))).run Tryz.prog w = ldR Tryz.prog 68 65 w b o (row w b) := ld_rowS _ _ Tryz.underlying68 rfl 65 src_i w b o
def stL0 : List Value := List.replicate 64 (.int .u8 0) ++ (.int .i64 0 :: (ksL0 ++ [.map none, .int .i64 0]))
@[irreducible] def stZ : Array Value := stL0.toArray
theorem st_z : (Tryz.prog.info? 85).map (·.zero) = some (some (.agg stZ)) := by unfold stZ; kernel_rfl
theorem stZ_flt : stZ = flt [(List.replicate 64 (Value.int .u8 0) ++ [Value.int .i64 0]).toArray, ksZ, #[.map none, .int .i64 0]] := by
 unfold stZ stL0 flt ksZ
 apply Array.ext'
 simp [List.flatMap_cons]
theorem st_flt (d : St) (n : Int) (ks : Array Value) (mv : Option Nat) (g : Int) : flt [srcC #[] d.1 d.2 n, ks, #[.map mv, .int .i64 g]] = stC d n ks mv g := by
 unfold stC srcC mtC flt
 apply Array.ext'
 simp [List.flatMap_cons, List.append_assoc]
@[go_sem ↓] theorem st_bd (yF : Array (Nat × Value)) : Instr.build 85 yF = bdA 85 yF := rfl
theorem st_b3 (d : St) (n : Int) (ks : Array Value) (mv : Option Nat) (g : Int) (hk : ks.size = 1105) (w : World) :
  (bdA 85 #[(0, .agg (srcC #[] d.1 d.2 n)), (1, .agg ks), (2, .agg #[.map mv, .int .i64 g])]).run Tryz.prog w = .ok (.agg (stC d n ks mv g)) w := by
 refine run_lit _ _ _ _ [(0, 65), (65, 1105), (1170, 2)] st_z (by kernel_rfl) ?_ w
 rw [stZ_flt, ← st_flt]
 have z1 : ((List.replicate 64 (Value.int .u8 0) ++ [Value.int .i64 0]).toArray).size = 65 := by simp
 exact (fill_flt (pre := []) (o := 0) (m := 65) rfl rfl z1.symm (by rw [z1]; exact src_size _ _ _ _)).trans
  ((fill_flt (pre := [srcC #[] d.1 d.2 n]) (o := 65) (m := 1105) rfl (by simp [szs, src_size]) ksZ_size.symm (by rw [ksZ_size]; exact hk)).trans
  (fill_flt (pre := [srcC #[] d.1 d.2 n, ks]) (o := 1170) (m := 2) rfl (by simp [szs, src_size, hk]) rfl rfl))
theorem StAt.made {T : Mk} {w : World} {t : Nat} {x : Sx} {ks : Array Value} {mv : Option Nat} (ht : 0 < t) (hk : KsC 0 ksZ ks x.K) (hm : MpV T w (t + 1) mv x.l) (ok : SxOk x) (ty : TypeId) :
  StAt (zH T w.heap.size t) (w.alloc (.cells (stC x.d x.n ks mv x.g) ty)) t w.heap.size x := by
 have b := (Below.refl w.heap.size w).alloc (Nat.le_refl _) (.cells (stC x.d x.n ks mv x.g) ty)
 exact ⟨zN (Nat.le_refl _), ⟨ks, mv, zA _ _ _ _ rfl, hk, hm.fr (Fr.new (H := fun _ => False) b t) (fun h => h) (fun h => h)⟩, ok⟩
theorem pnew16_any (T : Mk) (t : Nat) (a : Bf) (n cc : Nat) (A : Option Addr) (w : World) (htab : Tab w) (hs : Sl w w.heap.size A n cc a) (hn : n ≤ 140737488354000) (ht : 0 < t) :
  Calls Tryz.prog 11 #[.slice A n cc] w fun e w' => ∃ B, e = .returned (.pointer (some ⟨B, 0, none⟩)) ∧ StAt (zH T w.heap.size t) w' t B (st0 a n) ∧ Below w.heap.size w w' := by
 have HT := Lib.hid htab
 have HS := Lib.hid hs
 clear htab hs
 go_enter Tryz.func11, Tryz.ntmps11
 go_wp2_with fail
 refine yL [([0], 1, false), ([2, 3], 4, false), ([5, 6], 7, false), ([8, 9, 10], 11, true)] [12] (by kernel_rfl) (by kernel_rfl) (fun _ _ _ _ _ h => h) fun X => ?_
 have B1 := Lib.hid X.below
 have H1 := Lib.hid (dnew_any a n cc A X.val (HT.out.below X.below HT.out.pos) ((HS.out.below X.below).more X.below.size) hn)
 obtain ⟨w1, hw1⟩ : ∃ w1, w1 = X.val := ⟨_, rfl⟩
 rw [← hw1] at B1 H1 ⊢
 clear hw1 X HT HS
 simp only [wpFs, pk, List.getElem?_cons_zero, List.getElem?_cons_succ]
 repeat (go_big_quiet_step (fail))
 refine wpQuiet_nil ?_
 go_wp2_with fail
 refine H1.out.mono ?_
 rintro e w2 ⟨g, rfl, hg, hrg, hb2⟩
 have R2 := Lib.hid hrg
 have B2 := Lib.hid (onto B1.out B1.out.size hb2)
 have H2' := Lib.hid (wnew_any w2)
 go_wp2_with fail
 refine ⟨.inr hb2, ?_⟩
 clear hrg hb2 H1 B1
 have k1 := After.row R2.out
 show wpQuiet _ _ _ _ _ _
 repeat (go_big_quiet_step (fail))
 refine wpQuiet_nil ?_
 clear k1
 go_wp2_with fail
 refine H2'.out.mono ?_
 rintro e w3 ⟨Bk, rfl, hkp, hBk, hb3⟩
 obtain ⟨ck, hrk, hck⟩ := hkp.at_
 have RK := Lib.hid hrk
 have HCK := Lib.hid hck
 have hcs : ck.size = 1105 := ks_size hck
 have B3 := Lib.hid (onto B2.out B2.out.size hb3)
 have H3 := Lib.hid (snew_any T t w3)
 go_wp2_with fail
 refine ⟨.inr hb3, ?_⟩
 have hld : ∀ x : World, ldR Tryz.prog 76 1105 x Bk 0 (some ck) = .ok (.agg ck) x := fun x => ldR_whole _ _ _ _ _ _ hcs.symm
 clear hkp hrk hck hb3 H2' B2 R2
 have k1 := After.row RK.out
 show wpQuiet _ _ _ _ _ _
 repeat (go_big_quiet_step (fail))
 refine wpQuiet_nil ?_
 clear k1 hld
 go_wp2_with fail
 refine H3.out.mono ?_
 rintro e w4 ⟨Bt, rfl, hpt, hb4⟩
 have rT := hpt.row
 rw [mtC_nil] at rT
 have B4 := Lib.hid (onto B3.out B3.out.size hb4)
 have RT := Lib.hid rT
 go_wp2_with fail
 refine ⟨.inr hb4, ?_⟩
 clear hpt hb4 H3 B3 RK rT
 have bd3 := fun w => st_b3 (updS newS a n) 1 ck none 0 hcs w
 have k1 := After.row RT.out
 show wpQuiet _ _ _ _ _ _
 repeat (go_big_quiet_step (fail))
 refine wpQuiet_nil ?_
 clear k1 bd3
 go_wp2_with fail
 have hM := StAt.made (T := zH T w.heap.size t) (w := w4) (t := t) (x := st0 a n) (ks := ck) (mv := none) ht HCK.out (.inl ⟨rfl, rfl⟩) (st0_ok a n) 85
 have b5 := (Below.refl w4.heap.size w4).alloc (Nat.le_refl _) (.cells (stC (updS newS a n) 1 ck none 0) 85)
 have e5 : zH (zH T w.heap.size t) w4.heap.size t = zH T w.heap.size t := by
  funext k
  unfold zH
  split
  ·rfl
  ·rw [if_neg (by have := B4.out.size; omega)]
 rw [e5] at hM
 refine ⟨.inl trivial, ?_⟩
 show wpQuiet _ _ _ _ _ _
 repeat (go_big_quiet_step (fail))
 refine wpQuiet_nil ?_
 go_wp2_with fail
 go_ret
 exact ⟨_, rfl, hM, onto B4.out B4.out.size b5⟩
theorem prings16_any (T : Mk) (t t' B : Nat) (x : Sx) (w : World) (hS : StAt T w t B x) (hfr : ∀ k, k < w.heap.size → ¬ Hk t' (T k)) :
  Calls Tryz.prog 27 #[.pointer (some ⟨B, 0, none⟩)] w fun e w' => ∃ v T', e = .returned v ∧ RsAt T' w' t' 59 63 v x.K ∧ Nk T T' t' w w' := by
 obtain ⟨R, hk, -⟩ := hS.keys
 have H1 := Lib.hid (prs_any T t t' B x.K w (hk.mk' hS.tg) hfr)
 clear hS hk hfr
 go_enter Tryz.func27, Tryz.ntmps27
 go_wp2_with fail
 refine H1.out.mono ?_
 rintro e w1 ⟨v, T', rfl, hr, hn⟩
 go_wp2_with fail
 go_ret
 exact ⟨v, T', rfl, hr, hn⟩
section
variable {W : Nat} {l l' l2 : By} {w w' w2 : World}
end
theorem key_sl_at (B o : Nat) (w : World) : (Instr.sliceAt 61 (.pointer (some ⟨B, o, none⟩)) none none none).run Tryz.prog w = .ok (.slice (some ⟨B, o, none⟩) 32 32) w := by
 rw [run_sliceAt_array_all w 61 ⟨B, o, none⟩ (by kernel_rfl), show Tryz.prog.elem 61 = 5 by kernel_rfl, u8_size, show Tryz.prog.arrayLen 61 = 32 by kernel_rfl, Result.andThen_ok]
 rfl
theorem MpV.re {T T2 : Mk} {w : World} {t t2 : Nat} {mv : Option Nat} {l : List Se} (h : MpV T w t mv l) (h1 : ∀ j, T j = t → T2 j = t2) (h0 : ∀ j, T j = 0 → T2 j = 0) : MpV T2 w t2 mv l := by
 rcases h with h | ⟨M, rfl, hT, hM⟩
 ·exact .inl h
 ·exact .inr ⟨M, rfl, h1 _ hT, hM.re h0⟩
theorem StAt.re {T T2 : Mk} {w : World} {t t2 B : Nat} {x : Sx} (h : StAt T w t B x) (h1 : ∀ j, T j = t → T2 j = t2) (h2 : ∀ j, T j = t + 1 → T2 j = t2 + 1) (h0 : ∀ j, T j = 0 → T2 j = 0) : StAt T2 w t2 B x := by
 obtain ⟨ks, mv, hr, hk, hm⟩ := h.at_
 exact ⟨h1 _ h.tg, ⟨ks, mv, hr, hk, hm.re h2 h0⟩, h.ok⟩
def only (T : Mk) (t : Nat) : Mk := fun k => if T k = t then 1 else if T k = t + 1 then 2 else 0
theorem only_le (T : Mk) (t k : Nat) : only T t k ≤ 2 := by unfold only; split <;> (try split) <;> omega
theorem StAt.only {T : Mk} {w : World} {t B : Nat} {x : Sx} (h : StAt T w t B x) (ht : 0 < t) : StAt (only T t) w 1 B x :=
 h.re (fun j e => by unfold Oct.only; rw [if_pos e]) (fun j e => by unfold Oct.only; rw [if_neg (by omega), if_pos e]) fun j e => by unfold Oct.only; rw [if_neg (by omega), if_neg (by omega)]
theorem few16_any (A : Option Addr) (n c : Nat) (h : n ≤ c) (hc : c ≤ maxLen) (w : World) :
  Calls Tryz.prog 12 #[.slice A n c] w fun e w' => e = .returned (.slice A (min n 100) c) ∧ w = w' := by
 unfold maxLen at hc
 by_cases hlt : 100 < n
 ·have hd : decide ((100 : Int) < (n : Int)) = true := by simp; omega
  have hup := run_upto (P := Tryz.prog) zZ u8_i A n c 100 (by omega)
  rw [show min n 100 = 100 by omega]
  go_enter Tryz.func12, Tryz.ntmps12
  go_wp2
  go_ret
  exact ⟨rfl, rfl⟩
 ·have hd : decide ((100 : Int) < (n : Int)) = false := by simp; omega
  rw [show min n 100 = n by omega]
  go_enter Tryz.func12, Tryz.ntmps12
  go_wp2
  go_ret
  exact ⟨rfl, rfl⟩
structure SxB (k : Nat) (x : Sx) : Prop where
 ok : SxOk x
 sd : ∀ s ∈ x.l, SdOk s
 n : x.n ≤ (k : Int)
theorem SxB.ap {k : Nat} {x : Sx} (h : SxB k x) (c : Cm) : SxB (k + 1) (apX x c) := ⟨apX_ok h.ok, apX_sd h.ok h.sd, by have := apX_n (c := c) h.ok.c; have := h.n; omega⟩
theorem SxB.new (f : Bf) (n : Nat) : SxB 1 (st0 f n) := ⟨st0_ok f n, st0_sd f n, Int.le_refl 1⟩
abbrev Kp := Mk → World → Prop
def Stb (S : Nat → Prop) (K : Kp) : Prop := ∀ (T T' : Mk) (H : Nat → Prop) (w w' : World), K T w → Fr T T' H w w' → (∀ c, H c → S c) → K T' w'
section
variable {S S' : Nat → Prop} {K K' : Kp}
theorem Stb.triv : Stb S fun _ _ => True := fun _ _ _ _ _ _ _ _ => trivial
theorem Stb.and (h : Stb S K) (h' : Stb S K') : Stb S fun T w => K T w ∧ K' T w := fun T T' H w w' k f hH => ⟨h T T' H w w' k.1 f hH, h' T T' H w w' k.2 f hH⟩
theorem Stb.less (h : Stb S K) (hs : ∀ c, S' c → S c) : Stb S' K := fun T T' H w w' k f hH => h T T' H w w' k f fun c hc => hs c (hH c hc)
theorem Stb.rd {t : Nat} {A : Option Addr} {n c : Nat} {f : Bf} (ht : ¬ S t) : Stb S fun T w => RdS T w t A n c f := fun T T' H w w' k fr hH => k.fr fr fun h => ht (hH _ h)
theorem Stb.row {t b : Nat} {c : Array Value} (ht : ¬ S t) : Stb S fun T w => Oct.row w b = some c ∧ T b = t := fun T T' H w w' k f hH => ⟨f.rowAt k.1 fun h => ht (by rw [← k.2]; exact hH _ h), by rw [f.tag b (zK k.1)]; exact k.2⟩
theorem Stb.st {t B : Nat} {x : Sx} (h0 : ¬ S 0) (h1 : ¬ S t) (h2 : ¬ S (t + 1)) : Stb S fun T w => StAt T w t B x := fun T T' H w w' k f hH => k.fr f (fun h => h1 (hH _ h)) (fun h => h2 (hH _ h)) (fun h => h0 (hH _ h))
end
def LS (K : Kp) (W w : World) : Prop := ∃ T, Fr (fun _ => 0) T (fun c => c ≠ 0) W w ∧ K T w
section
variable {S : Nat → Prop} {K K' : Kp} {W w w' : World} {t B : Nat} {x : Sx}
theorem LS.bel (h : LS K W w) : Below W.heap.size W w := by obtain ⟨T, hf, -⟩ := h; exact hf.below (Nat.le_refl _) fun k _ h => h rfl
theorem LS.mono (h : LS K W w) (hk : ∀ T, K T w → K' T w) : LS K' W w := by obtain ⟨T, hf, k⟩ := h; exact ⟨T, hf, hk T k⟩
theorem LS.fact (h : LS K W w) : ∃ T, K T w := by obtain ⟨T, hf, k⟩ := h; exact ⟨T, k⟩
theorem LS.init (W : World) (hk : K (fun _ => 0) W) : LS K W W := ⟨_, Fr.refl _ _ _, hk⟩
theorem LS.add (h : LS K W w) (hK : Stb (fun _ => False) K) (hb : Below w.heap.size w w') (t : Nat) (hk : ∀ T, K' (zH T w.heap.size t) w') : LS (fun T w => K T w ∧ K' T w) W w' := by
 obtain ⟨T, hf, k⟩ := h
 exact ⟨_, hf.trans (Fr.new hb t), hK _ _ _ _ _ k (Fr.new (H := fun _ => False) hb t) (fun _ h => h), hk T⟩
theorem LS.calm (h : LS K W w) (hK : Stb (fun _ => False) K) (hb : Below w.heap.size w w') : LS K W w' := (h.add hK hb 0 (K' := fun _ _ => True) fun _ => trivial).mono fun _ h => h.1
theorem LS.tab (h : LS K W w) (ht : Tab W) : Tab w := ht.below h.bel ht.pos
theorem Stb.calm (h : Stb S K) : Stb (fun _ => False) K := h.less fun _ h => h.elim
theorem LS.sl (h : LS K W w) {A : Option Addr} {n c : Nat} {f : Bf} (hs : Sl W W.heap.size A n c f) : LS (fun T w => K T w ∧ RdS T w 0 A n c f) W w := by
 obtain ⟨T, hf, k⟩ := h
 exact ⟨T, hf, k, (RdS.of_sl hs (Nat.le_refl _) (fun _ _ => rfl) : RdS (fun _ => 0) W 0 A n c f).fr hf fun h => h rfl⟩
theorem ls_new (h : LS K W w) (hK : Stb (fun _ => False) K) (htab : Tab W) (ht : 0 < t) {A : Option Addr} {n cc : Nat} {f : Bf} (hs : ∀ T, K T w → RdS T w 0 A n cc f) (hn : n ≤ 140737488354000) :
  Calls Tryz.prog 11 #[.slice A n cc] w fun e w' => ∃ B, e = .returned (.pointer (some ⟨B, 0, none⟩)) ∧ LS (fun T w => K T w ∧ StAt T w t B (st0 f n)) W w' ∧ Below w.heap.size w w' := by
 obtain ⟨T, hf, k⟩ := h
 refine (pnew16_any T t f n cc A w (LS.tab ⟨T, hf, k⟩ htab) (hs T k).sl hn ht).mono ?_
 rintro e w' ⟨B, rfl, hst, hb⟩
 exact ⟨B, rfl, ⟨_, hf.trans (Fr.new hb t), hK _ _ _ _ _ k (Fr.new (H := fun _ => False) hb t) (fun _ h => h), hst⟩, hb⟩
theorem yY (h : LS (fun T w => StAt T w t B x ∧ K T w) W w) (hK : Stb (H2 t) K) (htab : Tab W) (ht : 0 < t) (c : Cm) {tc : Nat} {A A' : Option Addr} {a a' : Nat} (hc : ∀ T, K T w → CmR T w tc c A a A' a') (htc : off3 t tc) (hn : x.n ≤ 1048576) :
  Calls Tryz.prog 15 #[.pointer (some ⟨B, 0, none⟩), cmV c A a A' a'] w fun e w' => ∃ A k, e = .returned (rpV (apR x c) A k) ∧ LS (fun T w => StAt T w t B (apX x c) ∧ K T w ∧ RdS T w 0 A (apR x c).T k (apR x c).f) W w' ∧ w.heap.size ≤ w'.heap.size := by
 obtain ⟨T, hf, hst, k⟩ := h
 have hb : Below W.heap.size W w := hf.below (Nat.le_refl _) fun k _ h => h rfl
 have h0 : T 0 = 0 := hf.tag 0 htab.pos
 refine (papply_any T t B tc x c A A' a a' w ⟨hst, ht, htab.below hb htab.pos, by rw [h0]; exact .inl ht, hc T k, htc, hn⟩).mono ?_
 rintro e w' ⟨T', hf', hst', A2, k2, rfl, hrd⟩
 exact ⟨A2, k2, rfl, ⟨T', hf.trans (hf'.mono fun c hc => by unfold H2 at hc; omega), hst', hK _ _ _ _ _ k hf' fun _ h => h, hrd⟩, hf'.size⟩
end
end Go.Proofs.YteffjpdcghlnlaaGreatDoor.Oct
