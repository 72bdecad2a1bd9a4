import Derived.Test.YteffjpdcghlnlaaGreatDoorZbKpAll
import Derived.Test.YteffjpdcghlnlaaGreatDoorZbKrAll
import Derived.WalkSpells
import Derived.Test.YteffjpdcghlnlaaGreatDoorZbStB1
import Derived.Test.YteffjpdcghlnlaaGreatDoorZbStX
import Derived.Test.YteffjpdcghlnlaaGreatDoorZbSsU
set_option linter.unusedVariables false
set_option linter.unusedSimpArgs false
set_option maxHeartbeats 8000000
set_option maxRecDepth 20000
namespace Go.Proofs.YteffjpdcghlnlaaGreatDoor.Oct
open Go.ChangeShapes Go.WideShapes Go.ChangeAt Go.RowKit
variable {ko : Nat} {kR : Array Value}
theorem hld_len : Tryz.prog.arrayLen 74 = 8 := by kernel_rfl
theorem hld_elem : Tryz.prog.elem 74 = 73 := by kernel_rfl
theorem vsa_len : Tryz.prog.arrayLen 71 = 4 := by kernel_rfl
theorem vsa_elem : Tryz.prog.elem 71 = 63 := by kernel_rfl
theorem size_of {P : Program} {t m : Nat} (h : (P.info? t).map (·.size) = some m) (w : World) : (sizeOf t).run P w = .ok m w := by
 cases hq : P.info? t with
 | none => rw [hq] at h; cases h
 | some i =>
  rw [hq] at h
  have h0 : i.size = m := Option.some.inj h
  simp [sizeOf, typeInfo, hq, h0]
theorem hld_slh (B m : Nat) (hm : m ≤ 8) (w : World) : (Instr.sliceAt 74 (.pointer (some ⟨B, ko, none⟩)) none (some (.int .i64 (m : Int))) none).run Tryz.prog w = .ok (.slice (some ⟨B, ko, none⟩) m 8) w := by
 rw [run_sliceAt_array_h w 74 ⟨B, ko, none⟩ (by kernel_rfl) .i64 _ (by omega) (by rw [hld_len]; omega), hld_elem, size_of kr_i, hld_len, Result.andThen_ok]
 unfold slicedAt
 rw [if_neg (by omega), Int.toNat_natCast]
 rfl
theorem vsa_slh (B m : Nat) (hm : m ≤ 4) (w : World) : (Instr.sliceAt 71 (.pointer (some ⟨B, 1, none⟩)) none (some (.int .i64 (m : Int))) none).run Tryz.prog w = .ok (.slice (some ⟨B, 1, none⟩) m 4) w := by
 rw [run_sliceAt_array_h w 71 ⟨B, 1, none⟩ (by kernel_rfl) .i64 _ (by omega) (by rw [vsa_len]; omega), vsa_elem, size_of ver_i, vsa_len, Result.andThen_ok]
 unfold slicedAt
 rw [if_neg (by omega), Int.toNat_natCast]
 rfl
theorem vsa_sla (B : Nat) (w : World) : (Instr.sliceAt 71 (.pointer (some ⟨B, 1, none⟩)) none none none).run Tryz.prog w = .ok (.slice (some ⟨B, 1, none⟩) 4 4) w := by
 rw [run_sliceAt_array_all w 71 ⟨B, 1, none⟩ (by kernel_rfl), vsa_elem, size_of ver_i, vsa_len, Result.andThen_ok]
 rfl
theorem pcv_any (g o c : Nat) (l : List Ve) (w : World) (hs : VRd w (.slice (some ⟨g, o, none⟩) l.length c) l) (hl : l.length ≤ 1000) :
  Calls Tryz.prog 129 #[.slice (some ⟨g, o, none⟩) l.length c] w fun e w' => ∃ A' c', e = .returned (.slice A' l.length c') ∧ w'.ownsRow 0 63 34 (.slice A' l.length c') l.length (vsC l) ∧ (∀ k, (Value.slice A' l.length c').ownBlock = some k → w.heap.size ≤ k) ∧ Below w.heap.size w w' := by
 have HS := Lib.hid hs
 obtain ⟨n, hn⟩ : ∃ n, n = l.length := ⟨_, rfl⟩
 have HN := Lib.hid hn
 rw [← hn] at hl ⊢
 obtain ⟨w1, hw1⟩ : ∃ w1, w1 = w.alloc (.cells #[] 63) := ⟨_, rfl⟩
 have b1 : Below w.heap.size w w1 := by rw [hw1]; exact (Below.refl w.heap.size w).alloc (by simp) _
 have o1 : w1.ownsRow 0 63 34 (.slice (some ⟨w.heap.size, 0, none⟩) 0 0) 0 [] := by rw [hw1]; exact World.ownsRow_made w #[] 0 (Nat.zero_le _) (Nat.zero_le _) rfl
 have h1 := HS.out.below b1
 rw [← hn] at h1
 have HW1 := Lib.hid hw1
 have B1 := Lib.hid b1
 have hw : w.heap.size < w1.heap.size := by rw [hw1]; simp
 clear hs hn b1 hw1
 have qT := fun (w : World) (n c : Nat) => Lib.run_eql_slice_nil (P := Tryz.prog) w 57 63 (some ⟨g, o, none⟩) n c 0 0 vers_u
 go_enter Tryz.func129, Tryz.ntmps129
 go_wp2_with (rw [← HW1.out]; refine wpl_appRd rfl (.tmp 5) (.tmp 6) rfl vers_u ver_info (veA_size _) (by decide) o1 h1 (by rw [← HN.out]; omega) rfl rfl ?_; intro v4 w4 ho4 hg4 ht4)
 go_ret
 have hf : Below w.heap.size w w4 := B1.out.grown hg4 B1.out.size (fun k e => by cases e; exact Nat.le_refl _)
 have htg : ∀ k, v4.ownBlock = some k → w.heap.size ≤ k := fun k hk => by
  rcases ht4 with e | e <;> rw [e] at hk <;> cases hk
  ·exact Nat.le_refl _
  ·exact B1.out.size
 have V4 : ∀ (T : Mk) t, VsAt (paint T w.heap.size t) w4 t 63 v4 l := fun T t => ⟨ho4, fun k hk => zP (htg k hk)⟩
 obtain ⟨A5, c5, hv5, -⟩ := (V4 (fun _ => 0) 0).form
 subst hv5
 rw [HN.out]
 exact ⟨A5, c5, rfl, ho4, htg, hf⟩
def kyX (c : Array Value) (q : Nat) : Array Value := c.extract q (q + 138)
theorem kyX_size {c : Array Value} {q : Nat} (h : q + 138 ≤ c.size) : (kyX c q).size = 138 := by unfold kyX; rw [Array.size_extract]; omega
theorem kyX_ones {c : Array Value} {q : Nat} (h : Ones c) : Ones (kyX c q) := by
 unfold Ones kyX at *
 rw [Array.all_eq_true] at *
 intro j hj
 rw [Array.size_extract] at hj
 rw [Array.getElem_extract]
 exact h _ (by omega)
theorem kyX_key {c : Array Value} {q : Nat} {r : Rg} (h : KyC c q r) (hs : q + 138 ≤ c.size) : KyC (kyX c q) 0 r :=
 h.eq fun j hj => by unfold kyX; rw [Array.getElem?_extract, if_pos (by omega), Nat.zero_add]
theorem KyC.rd {c : Array Value} {r : Rg} {w : World} {X cap : Nat} (h : KyC c 0 r) (hr : row w X = some c) (hc : 4 ≤ cap) (hm : cap ≤ 100) : VRd w (.slice (some ⟨X, 1, none⟩) r.l.length cap) r.l :=
 ⟨_, _, rfl, by have := h.few; omega, by unfold maxLen; omega, (fun e => by cases e), fun _ => ⟨X, 1, rfl, zL hr, fun i j hi hj => by rw [zG hr, ← h.ver i hi j hj, Nat.zero_add]⟩⟩
def ClX (w : World) (X : Nat) (cx : Array Value) (y : World) : Prop := Below w.heap.size w y ∧ row y X = some cx
theorem ClX.alloc {w : World} {X : Nat} {cx : Array Value} : ∀ (y : World) (z : Obj), ClX w X cx y → ClX w X cx (y.alloc z) := fun y z h => ⟨h.1.alloc h.1.size z, zK h.2 z⟩
theorem prs_any (T : Mk) (t t' B : Nat) (K : Ks) (w : World) (h : KpAt T w t B ko kR K) (hfr : ∀ k, k < w.heap.size → ¬ Hk t' (T k)) :
  Calls Tryz.prog 71 #[.pointer (some ⟨B, ko, none⟩)] w fun e w' => ∃ v T', e = .returned v ∧ RsAt T' w' t' 59 63 v K ∧ Nk T T' t' w w' := by
 obtain ⟨cb, hrow, hks⟩ := h.at_
 have h8 := h.ok.1
 have HKS := Lib.hid hks
 have HROW := Lib.hid hrow
 have HFR := Lib.hid hfr
 have HOK := Lib.hid h.ok
 obtain ⟨n, hn⟩ : ∃ n, n = K.length := ⟨_, rfl⟩
 have HN := Lib.hid hn
 have k1 : ∀ x : After w, x.val.cell? ⟨B, ko + 1104, none⟩ = some (.int .i64 (n : Int)) := fun x => by rw [hn]; exact hks.cell B (zE x.below hrow)
 rw [← hn] at h8
 have hsl := hld_slh (ko := ko) B n h8
 clear h hks hrow hn hfr
 go_enter Tryz.func71, Tryz.ntmps71
 go_wp2_with fail
 refine xG (by kernel_rfl) (by kernel_rfl) ?_
 repeat (go_big_quiet_step (fail))
 refine wpQuiet_nil ?_
 rintro _ ⟨x, rfl⟩
 obtain ⟨w0, hw0⟩ : ∃ wx, wx = x.val := ⟨_, rfl⟩
 have B0 := Lib.hid x.below
 rw [← hw0] at B0 ⊢
 clear hw0 k1 x
 go_wp2_with fail
 go_loopw [3, 15] (fun ov iv wr => ∃ (j : Nat) (T' : Mk), j ≤ n ∧ iv = .int .i64 j ∧ RsAt T' wr t' 59 63 ov (K.take j) ∧ (∀ k, k < w.heap.size → T' k = T k) ∧ (∀ k, T' k = T k ∨ Hk t' (T' k)) ∧ Below w.heap.size w wr) (fun _ iv _ => n - (intOf iv).toNat)
 case atStart => exact ⟨0, T, by omega, rfl, RsAt.nil, fun _ _ => rfl, fun _ => .inl rfl, B0.out⟩
 case round =>
  obtain ⟨j, T1, hj, rfl, hrs, htg, hmk, hb⟩ := hrel
  have HMK := Lib.hid hmk
  clear hmk
  obtain ⟨w1, rfl⟩ : ∃ w1 : World, w1 = wr := ⟨_, rfl⟩
  have HRS := Lib.hid hrs
  have HTG := Lib.hid htg
  have HB := Lib.hid hb
  by_cases hlt : j < n
  ·have hjK : j < K.length := by have := HN.out; omega
   have hlen : (K.take j).length = j := by rw [List.length_take]; omega
   have hsz : ko + j * 138 + 138 ≤ cb.size := by have := HKS.out.fitc; omega
   obtain ⟨r, hr⟩ : ∃ r, r = K[j] := ⟨_, rfl⟩
   have hky := HKS.out.key j (by omega)
   rw [rgI_lt hjK, ← hr] at hky
   have hkx := kyX_key hky hsz
   have hsx := kyX_size hsz
   have hox := kyX_ones (q := ko + j * 138) HKS.out.ones
   obtain ⟨cx, hcx⟩ : ∃ cx, cx = kyX cb (ko + j * 138) := ⟨_, rfl⟩
   rw [← hcx] at hkx hsx hox
   have hld : ∀ x : World, ldR Tryz.prog 73 138 x B (ko + j * 138) (some cb) = .ok (.agg cx) x := fun x => by
    unfold ldR
    simp only [if_pos hsz]
    rw [hcx]
    rfl
   have hst : ∀ (x : World) (X : Nat), stR Tryz.prog 73 138 x X 0 (.agg cx) (some kyZ) = .ok () (x.setRow X cx) := fun x X => stR_whole _ _ _ _ _ _ _ kyZ_size.symm (by rw [hsx, kyZ_size]) hox
   have rB := zE hb HROW.out
   obtain ⟨Ao, co, rfl, hleo, hmo, -⟩ := hrs.form
   rw [hlen] at HRS ⊢
   have HL := Lib.hid hlen
   have HR := Lib.hid hr
   have HKX := Lib.hid hkx
   obtain ⟨L, hL⟩ : ∃ L, L = r.l.length := ⟨_, rfl⟩
   have hL4 : L ≤ 4 := by rw [hL]; exact hkx.few
   have HLL := Lib.hid hL
   obtain ⟨w2, hw2⟩ : ∃ w2, w2 = w1.alloc (.cells cx 73) := ⟨_, rfl⟩
   have b2 : Below w1.heap.size w1 w2 := by rw [hw2]; exact (Below.refl _ _).alloc (Nat.le_refl _) _
   have rX : row w2 w1.heap.size = some cx := by rw [hw2]; exact zA _ _ _ _ rfl
   have HW2 := Lib.hid hw2
   have B2 := Lib.hid b2
   have RX := Lib.hid rX
   clear hrs htg hb hlen hr hky hkx hsx hox hcx hL hw2 b2 rX
   have zO : ∀ k, (Value.slice Ao j co).ownBlock = some k → w.heap.size ≤ k ∧ k < w1.heap.size ∧ T1 k = t' := fun k hk => by
    obtain ⟨ys, hys, -⟩ := HRS.out.own
    rw [HL.out] at hys
    refine ⟨?_, (World.ownsRow.lt hys k hk).2, HRS.out.tg k hk⟩
    rcases Nat.lt_or_ge k w.heap.size with h | h
    ·exact absurd ⟨by rw [← HRS.out.tg k hk]; exact Nat.le_of_eq (HTG.out k h), by rw [← HTG.out k h, HRS.out.tg k hk]; omega⟩ (HFR.out k h)
    ·exact h
   have ZO := Lib.hid zO
   have zw := HB.out.size
   clear zO
   go_wp2_with fail
   rw [← HW2.out]
   obtain ⟨X, hX⟩ : ∃ X, X = w1.heap.size := ⟨_, rfl⟩
   rw [← hX] at RX ⊢
   have HX := Lib.hid hX
   have hsl4 := vsa_slh X L hL4
   have hXs : X < w2.heap.size := zL RX.out
   have hwX : w.heap.size ≤ X := by omega
   clear hld hst rB hX
   refine flow_many [.inl [0, 1, 2, 3, 4, 5, 6], pE 7, .inl [8], pS 9, pU 9, pE 10, .inl [11]] (ClX w X cx) (Value.slice Ao j co).ownBlock.toList (by kernel_rfl) (by kernel_rfl) (fun _ _ _ _ _ h => h) (fun _ _ _ _ _ h => h) ClX.alloc ⟨zQ (onto HB.out HB.out.size B2.out) 1, by rw [zS]; exact RX.out⟩ (fun k hk => by have h1 := (ZO.out k (by simpa using hk)).2.1; have h2 := B2.out.size; show k < w2.heap.size; omega) ?_
   have hne : Nonempty (In (ClX w X cx)) := ⟨⟨w2, onto HB.out HB.out.size B2.out, RX.out⟩⟩
   have B3 := Lib.hid (zQ (Below.refl w2.heap.size w2) 1)
   have r3 : row (w2.drewN 1) X = some cx := by rw [zS]; exact RX.out
   have z3 : (w2.drewN 1).heap.size = w2.heap.size := rfl
   obtain ⟨w3, hw3⟩ : ∃ w3, w3 = w2.drewN 1 := ⟨_, rfl⟩
   rw [← hw3] at B3 z3 r3 ⊢
   clear hw3
   have q1 : ∀ y : In (ClX w X cx), y.val.cell? ⟨X, 0, none⟩ = some (.bool r.off) := fun y => by rw [zG y.ok.2]; exact HKX.out.off
   have q2 : ∀ y : In (ClX w X cx), y.val.cell? ⟨X, 137, none⟩ = some (.int .i64 (L : Int)) := fun y => by rw [zG y.ok.2, HLL.out]; have := HKX.out.cnt; rw [Nat.zero_add] at this; exact this
   refine wpM_q ?_
   simp only [pk, List.getElem?_cons_zero, List.getElem?_cons_succ]
   repeat (go_big_quiet_step (fail))
   refine wpQuiet_nil ?_
   clear q1 q2
   refine wpM_e _ rfl (fun y2 hy2 => ?_)
   have hcv := pcv_any X 1 4 r.l y2.val (HKX.out.rd hy2.2 (by omega) (by omega)) (by rw [← HLL.out]; omega)
   rw [← HLL.out] at hcv
   have HCV := Lib.hid hcv
   have B4 := Lib.hid (onto (onto B2.out B2.out.size B3.out) (by have := B2.out.size; have := B3.out.size; omega) y2.below)
   have C4 := Lib.hid hy2
   obtain ⟨w4, hw4⟩ : ∃ w4, w4 = y2.val := ⟨_, rfl⟩
   rw [← hw4] at HCV B4 C4 ⊢
   clear hcv hw4 hy2 y2
   go_wp2_with fail
   refine HCV.out.mono ?_
   rintro e w5 ⟨A5, c5, rfl, ho5, htg5, hb5⟩
   have B5 := Lib.hid (onto B4.out B4.out.size hb5)
   have C5 := Lib.hid (show ClX w X cx w5 from ⟨onto C4.out.1 C4.out.1.size hb5, zE hb5 C4.out.2⟩)
   have V5 := Lib.hid (show VsAt (paint T1 w1.heap.size (t' + 1 + j)) w5 (t' + 1 + j) 63 (.slice A5 L c5) r.l from ⟨by rw [HLL.out] at ho5 ⊢; exact ho5, fun k hk => zP (by have := htg5 k hk; have := B4.out.size; omega)⟩)
   have F5 := Lib.hid (show Frm (Value.slice Ao j co).ownBlock.toList w4 w5 from Frm.of hb5)
   have hZ5 : ∀ k, (Value.slice Ao j co).ownBlock = some k → k < w5.heap.size := fun k hk => by have h1 := (ZO.out k hk).2.1; have h2 := B5.out.size; omega
   have HZ5 := Lib.hid hZ5
   clear hb5 ho5 htg5 HCV hZ5
   go_wp2_with fail
   refine same_class (C := ClX w X cx) (Value.slice Ao j co).ownBlock.toList F5.out (fun k hk => ⟨.inl hk, HZ5.out k (by simpa using hk)⟩) C5.out ClX.alloc ?_
   refine wpM_q ?_
   simp only [pk, List.getElem?_cons_zero, List.getElem?_cons_succ]
   repeat (go_big_quiet_step (fail))
   refine wpQuiet_nil ?_
   clear hne
   refine wpM_s (fun p' => .slice (some ⟨p', 0, none⟩) 1 1) (.cells (rgA r.off (.slice A5 L c5)) 59) _ rfl rfl (fun w => ex_rinK _ (.tmp 27) rfl _ _ _ _ rfl w) ?_
   refine wpM_u _ _ _ 28 (.head _) rfl rfl (fun y hy p2 hp21 hp22 hp23 hp24 => ?_)
   refine wpM_e _ rfl (fun y2 hy2 => ?_)
   have b46 := onto y.below y.below.size y2.below
   have B6 := Lib.hid (onto B5.out B5.out.size b46)
   have V6 := Lib.hid (V5.out.fr (Fr.same (H := fun _ => False) b46) (fun e => e))
   have R6 := Lib.hid (zE y2.below (row_of hp24))
   have C6 := Lib.hid hy2
   obtain ⟨w6, hw6⟩ : ∃ w6, w6 = y2.val := ⟨_, rfl⟩
   rw [← hw6] at B6 V6 R6 C6 ⊢
   clear hw6 hy2 hy hp23 hp24 hp22 b46 B5 V5 C5 C4 y2 y
   have hrs6 := HRS.out.fr (Fr.new (T := T1) (H := fun _ => False) B6.out (t' + 1 + j)) (fun _ _ _ e => e)
   have HRS6 := Lib.hid hrs6
   obtain ⟨xs, hxs, hel⟩ := hrs6.own
   have HEL := Lib.hid hel
   have HXS := Lib.hid hxs
   rw [HL.out] at hxs
   have hrow6 : row w6 p2 = some ([.bool r.off, .slice A5 L c5] : List Value).toArray := by rw [R6.out]; unfold rgA; rfl
   clear hel hrs6
   go_wp2_with (refine wpl_appK rfl (.tmp 19) (.tmp 28) rfl rins_u rin_info (rgA_size _ _) (by decide) (by decide) hxs hrow6 rfl (fun v hv => by simp at hv; rcases hv with rfl | rfl <;> rfl) (by omega) rfl rfl ?_; intro v7 w7 ho7 hg7 ht7)
   have ho7' := ho7
   rw [← HL.out] at ho7'
   have hvs6 : VsAt (paint T1 w1.heap.size (t' + 1 + j)) w6 (t' + 1 + (K.take j).length) 63 (.slice A5 L c5) r.l := by rw [HL.out]; exact V6.out
   have V7 := HRS6.out.app (r := r) HXS.out HEL.out ho7' hg7 ht7 hvs6
   rw [show K.take j ++ [r] = K.take (j + 1) by rw [HR.out, List.take_append_getElem]] at V7
   have B7 := Lib.hid (C6.out.1.grown hg7 C6.out.1.size (fun k e => (ZO.out k e).1))
   have HV7 := Lib.hid V7
   have HT7 := Lib.hid (show ∀ k, k < w.heap.size → paint (paint T1 w1.heap.size (t' + 1 + j)) w6.heap.size t' k = T k from fun k hk => by
    rw [zH (by have := B6.out.size; omega), zH (by omega)]; exact HTG.out k hk)
   have hs7 := hg7.size
   have HM7 := Lib.hid (show ∀ k, paint (paint T1 w1.heap.size (t' + 1 + j)) w6.heap.size t' k = T k ∨ Hk t' (paint (paint T1 w1.heap.size (t' + 1 + j)) w6.heap.size t' k) from fun k => by
    by_cases hk : k < w6.heap.size
    ·rw [zH hk]
     by_cases hk1 : k < w1.heap.size
     ·rw [zH hk1]; exact HMK.out k
     ·rw [zP (by omega)]; exact .inr ⟨by omega, by omega⟩
    ·rw [zP (by omega)]; exact .inr ⟨by omega, by omega⟩)
   have rX7 : row w7 X = some cx := by rw [yV (hg7.block X (zL C6.out.2) (fun e => by have := (ZO.out X e.symm).2.1; have := HX.out; omega))]; exact C6.out.2
   refine same_class (C := ClX w X cx) [] ((Frm.app hg7).more (fun k hk => by simp; right; simpa using hk)) hot_none ⟨B7.out, rX7⟩ ClX.alloc ?_
   clear ho7 ho7' hg7 ht7 hvs6 R6 hrow6 HXS HEL HRS6 hxs V7 V6
   have hne : Nonempty (In (ClX w X cx)) := ⟨⟨w6, C6.out⟩⟩
   refine wpM_q ?_
   simp only [pk, List.getElem?_cons_zero, List.getElem?_cons_succ]
   repeat (go_big_quiet_step (fail))
   refine wpQuiet_nil ?_
   clear hne
   refine wpM_nil (fun y => ?_)
   have HV8 := Lib.hid (HV7.out.fr (Fr.same (H := fun _ => False) y.below) (fun _ _ _ e => e))
   have HB8 := Lib.hid (onto B7.out B7.out.size y.below)
   go_wp2_with fail
   go_roundw
   case rel => exact ⟨j + 1, _, by omega, by go_num, HV8.out, HT7.out, HM7.out, HB8.out⟩
   case measure => simp [intOf]; omega
  ·obtain rfl : j = n := by omega
   have HRS' := HRS.out
   rw [List.take_of_length_le (by rw [← HN.out]; exact Nat.le_refl _)] at HRS'
   have HQ := Lib.hid HRS'
   clear HRS' HRS hrs
   go_wp2_with fail
   go_ret
   exact ⟨_, T1, rfl, HQ.out, ⟨HB.out, HTG.out, HMK.out⟩⟩
open Go.Maps
theorem ta_i : (Tryz.prog.info? 81).map (·.size) = some 2 := by kernel_rfl
@[go_sem ↓] theorem ta_l (p : Value) : Instr.loadAt 81 p = ldA 81 p := rfl
@[go_sem] theorem ta_ld (w : World) (b o : Nat) : (ldA 81 (.pointer (some ⟨b, o, none⟩))).run Tryz.prog w = ldR Tryz.prog 81 2 w b o (row w b) := ld_rowS _ _ Tryz.underlying81 rfl 2 ta_i w b o
@[go_sem] theorem ta_ldx (P : Program) (t : Nat) (w : World) (b : Nat) (x0 x1 : Value) : ldR P t 2 w b 0 (some #[x0, x1]) = .ok (.agg #[x0, x1]) w := xE P t 2 w b _ rfl
@[go_sem] theorem sc_ld (w : World) (b o : Nat) : (ldA 68 (.pointer (some ⟨b, o, none⟩))).run Tryz.prog w = ldR Tryz.prog 68 65 w b o (row w b) := ld_rowS _ _ Tryz.underlying68 rfl 65 src_i w b o
def stL0 : List Value := List.replicate 64 (.int .u8 0) ++ (.int .i64 0 :: (ksL0 ++ [.map none, .int .i64 0]))
@[irreducible] def stZ : Array Value := stL0.toArray
theorem st_z : (Tryz.prog.info? 85).map (·.zero) = some (some (.agg stZ)) := by unfold stZ; kernel_rfl
theorem stZ_flt : stZ = flt [(List.replicate 64 (Value.int .u8 0) ++ [Value.int .i64 0]).toArray, ksZ, #[.map none, .int .i64 0]] := by
 unfold stZ stL0 flt ksZ
 apply Array.ext'
 simp [List.flatMap_cons]
theorem st_flt (d : St) (n : Int) (ks : Array Value) (mv : Option Nat) (g : Int) : flt [srcC #[] d.1 d.2 n, ks, #[.map mv, .int .i64 g]] = stC d n ks mv g := by
 unfold stC srcC mtC flt
 apply Array.ext'
 simp [List.flatMap_cons, List.append_assoc]
@[go_sem ↓] theorem st_bd (yE : Array (Nat × Value)) : Instr.build 85 yE = bdA 85 yE := rfl
theorem st_b3 (d : St) (n : Int) (ks : Array Value) (mv : Option Nat) (g : Int) (hk : ks.size = 1105) (w : World) :
  (bdA 85 #[(0, .agg (srcC #[] d.1 d.2 n)), (1, .agg ks), (2, .agg #[.map mv, .int .i64 g])]).run Tryz.prog w = .ok (.agg (stC d n ks mv g)) w := by
 refine run_lit _ _ _ _ [(0, 65), (65, 1105), (1170, 2)] st_z (by kernel_rfl) ?_ w
 rw [stZ_flt, ← st_flt]
 have z1 : ((List.replicate 64 (Value.int .u8 0) ++ [Value.int .i64 0]).toArray).size = 65 := by simp
 exact (fill_flt (pre := []) (o := 0) (m := 65) rfl rfl z1.symm (by rw [z1]; exact src_size _ _ _ _)).trans
  ((fill_flt (pre := [srcC #[] d.1 d.2 n]) (o := 65) (m := 1105) rfl (by simp [szs, src_size]) ksZ_size.symm (by rw [ksZ_size]; exact hk)).trans
  (fill_flt (pre := [srcC #[] d.1 d.2 n, ks]) (o := 1170) (m := 2) rfl (by simp [szs, src_size, hk]) rfl rfl))
theorem StAt.made {T : Mk} {w : World} {t : Nat} {x : Sx} {ks : Array Value} {mv : Option Nat} (ht : 0 < t) (hk : KsC 0 ksZ ks x.K) (hm : MpV T w (t + 1) mv x.l) (ok : SxOk x) (ty : TypeId) :
  StAt (paint T w.heap.size t) (w.alloc (.cells (stC x.d x.n ks mv x.g) ty)) t w.heap.size x := by
 have b := (Below.refl w.heap.size w).alloc (Nat.le_refl _) (.cells (stC x.d x.n ks mv x.g) ty)
 exact ⟨zP (Nat.le_refl _), ⟨ks, mv, zA _ _ _ _ rfl, hk, hm.fr (Fr.new (H := fun _ => False) b t) (fun h => h) (fun h => h)⟩, ok⟩
theorem pnew16_any (T : Mk) (t : Nat) (a : Bf) (n cc : Nat) (A : Option Addr) (w : World) (htab : Tab w) (hs : Sl w w.heap.size A n cc a) (hn : n ≤ 140737488354000) (ht : 0 < t) :
  Calls Tryz.prog 11 #[.slice A n cc] w fun e w' => ∃ B, e = .returned (.pointer (some ⟨B, 0, none⟩)) ∧ StAt (paint T w.heap.size t) w' t B (st0 a n) ∧ Below w.heap.size w w' := by
 have HT := Lib.hid htab
 have HS := Lib.hid hs
 clear htab hs
 go_enter Tryz.func11, Tryz.ntmps11
 go_wp2_with fail
 refine yF [([0], 1, false), ([2, 3], 4, false), ([5, 6], 7, false), ([8, 9, 10], 11, true)] [12] (by kernel_rfl) (by kernel_rfl) (fun _ _ _ _ _ h => h) fun X => ?_
 have B1 := Lib.hid X.below
 have H1 := Lib.hid (dnew_any a n cc A X.val (HT.out.below X.below HT.out.pos) ((HS.out.below X.below).more X.below.size) hn)
 obtain ⟨w1, hw1⟩ : ∃ w1, w1 = X.val := ⟨_, rfl⟩
 rw [← hw1] at B1 H1 ⊢
 clear hw1 X HT HS
 simp only [wpFs, pk, List.getElem?_cons_zero, List.getElem?_cons_succ]
 repeat (go_big_quiet_step (fail))
 refine wpQuiet_nil ?_
 go_wp2_with fail
 refine H1.out.mono ?_
 rintro e w2 ⟨g, rfl, hg, hrg, hb2⟩
 have R2 := Lib.hid hrg
 have B2 := Lib.hid (onto B1.out B1.out.size hb2)
 have H2' := Lib.hid (wnew_any w2)
 go_wp2_with fail
 refine ⟨.inr hb2, ?_⟩
 clear hrg hb2 H1 B1
 have k1 := After.row R2.out
 show wpQuiet _ _ _ _ _ _
 repeat (go_big_quiet_step (fail))
 refine wpQuiet_nil ?_
 clear k1
 go_wp2_with fail
 refine H2'.out.mono ?_
 rintro e w3 ⟨Bk, rfl, hkp, hBk, hb3⟩
 obtain ⟨ck, hrk, hck⟩ := hkp.at_
 have RK := Lib.hid hrk
 have HCK := Lib.hid hck
 have hcs : ck.size = 1105 := ks_size hck
 have B3 := Lib.hid (onto B2.out B2.out.size hb3)
 have H3 := Lib.hid (snew_any T t w3)
 go_wp2_with fail
 refine ⟨.inr hb3, ?_⟩
 have hld : ∀ x : World, ldR Tryz.prog 76 1105 x Bk 0 (some ck) = .ok (.agg ck) x := fun x => xE _ _ _ _ _ _ hcs.symm
 clear hkp hrk hck hb3 H2' B2 R2
 have k1 := After.row RK.out
 show wpQuiet _ _ _ _ _ _
 repeat (go_big_quiet_step (fail))
 refine wpQuiet_nil ?_
 clear k1 hld
 go_wp2_with fail
 refine H3.out.mono ?_
 rintro e w4 ⟨Bt, rfl, hpt, hb4⟩
 have rT := hpt.row
 rw [mtC_nil] at rT
 have B4 := Lib.hid (onto B3.out B3.out.size hb4)
 have RT := Lib.hid rT
 go_wp2_with fail
 refine ⟨.inr hb4, ?_⟩
 clear hpt hb4 H3 B3 RK rT
 have bd3 := fun w => st_b3 (updS newS a n) 1 ck none 0 hcs w
 have k1 := After.row RT.out
 show wpQuiet _ _ _ _ _ _
 repeat (go_big_quiet_step (fail))
 refine wpQuiet_nil ?_
 clear k1 bd3
 go_wp2_with fail
 have hM := StAt.made (T := paint T w.heap.size t) (w := w4) (t := t) (x := st0 a n) (ks := ck) (mv := none) ht HCK.out (.inl ⟨rfl, rfl⟩) (st0_ok a n) 85
 have b5 := (Below.refl w4.heap.size w4).alloc (Nat.le_refl _) (.cells (stC (updS newS a n) 1 ck none 0) 85)
 have e5 : paint (paint T w.heap.size t) w4.heap.size t = paint T w.heap.size t := by
  funext k
  unfold paint
  split
  ·rfl
  ·rw [if_neg (by have := B4.out.size; omega)]
 rw [e5] at hM
 refine ⟨.inl trivial, ?_⟩
 show wpQuiet _ _ _ _ _ _
 repeat (go_big_quiet_step (fail))
 refine wpQuiet_nil ?_
 go_wp2_with fail
 go_ret
 exact ⟨_, rfl, hM, onto B4.out B4.out.size b5⟩
theorem prings16_any (T : Mk) (t t' B : Nat) (x : Sx) (w : World) (hS : StAt T w t B x) (hfr : ∀ k, k < w.heap.size → ¬ Hk t' (T k)) :
  Calls Tryz.prog 27 #[.pointer (some ⟨B, 0, none⟩)] w fun e w' => ∃ v T', e = .returned v ∧ RsAt T' w' t' 59 63 v x.K ∧ Nk T T' t' w w' := by
 obtain ⟨R, hk, -⟩ := hS.keys
 have H1 := Lib.hid (prs_any T t t' B x.K w (hk.mk' hS.tg) hfr)
 clear hS hk hfr
 go_enter Tryz.func27, Tryz.ntmps27
 go_wp2_with fail
 refine H1.out.mono ?_
 rintro e w1 ⟨v, T', rfl, hr, hn⟩
 go_wp2_with fail
 go_ret
 exact ⟨v, T', rfl, hr, hn⟩
theorem pseats16_any (T : Mk) (t ts B : Nat) (x : Sx) (w : World) (hS : StAt T w t B x) (ht : 0 < t) (hts : 0 < ts) (h1 : ts ≠ t) (h2 : ts ≠ t + 1) :
  Calls Tryz.prog 49 #[.pointer (some ⟨B, 0, none⟩)] w fun e w' => ∃ A c T', e = .returned (.tuple #[.slice A x.l.length c, .int .i64 (x.g + 1)]) ∧ ElAt 6 seEl T' w' ts A c x.l ∧ Fr T T' (fun x => x = ts) w w' := by
 obtain ⟨R, mv, hp, -⟩ := hS.tab
 have H1 := Lib.hid (pseats_any T t ts B mv x.l x.g w hp ht hts h1 h2 hS.ok.T)
 clear hS hp h1 h2
 go_enter Tryz.func49, Tryz.ntmps49
 go_wp2_with fail
 refine H1.out.mono ?_
 rintro e w1 ⟨A, c, T', rfl, hr, hn⟩
 go_wp2_with fail
 exact bodyPost_ret (v := .tuple #[.slice A x.l.length c, .int .i64 (x.g + 1)]) (by simp [results, Tryz.results49, go_sem]) rfl ⟨A, c, T', rfl, hr, hn⟩
def WrI (W : Nat) (l : By) (w : World) : Prop := ∃ A c, row w W = some #[.slice A l.length c] ∧ Own w (W + 1) 5 (.slice A l.length c) l.length (lf l)
def Wr (W : Nat) (l : By) (w w' : World) : Prop := ∃ A c, Put W #[.slice A l.length c] w w' ∧ Own w' (W + 1) 5 (.slice A l.length c) l.length (lf l)
def WrO (D W : Nat) (l : By) (w : World) : Prop := ∃ A c, row w W = some #[.slice A l.length c] ∧ Own w D 5 (.slice A l.length c) l.length (lf l)
section
variable {W : Nat} {l l' l2 : By} {w w' w2 : World}
theorem WrI.lt (h : WrI W l w) : W < w.heap.size := by obtain ⟨A, c, hr, -⟩ := h; exact zL hr
theorem Wr.inv (h : WrI W l w) (k : Wr W l' w w') : WrI W l' w' := by
 obtain ⟨A, c, hr, -⟩ := h
 obtain ⟨A', c', hp, ho⟩ := k
 exact ⟨A', c', hp.row hr, ho⟩
theorem Wr.trans (h : WrI W l w) (k : Wr W l' w w') (k2 : Wr W l2 w' w2) : Wr W l2 w w2 := by
 obtain ⟨A, c, hr, -⟩ := h
 obtain ⟨A', c', hp, ho⟩ := k
 obtain ⟨A2, c2, hp2, ho2⟩ := k2
 exact ⟨A2, c2, hp.then hr hp2, ho2⟩
theorem Wr.behind (h : WrI W l w) (hb : Below w.heap.size w w') (k : Wr W l2 w' w2) : Wr W l2 w w2 := by
 obtain ⟨A2, c2, hp2, ho2⟩ := k
 exact ⟨A2, c2, Put.behind hb h.lt hp2, ho2⟩
theorem WrI.below (h : WrI W l w) (hb : Below w.heap.size w w') : WrI W l w' := by
 obtain ⟨A, c, hr, ho⟩ := h
 exact ⟨A, c, zE hb hr, ho.below hb (Nat.le_refl _)⟩
theorem Wr.nil (h : WrI W l w) : Wr W l w w := by
 obtain ⟨A, c, hr, ho⟩ := h
 exact ⟨A, c, Put.nil hr, ho⟩
theorem Wr.size (h : Wr W l w w') : w.heap.size ≤ w'.heap.size := by obtain ⟨A, c, hp, -⟩ := h; exact hp.size
theorem Wr.block (h : Wr W l w w') (k : Nat) (hk : k < w.heap.size) (hn : k ≠ W) : w'.heap[k]? = w.heap[k]? := by obtain ⟨A, c, hp, -⟩ := h; exact hp.block k hk hn
theorem Wr.fr {T : Mk} {H : Nat → Prop} (h : Wr W l w w') (hW : H (T W)) (t : Nat) : Fr T (paint T w.heap.size t) H w w' := by
 obtain ⟨A, c, hp, -⟩ := h
 have hb : Below w.heap.size (w.setRow W #[.slice A l.length c]) w' := hp
 exact ⟨hb.1, hb.2, hb.3, hp.size, fun k hk hn => hp.block k hk (fun e => hn (by rw [e]; exact hW)), fun k hk => zH hk⟩
theorem Wr.of {n : Nat} {f : Bf} {v : Value} {D : Nat} (h : WrI W l w) (hb : Below w.heap.size w w') (ho : Own w' D 5 v n f) (hD : W < D) (hl : l2.length = n) (hf : ∀ i, i < n → f i = lf l2 i) : Wr W l2 w (w'.setRow W #[v]) := by
 obtain ⟨A, c, rfl, -, -, -⟩ := ho.sl
 subst hl
 refine ⟨A, c, Put.of hb h.lt _, ?_⟩
 exact ((ho.setRow W (fun e => by have := (World.ownsRow.lt ho W e).1; omega) _).base hD).congr hf
theorem WrO.of {n : Nat} {f : Bf} {v : Value} {D : Nat} {c : Array Value} (hr : row w' W = some c) (ho : Own w' D 5 v n f) (hD : W < D) (hl : l2.length = n) (hf : ∀ i, i < n → f i = lf l2 i) : WrO D W l2 (w'.setRow W #[v]) := by
 obtain ⟨A, c, rfl, -, -, -⟩ := ho.sl
 subst hl
 exact ⟨A, c, zC hr _, (ho.setRow W (fun e => by have := (World.ownsRow.lt ho W e).1; omega) _).congr hf⟩
theorem lf_more {k : Nat} {F : Bf} (i : Nat) (hi : i < l.length + k) : catF l.length (lf l) F i = lf (l ++ bl k F) i := by
 rw [lf_app]
 unfold catF
 by_cases h : i < l.length
 ·rw [if_pos h, if_pos h]
 ·rw [if_neg h, if_neg h, lf_bl _ _ _ (by omega)]
end
theorem wtext_any (W : Nat) (l : By) (n cc : Nat) (At : Option Addr) (f : Bf) (w : World) (h : WrI W l w) (ht : Sl w w.heap.size At n cc f) (hn : n ≤ 4096) (hl : l.length ≤ 10000000) :
  Calls Tryz.prog 121 #[.pointer (some ⟨W, 0, none⟩), .slice At n cc] w fun e w' => e = .returned (.tuple #[]) ∧ Wr W (l ++ eT n f) w w' := by
 have HW := Lib.hid h
 obtain ⟨A, c, hr, ho⟩ := h
 have a0 := zG hr 0
 have a0 : w.cell? ⟨W, 0, none⟩ = some (.slice A l.length c) := a0
 obtain ⟨A', c', e, hs, -, -⟩ := ho.sl
 cases e
 have H1 := Lib.hid (putt_any l.length c n cc A At (lf l) f w hs ht (by omega) hn)
 have HR := Lib.hid hr
 clear hs ho ht hr
 go_enter Tryz.func121, Tryz.ntmps121
 go_wp2_with fail
 refine H1.out.mono ?_
 rintro e w1 ⟨v, rfl, ho1, hb1⟩
 obtain ⟨A1, k1, rfl, -, -, -⟩ := ho1.sl
 have O1 := Lib.hid ho1
 have B1 := Lib.hid hb1
 have r1 := zE hb1 HR.out
 have f1 := zN r1 0
 have c1 : w1.cell? ⟨W, 0, none⟩ = some (.slice A l.length c) := zG r1 0
 clear ho1 hb1 H1 a0
 go_wp2_with fail
 refine (mustb_ok _ _).mono ?_
 rintro e w2 ⟨rfl, rfl⟩
 go_wp2_with fail
 go_end0
 refine ⟨rfl, ?_⟩
 rw [zJ r1]
 refine Wr.of HW.out B1.out O1.out HW.out.lt (by rw [List.length_append, eT_len]) fun i hi => ?_
 rw [eT_bl]
 exact lf_more i hi
theorem wnums_any (W : Nat) (l : By) (ns : List Nat) (cc : Nat) (At : Option Addr) (w : World) (h : WrI W l w) (ht : SlG w w.heap.size At ns.length cc (fun i => .int .i64 ((ns.getD i 0 : Nat) : Int))) (hoff : ∀ a, At = some a → a.block ≠ W) (hm : ns.length ≤ 1000) (hn : ∀ n ∈ ns, u63 n) (hl : l.length ≤ 10000000) :
  Calls Tryz.prog 122 #[.pointer (some ⟨W, 0, none⟩), .slice At ns.length cc] w fun e w' => e = .returned (.tuple #[]) ∧ Wr W (l ++ ns.flatMap eN) w w' ∧ (ns ≠ [] → WrO w.heap.size W (l ++ ns.flatMap eN) w') := by
 have HW := Lib.hid h
 have HT := Lib.hid ht
 have HO := Lib.hid hoff
 have HN := Lib.hid hn
 clear h ht hoff hn
 go_enter Tryz.func122, Tryz.ntmps122
 go_wp2_with fail
 go_loopw [8] (fun iv wr => ∃ j : Nat, j ≤ ns.length ∧ iv = .int .i64 (j : Int) ∧ Wr W (l ++ (ns.take j).flatMap eN) w wr ∧ (0 < j → WrO w.heap.size W (l ++ (ns.take j).flatMap eN) wr)) (fun iv _ => ns.length - (intOf iv).toNat)
 case atStart => exact ⟨0, by omega, rfl, by simpa using Wr.nil HW.out, fun h => absurd h (by omega)⟩
 case round =>
  obtain ⟨j, hj, rfl, hwr, hwo⟩ := hrel
  obtain ⟨wo, rfl⟩ : ∃ wo : World, wo = wr := ⟨_, rfl⟩
  have HR := Lib.hid hwr
  have HRO := Lib.hid hwo
  clear hwr hwo
  by_cases hlt : j < ns.length
  ·have hd : decide ((j : Int) < (ns.length : Int)) = true := by simp; omega
   obtain ⟨g, o, rfl, hg, hc⟩ := HT.out.at_ (by omega)
   have hc1 : wo.cell? ⟨g, o + j, none⟩ = some (.int .i64 ((ns[j] : Nat) : Int)) := by
    rw [World.cell?_of_block (w := w) (HR.out.block g hg (HO.out _ rfl)), hc j hlt, List.getD_eq_getElem?_getD, List.getElem?_eq_getElem hlt]
    rfl
   obtain ⟨A, c, hr, ho⟩ := HR.out.inv HW.out
   obtain ⟨L, hL⟩ : ∃ L, L = l ++ (ns.take j).flatMap eN := ⟨_, rfl⟩
   have hLl : L.length ≤ 10009000 := by
    rw [hL, List.length_append]
    have : ∀ k, ((ns.take k).flatMap eN).length ≤ 9 * k := fun k => by
     induction k with
     | zero => simp
     | succ k ih =>
      by_cases hk : k < ns.length
      ·rw [List.take_succ_eq_append_getElem hk, List.flatMap_append, List.length_append]
       have := encL_le ns[k]
       simp only [List.flatMap_cons, List.flatMap_nil, List.append_nil, eN_len]
       omega
      ·rw [List.take_of_length_le (by omega)] at ih ⊢
       omega
    have := this j
    omega
   rw [← hL] at hr ho
   have a0 : wo.cell? ⟨W, 0, none⟩ = some (.slice A L.length c) := zG hr 0
   obtain ⟨A', c', e, hs, -, -⟩ := ho.sl
   cases e
   have H1 := Lib.hid (put_any ns[j] L.length c A (lf L) wo hs (by omega) (HN.out _ (List.getElem_mem hlt)))
   have HRR := Lib.hid hr
   have HLL := Lib.hid hL
   have WI := Lib.hid (show WrI W L wo from ⟨A, c, hr, ho⟩)
   have hcap := HT.out.le
   obtain ⟨x, hx⟩ : ∃ x : Nat, x = ns[j] := ⟨_, rfl⟩
   rw [← hx] at hc1 H1
   have HX := Lib.hid hx
   clear hs ho hr hL hLl hc hx
   go_wp2_with fail
   refine H1.out.mono ?_
   rintro e w1 ⟨v, rfl, ho1, hb1⟩
   obtain ⟨A1, k1, rfl, -, -, -⟩ := ho1.sl
   have O1 := Lib.hid ho1
   have B1 := Lib.hid hb1
   have r1 := zE hb1 HRR.out
   have f1 := zN r1 0
   have c1 : w1.cell? ⟨W, 0, none⟩ = some (.slice A L.length c) := zG r1 0
   clear ho1 hb1 H1 a0 hc1
   go_wp2_with fail
   refine (mustb_ok _ _).mono ?_
   rintro e w2 ⟨rfl, rfl⟩
   have hw : IntKind.i64.wrap ((j : Int) + 1) = (j : Int) + 1 := IntWalk.i64_in _ (by omega)
   have W2 := Lib.hid (show Wr W (l ++ (ns.take (j + 1)).flatMap eN) w (w2.setCell ⟨W, 0, none⟩ (.slice A1 (L.length + encL x) k1)) by
    rw [zJ r1]
    refine HR.out.trans HW.out ?_
    refine Wr.of (l := L) WI.out B1.out O1.out (Nat.lt_of_lt_of_le WI.out.lt (Nat.le_refl _)) ?_ fun i hi => ?_
    ·rw [List.take_succ_eq_append_getElem hlt, List.flatMap_append, ← List.append_assoc, ← HLL.out, List.length_append]
     simp only [List.flatMap_cons, List.flatMap_nil, List.append_nil, eN_len, HX.out]
    ·rw [List.take_succ_eq_append_getElem hlt, List.flatMap_append, ← List.append_assoc, ← HLL.out]
     simp only [List.flatMap_cons, List.flatMap_nil, List.append_nil]
     rw [← HX.out]
     exact lf_more i hi)
   have O2 := Lib.hid (show WrO w.heap.size W (l ++ (ns.take (j + 1)).flatMap eN) (w2.setCell ⟨W, 0, none⟩ (.slice A1 (L.length + encL x) k1)) by
    rw [zJ r1]
    refine WrO.of (D := w.heap.size) r1 (O1.out.base HR.out.size) HW.out.lt ?_ fun i hi => ?_
    ·rw [List.take_succ_eq_append_getElem hlt, List.flatMap_append, ← List.append_assoc, ← HLL.out, List.length_append]
     simp only [List.flatMap_cons, List.flatMap_nil, List.append_nil, eN_len, HX.out]
    ·rw [List.take_succ_eq_append_getElem hlt, List.flatMap_append, ← List.append_assoc, ← HLL.out]
     simp only [List.flatMap_cons, List.flatMap_nil, List.append_nil]
     rw [← HX.out]
     exact lf_more i hi)
   go_wp2_with fail
   go_roundw
   case rel => exact ⟨j + 1, by omega, by go_num, W2.out, fun _ => O2.out⟩
   case measure => simp [intOf]; omega
  ·obtain rfl : j = ns.length := by omega
   have hd : decide ((ns.length : Int) < (ns.length : Int)) = false := by simp
   have HR2 := HR.out
   rw [List.take_length] at HR2
   have HO2 := HRO.out
   rw [List.take_length] at HO2
   go_wp2_with fail
   go_end0
   exact ⟨rfl, HR2, fun h => HO2 (List.length_pos_iff.2 h)⟩
theorem wflag_any (W : Nat) (l : By) (b : Bool) (w : World) (h : WrI W l w) (hl : l.length ≤ 10000000) :
  Calls Tryz.prog 123 #[.pointer (some ⟨W, 0, none⟩), .bool b] w fun e w' => e = .returned (.tuple #[]) ∧ Wr W (l ++ eB b) w w' := by
 have key : ∀ n : Nat, n ≤ 1 → Calls Tryz.prog 122 #[.pointer (some ⟨W, 0, none⟩), .slice (some ⟨w.heap.size, 0, none⟩) 1 1] (w.alloc (.cells #[.int .i64 (n : Int)] 3)) fun e w' => e = .returned (.tuple #[]) ∧ Wr W (l ++ eN n) w w' := fun n hn => by
  have hb : Below w.heap.size w (w.alloc (.cells #[.int .i64 (n : Int)] 3)) := (Below.refl _ _).alloc (Nat.le_refl _) _
  refine (wnums_any W l [n] 1 _ _ (h.below hb) (slG_row (zA _ _ _ _ rfl) (by simp) (Nat.le_refl _) (fun i hi => by
   obtain rfl : i = 0 := by simp at hi; omega
   rfl)) (fun a ha e => by cases ha; have := h.lt; simp only at e; omega) (by simp) (fun m hm => by simp at hm; omega) hl).mono ?_
  rintro e w' ⟨rfl, hw, -⟩
  refine ⟨rfl, ?_⟩
  have := Wr.behind h hb hw
  simpa using this
 have k0 := Lib.hid (key 0 (by omega))
 have k1 := Lib.hid (key 1 (by omega))
 clear key h
 cases b with
 | true =>
  go_enter Tryz.func123, Tryz.ntmps123
  go_wp2_with fail
  refine k1.out.mono ?_
  rintro e w' ⟨rfl, hw⟩
  go_wp2_with fail
  go_end0
  exact ⟨rfl, hw⟩
 | false =>
  go_enter Tryz.func123, Tryz.ntmps123
  go_wp2_with fail
  refine k0.out.mono ?_
  rintro e w' ⟨rfl, hw⟩
  go_wp2_with fail
  go_end0
  exact ⟨rfl, hw⟩
theorem key_sl_at (B o : Nat) (w : World) : (Instr.sliceAt 61 (.pointer (some ⟨B, o, none⟩)) none none none).run Tryz.prog w = .ok (.slice (some ⟨B, o, none⟩) 32 32) w := by
 rw [run_sliceAt_array_all w 61 ⟨B, o, none⟩ (by kernel_rfl), show Tryz.prog.elem 61 = 5 by kernel_rfl, u8_size, show Tryz.prog.arrayLen 61 = 32 by kernel_rfl, Result.andThen_ok]
 rfl
theorem wone_any (W : Nat) (l : By) (n : Nat) (w : World) (h : WrI W l w) (hn : u63 n) (hl : l.length ≤ 10000000) :
  Calls Tryz.prog 122 #[.pointer (some ⟨W, 0, none⟩), .slice (some ⟨w.heap.size, 0, none⟩) 1 1] (w.alloc (.cells #[.int .i64 (n : Int)] 3)) fun e w' => e = .returned (.tuple #[]) ∧ Wr W (l ++ eN n) w w' := by
 have hb : Below w.heap.size w (w.alloc (.cells #[.int .i64 (n : Int)] 3)) := (Below.refl _ _).alloc (Nat.le_refl _) _
 refine (wnums_any W l [n] 1 _ _ (h.below hb) (slG_row (zA _ _ _ _ rfl) (by simp) (Nat.le_refl _) (fun i hi => by
  obtain rfl : i = 0 := by simp at hi; omega
  rfl)) (fun a ha e => by cases ha; have := h.lt; simp only at e; omega) (by simp) (fun m hm => by simp at hm; omega) hl).mono ?_
 rintro e w' ⟨rfl, hw, -⟩
 refine ⟨rfl, ?_⟩
 have := Wr.behind h hb hw
 simpa using this
theorem wtwo_any (W : Nat) (l : By) (n m : Nat) (w : World) (h : WrI W l w) (hn : u63 n) (hm : u63 m) (hl : l.length ≤ 10000000) :
  Calls Tryz.prog 122 #[.pointer (some ⟨W, 0, none⟩), .slice (some ⟨w.heap.size, 0, none⟩) 2 2] (w.alloc (.cells #[.int .i64 (n : Int), .int .i64 (m : Int)] 3)) fun e w' => e = .returned (.tuple #[]) ∧ Wr W (l ++ (eN n ++ eN m)) w w' ∧ WrO w.heap.size W (l ++ (eN n ++ eN m)) w' := by
 have hb : Below w.heap.size w (w.alloc (.cells #[.int .i64 (n : Int), .int .i64 (m : Int)] 3)) := (Below.refl _ _).alloc (Nat.le_refl _) _
 refine (wnums_any W l [n, m] 2 _ _ (h.below hb) (slG_row (zA _ _ _ _ rfl) (by simp) (Nat.le_refl _) (fun i hi => by
  have : i = 0 ∨ i = 1 := by simp at hi; omega
  rcases this with rfl | rfl <;> rfl)) (fun a ha e => by cases ha; have := h.lt; simp only at e; omega) (by simp) (fun k hk => by simp at hk; omega) hl).mono ?_
 rintro e w' ⟨rfl, hw, ho⟩
 have := Wr.behind h hb hw
 obtain ⟨A, c, o1, o2⟩ := ho (by simp)
 refine ⟨rfl, by simpa using this, ?_⟩
 have o3 : WrO w.heap.size W (l ++ [n, m].flatMap eN) w' := ⟨A, c, o1, o2.base hb.size⟩
 simpa using o3
theorem eN_le (v : Nat) : (eN v).length ≤ 9 := by rw [eN_len]; exact encL_le v
theorem eB_le (b : Bool) : (eB b).length ≤ 9 := eN_le _
theorem eT32_le (f : Bf) : (eT 32 f).length ≤ 41 := by rw [eT_len]; have := txL_le 32; omega
theorem eVe_le (v : Ve) : (eVe v).length ≤ 59 := by
 unfold eVe
 rw [List.length_append, List.length_append]
 have := eT32_le v.m
 have := eN_le v.u.toNat
 have := eB_le v.g
 omega
theorem fm_le {α : Type} {e : α → By} {b : Nat} {l : List α} (h : ∀ a ∈ l, (e a).length ≤ b) : (l.flatMap e).length ≤ b * l.length := by
 induction l with
 | nil => simp
 | cons a l ih =>
  rw [List.flatMap_cons, List.length_append, List.length_cons, Nat.mul_succ]
  have := h a (List.mem_cons_self ..)
  have := ih fun x hx => h x (List.mem_cons_of_mem _ hx)
  omega
theorem eRg_le (r : Rg) (h : r.l.length ≤ 4) : (eRg r).length ≤ 254 := by
 unfold eRg
 rw [List.length_append, List.length_append]
 have := eB_le r.off
 have := eN_le r.l.length
 have := fm_le (e := eVe) (l := r.l) fun a _ => eVe_le a
 have := Nat.mul_le_mul_left 59 h
 omega
theorem take_fm {α : Type} (e : α → By) {l : List α} {j : Nat} (h : j < l.length) : (l.take (j + 1)).flatMap e = (l.take j).flatMap e ++ e l[j] := by
 rw [List.take_succ_eq_append_getElem h, List.flatMap_append]
 simp
theorem wsrc_any (W : Nat) (l : By) (d : St) (n : Nat) (B : Nat) (R : Array Value) (w : World) (h : WrI W l w) (hr : row w B = some (srcC R d.1 d.2 (n : Int))) (hn : u63 n) (hl : l.length ≤ 1000000) :
  Calls Tryz.prog 65 #[.pointer (some ⟨W, 0, none⟩), .pointer (some ⟨B, 0, none⟩)] w fun e w' => e = .returned (.tuple #[]) ∧ Wr W (l ++ (eT 32 d.1 ++ (eT 32 d.2 ++ eN n))) w w' := by
 have HW := Lib.hid h
 have H1 := Lib.hid (dstate_any d (n : Int) B w hr)
 clear h hr
 go_enter Tryz.func65, Tryz.ntmps65
 go_wp2_with fail
 refine H1.out.mono ?_
 rintro e w1 ⟨rfl, hb1⟩
 obtain ⟨w2, hw2⟩ : ∃ w2, w2 = (w1.alloc (.cells (ba 32 d.1) 66)).alloc (.cells (ba 32 d.2) 66) := ⟨_, rfl⟩
 have b2 : Below w1.heap.size w1 w2 := by rw [hw2]; exact ((Below.refl _ _).alloc (Nat.le_refl _) _).alloc (by simp) _
 have r1 : row w2 w1.heap.size = some (ba 32 d.1) := by rw [hw2]; exact zK (zA _ _ _ _ rfl) _
 have r2 : row w2 (w1.heap.size + 1) = some (ba 32 d.2) := by rw [hw2]; exact zA _ _ _ _ (by simp)
 have W2 := HW.out.below (onto hb1 hb1.size b2)
 have BW := Lib.hid (onto hb1 hb1.size b2)
 have s1 := Sl.of_row r1 w2.heap.size (zL r1)
 have H2' := Lib.hid (wtext_any W l 32 32 _ d.1 w2 W2 s1 (by omega) (by omega))
 have a1 := sum_sl_at w1.heap.size 0
 have a2 := sum_sl_at (w1.heap.size + 1) 0
 have R2 := Lib.hid r2
 have hW1 := HW.out.lt
 have hs1 := hb1.size
 have WI2 := Lib.hid W2
 clear b2 r1 r2 s1 hb1 W2 H1
 go_upto_region 1 with fail
 rw [← hw2]
 clear hw2
 go_wp2_with fail
 refine H2'.out.mono ?_
 rintro e w3 ⟨rfl, hw3⟩
 have r3 := R2.out
 have s2 : Sl w3 w3.heap.size (some ⟨w1.heap.size + 1, 0, none⟩) 32 32 d.2 := by
  obtain ⟨A, c, hp, -⟩ := hw3
  exact Sl.of_row (hp.other (by omega) r3) _ (zL (hp.other (by omega) r3))
 have l1 : (l ++ eT 32 d.1).length ≤ 10000000 := by rw [List.length_append]; have := eT32_le d.1; omega
 have H3 := Lib.hid (wtext_any W _ 32 32 _ d.2 w3 (hw3.inv WI2.out) s2 (by omega) l1)
 have HW3 := Lib.hid hw3
 clear hw3 r3 s2 H2' l1
 go_wp2_with fail
 refine H3.out.mono ?_
 rintro e w4 ⟨rfl, hw4⟩
 have HW4 := Lib.hid (Wr.trans WI2.out HW3.out hw4)
 have l2 : (l ++ eT 32 d.1 ++ eT 32 d.2).length ≤ 10000000 := by rw [List.length_append, List.length_append]; have := eT32_le d.1; have := eT32_le d.2; omega
 have H4 := Lib.hid (wone_any W _ n w4 (HW4.out.inv WI2.out) hn l2)
 clear hw4 H3 l2
 go_wp2_with fail
 refine H4.out.mono ?_
 rintro e w5 ⟨rfl, hw5⟩
 have HW5 := Lib.hid (Wr.behind HW.out BW.out (Wr.trans WI2.out HW4.out hw5))
 clear hw5 H4
 go_wp2_with fail
 go_end0
 have := HW5.out
 rw [List.append_assoc, List.append_assoc] at this
 exact ⟨rfl, this⟩
theorem wkeys_any (T : Mk) (t' : Nat) (W : Nat) (l : By) (v : Value) (K : Ks) (w : World) (h : WrI W l w) (hR : RsAt T w t' 59 63 v K) (hn : ¬ Hk t' (T W)) (hK : okK K) (hl : l.length ≤ 1000000) :
  Calls Tryz.prog 66 #[.pointer (some ⟨W, 0, none⟩), v] w fun e w' => e = .returned (.tuple #[]) ∧ Wr W (l ++ (eN K.length ++ K.flatMap eRg)) w w' := by
 have HW := Lib.hid h
 have HR := Lib.hid hR
 have HN := Lib.hid hn
 have HK := Lib.hid hK
 have h8 := hK.1
 obtain ⟨A, c, rfl, hlc, hcm, -⟩ := hR.form
 obtain ⟨n, hnn⟩ : ∃ n, n = K.length := ⟨_, rfl⟩
 have H1 := Lib.hid (wone_any W l n w h (by omega) (by omega))
 have HNN := Lib.hid hnn
 rw [← hnn] at h8 hlc ⊢
 clear h hR hn hK hnn
 go_enter Tryz.func66, Tryz.ntmps66
 go_wp2_with fail
 refine H1.out.mono ?_
 rintro e w1 ⟨rfl, hw1⟩
 have W1 := Lib.hid hw1
 have R1 := Lib.hid (HR.out.fr (hw1.fr (T := T) (H := fun x => x = T W) rfl 0) (fun c h1 h2 e => HN.out (by rw [← e]; unfold Hk; have := HNN.out; omega)))
 have TW1 := Lib.hid (show paint T w.heap.size 0 W = T W from zH HW.out.lt)
 obtain ⟨T1, hT1⟩ : ∃ T1, T1 = paint T w.heap.size 0 := ⟨_, rfl⟩
 rw [← hT1] at R1 TW1
 obtain ⟨L, hL⟩ : ∃ L, L = l ++ eN n := ⟨_, rfl⟩
 have hLl : L.length ≤ 1000009 := by rw [hL, List.length_append]; have := eN_le n; omega
 have I1 := Lib.hid (show WrI W L w1 by rw [hL]; exact hw1.inv HW.out)
 have HL := Lib.hid hL
 clear hw1 hT1 H1 hL
 go_wp2_with fail
 go_loopw [15] (fun iv wr => ∃ j : Nat, j ≤ n ∧ iv = .int .i64 (j : Int) ∧ Wr W (L ++ (K.take j).flatMap eRg) w1 wr) (fun iv _ => n - (intOf iv).toNat)
 case atStart => exact ⟨0, by omega, rfl, by simpa using Wr.nil I1.out⟩
 case round =>
  obtain ⟨j, hj, rfl, hwr⟩ := hrel
  obtain ⟨wo, rfl⟩ : ∃ wo : World, wo = wr := ⟨_, rfl⟩
  have WO := Lib.hid hwr
  clear hwr
  by_cases hlt : j < n
  ·have hd : decide ((j : Int) < (n : Int)) = true := by simp; omega
   have hjK : j < K.length := by have := HNN.out; omega
   have RO := HR.out
   have r2 := R1.out.fr (WO.out.fr (T := T1) (H := fun x => x = T W) TW1.out 0) (fun c h1 h2 e => HN.out (by rw [← e]; unfold Hk; have := HNN.out; omega))
   obtain ⟨A', c', e1, -, -, hat⟩ := r2.form
   rw [← HNN.out] at e1
   cases e1
   obtain ⟨g, cur, rfl, htg, hrow, -, -, hc⟩ := hat (by omega)
   obtain ⟨h4, vi, h5, h6⟩ := hc j hjK
   obtain ⟨r, hr⟩ : ∃ r, r = K[j] := ⟨_, rfl⟩
   rw [← hr] at h4 h6
   obtain ⟨A2, c2, rfl, hl2, hc2, -⟩ := h6.form
   have hr4 : r.l.length ≤ 4 := by rw [hr]; exact (HK.out.2 _ (List.getElem_mem hjK)).1.2
   obtain ⟨m, hm⟩ : ∃ m, m = r.l.length := ⟨_, rfl⟩
   rw [← hm] at h5 h6 hl2 hr4
   have hldr : ldR Tryz.prog 59 2 wo g (j * 2) (row wo g) = .ok (.agg (rgA r.off (.slice A2 m c2))) wo :=
    rin_cells wo g (j * 2) _ _ (by rw [zG hrow]; exact h4) (by rw [zG hrow]; exact h5)
   have IO := WO.out.inv I1.out
   obtain ⟨L1, hL1⟩ : ∃ L1, L1 = L ++ (K.take j).flatMap eRg := ⟨_, rfl⟩
   have hL1l : L1.length ≤ 1010000 := by
    rw [hL1, List.length_append]
    have := fm_le (e := eRg) (b := 254) (l := K.take j) fun a ha => eRg_le a (HK.out.2 a (List.mem_of_mem_take ha)).1.2
    rw [List.length_take] at this
    have := Nat.mul_le_mul_left 254 (show min j K.length ≤ 8 by omega)
    omega
   rw [← hL1] at IO
   obtain ⟨w2, hw2⟩ : ∃ w2, w2 = wo.alloc (.cells (rgA r.off (.slice A2 m c2)) 59) := ⟨_, rfl⟩
   have b2 : Below wo.heap.size wo w2 := by rw [hw2]; exact (Below.refl _ _).alloc (Nat.le_refl _) _
   have rX : row w2 wo.heap.size = some (rgA r.off (.slice A2 m c2)) := by rw [hw2]; exact zA _ _ _ _ rfl
   have V2 := Lib.hid (h6.fr (Fr.new (H := fun _ => False) b2 0) (fun h => h))
   have tW2 : paint (paint T1 w1.heap.size 0) wo.heap.size 0 W = T W := by rw [zH IO.lt, zH (by have := I1.out.lt; omega)]; exact TW1.out
   obtain ⟨T2, hT2⟩ : ∃ T2, T2 = paint (paint T1 w1.heap.size 0) wo.heap.size 0 := ⟨_, rfl⟩
   rw [← hT2] at V2 tW2
   obtain ⟨X, hX⟩ : ∃ X, X = wo.heap.size := ⟨_, rfl⟩
   rw [← hX] at rX
   have hXW : X ≠ W := by have := IO.lt; omega
   have RX := Lib.hid rX
   have I2 := Lib.hid (IO.below b2)
   have B2 := Lib.hid b2
   have HL1 := Lib.hid hL1
   have HRR := Lib.hid hr
   have HM := Lib.hid hm
   have HX := Lib.hid hX
   have HIO := Lib.hid IO
   have TW2 := Lib.hid tW2
   have x0 := rgA_c0 rX
   have H3 := Lib.hid (wflag_any W L1 r.off w2 (IO.below b2) (by omega))
   clear r2 hat hrow hc h4 h5 h6 hr hm hL1 b2 rX hT2 hX tW2 RO htg IO
   go_upto_region 4 with fail
   rw [← hw2, ← HX.out]
   clear hw2 hldr
   go_wp2_with fail
   refine H3.out.mono ?_
   rintro e w3 ⟨rfl, hw3⟩
   have R3 : row w3 X = some (rgA r.off (.slice A2 m c2)) := by obtain ⟨A, c, hp, -⟩ := hw3; exact hp.other hXW RX.out
   have x1 := rgA_c1 R3
   have V3 := Lib.hid (V2.out.fr (hw3.fr (T := T2) (H := fun x => x = T W) TW2.out 0) (fun e => HN.out (by rw [← e]; unfold Hk; omega)))
   have I3 := Lib.hid (hw3.inv I2.out)
   have HW3 := Lib.hid hw3
   have RX3 := Lib.hid R3
   have l3 : (L1 ++ eB r.off).length ≤ 1010010 := by rw [List.length_append]; have := eB_le r.off; omega
   have H4 := Lib.hid (wone_any W _ m w3 I3.out (by omega) (by omega))
   have TW3 := Lib.hid (show paint T2 w2.heap.size 0 W = T W by rw [zH I2.out.lt]; exact TW2.out)
   clear hw3 R3 H3 x0
   go_wp2_with fail
   refine H4.out.mono ?_
   rintro e w4 ⟨rfl, hw4⟩
   have R4 : row w4 X = some (rgA r.off (.slice A2 m c2)) := by obtain ⟨A, c, hp, -⟩ := hw4; exact hp.other hXW RX3.out
   have x2 := rgA_c1 R4
   have V4 := Lib.hid (V3.out.fr (hw4.fr (T := paint T2 w2.heap.size 0) (H := fun x => x = T W) TW3.out 0) (fun e => HN.out (by rw [← e]; unfold Hk; omega)))
   have I4 := Lib.hid (hw4.inv I3.out)
   have TW4 := Lib.hid (show paint (paint T2 w2.heap.size 0) w3.heap.size 0 W = T W by rw [zH I3.out.lt]; exact TW3.out)
   obtain ⟨T4, hT4⟩ : ∃ T4, T4 = paint (paint T2 w2.heap.size 0) w3.heap.size 0 := ⟨_, rfl⟩
   rw [← hT4] at V4 TW4
   obtain ⟨L4, hL4⟩ : ∃ L4, L4 = L1 ++ eB r.off ++ eN m := ⟨_, rfl⟩
   have hL4l : L4.length ≤ 1010020 := by rw [hL4, List.length_append]; have := eN_le m; omega
   have HW4 := Lib.hid (show Wr W L4 w2 w4 by rw [hL4]; exact Wr.trans I2.out HW3.out hw4)
   rw [← hL4] at I4
   have HL4 := Lib.hid hL4
   clear hw4 R4 H4 x1 V3 V2 I3 HW3 RX3 TW3 TW2 hT4 hL4 l3 RX
   go_wp2_with fail
   clear x2
   go_loopw [32] (fun iv wr => ∃ i : Nat, i ≤ m ∧ iv = .int .i64 (i : Int) ∧ Wr W (L4 ++ (r.l.take i).flatMap eVe) w4 wr) (fun iv _ => m - (intOf iv).toNat)
   case atStart => exact ⟨0, by omega, rfl, by simpa using Wr.nil I4.out⟩
   case round =>
    obtain ⟨i, hi, rfl, hwi⟩ := hrel
    obtain ⟨wi, rfl⟩ : ∃ wi : World, wi = wr := ⟨_, rfl⟩
    have WI := Lib.hid hwi
    clear hwi
    by_cases hli : i < m
    ·have hd2 : decide ((i : Int) < (m : Int)) = true := by simp; omega
     have hiL : i < r.l.length := by have := HM.out; omega
     have v5 := V4.out.fr (WI.out.fr (T := T4) (H := fun x => x = T W) TW4.out 0) (fun e => HN.out (by rw [← e]; unfold Hk; omega))
     obtain ⟨A', c', e1, -, -, hat⟩ := v5.form
     rw [← HM.out] at e1
     cases e1
     obtain ⟨g2, cur2, rfl, -, hrow2, -, -, hc2'⟩ := hat (by omega)
     obtain ⟨y, hy⟩ : ∃ y, y = r.l[i] := ⟨_, rfl⟩
     have hld : ldR Tryz.prog 63 34 wi g2 (i * 34) (row wi g2) = .ok (.agg (veA y)) wi := ver_cells wi g2 (i * 34) y fun j hj => by
      rw [zG hrow2, hc2' i j hiL hj, hy]
     have hoy : okV y := by rw [hy]; exact (HK.out.2 r (by rw [HRR.out]; exact List.getElem_mem hjK)).2 _ (List.getElem_mem hiL)
     obtain ⟨u, hu⟩ : ∃ u : Nat, y.u = (u : Int) := ⟨y.u.toNat, by have := hoy.1; omega⟩
     have hu16 : u ≤ 16 := by have := hoy.1; omega
     have II := WI.out.inv I4.out
     obtain ⟨L5, hL5⟩ : ∃ L5, L5 = L4 ++ (r.l.take i).flatMap eVe := ⟨_, rfl⟩
     have hL5l : L5.length ≤ 1010300 := by
      rw [hL5, List.length_append]
      have := fm_le (e := eVe) (b := 59) (l := r.l.take i) fun a _ => eVe_le a
      rw [List.length_take] at this
      have := Nat.mul_le_mul_left 59 (show min i r.l.length ≤ 4 by omega)
      omega
     rw [← hL5] at II
     obtain ⟨w5, hw5⟩ : ∃ w5, w5 = wi.alloc (.cells (veA y) 63) := ⟨_, rfl⟩
     have b5 : Below wi.heap.size wi w5 := by rw [hw5]; exact (Below.refl _ _).alloc (Nat.le_refl _) _
     have rY : row w5 wi.heap.size = some (veA y) := by rw [hw5]; exact zA _ _ _ _ rfl
     obtain ⟨Y, hY⟩ : ∃ Y, Y = wi.heap.size := ⟨_, rfl⟩
     rw [← hY] at rY
     have hYW : Y ≠ W := by have := II.lt; omega
     have sl5 : Sl w5 w5.heap.size (some ⟨Y, 0, none⟩) 32 32 y.m := ⟨Nat.le_refl _, fun _ => ⟨Y, 0, rfl, zL rY, fun k hk => by rw [Nat.zero_add, zG rY, ← Array.getElem?_toList, veA_list, veC_m y k hk]⟩⟩
     have H5 := Lib.hid (wtext_any W L5 32 32 _ y.m w5 (II.below b5) sl5 (by omega) (by omega))
     have I5 := Lib.hid (II.below b5)
     have B5 := Lib.hid b5
     have HII := Lib.hid II
     have RY := Lib.hid rY
     have HY := Lib.hid hY
     have HYY := Lib.hid hy
     have HU := Lib.hid hu
     have HL5 := Lib.hid hL5
     have ks := key_sl_at Y 0
     clear v5 hat hrow2 hc2' hoy hL5 b5 rY sl5 hY II hy hu
     go_upto_region 9 with fail
     rw [← hw5, ← HY.out]
     clear hw5 hld
     go_wp2_with fail
     refine H5.out.mono ?_
     rintro e w6 ⟨rfl, hw6⟩
     have R6 : row w6 Y = some (veA y) := by obtain ⟨A, c, hp, -⟩ := hw6; exact hp.other hYW RY.out
     have y2 : w6.cell? ⟨Y, 32, none⟩ = some (.int .i64 (u : Int)) := by rw [zG R6, veA_g32, HU.out]
     have I6 := Lib.hid (hw6.inv I5.out)
     have l6 : (L5 ++ eT 32 y.m).length ≤ 1010350 := by rw [List.length_append]; have := eT32_le y.m; omega
     have H6 := Lib.hid (wone_any W _ u w6 I6.out (by omega) (by omega))
     have HW6 := Lib.hid hw6
     have RY6 := Lib.hid R6
     clear hw6 R6 H5 ks
     go_wp2_with fail
     refine H6.out.mono ?_
     rintro e w7 ⟨rfl, hw7⟩
     have R7 : row w7 Y = some (veA y) := by obtain ⟨A, c, hp, -⟩ := hw7; exact hp.other hYW RY6.out
     have y3 : w7.cell? ⟨Y, 33, none⟩ = some (.bool y.g) := by rw [zG R7, veA_g33]
     have I7 := Lib.hid (hw7.inv I6.out)
     have l7 : (L5 ++ eT 32 y.m ++ eN u).length ≤ 1010360 := by rw [List.length_append]; have := eN_le u; omega
     have H7 := Lib.hid (wflag_any W _ y.g w7 I7.out (by omega))
     have HW7 := Lib.hid (Wr.trans I5.out HW6.out hw7)
     clear hw7 R7 H6 y2
     go_wp2_with fail
     refine H7.out.mono ?_
     rintro e w8 ⟨rfl, hw8⟩
     have W8 := Lib.hid (show Wr W (L4 ++ (r.l.take (i + 1)).flatMap eVe) w4 w8 by
      refine Wr.trans I4.out WI.out (Wr.behind (l := L5) HII.out B5.out ?_)
      have := Wr.trans I5.out HW7.out hw8
      rw [take_fm eVe hiL, ← List.append_assoc, ← HL5.out, ← HYY.out]
      unfold eVe
      rw [show y.u.toNat = u by rw [HU.out]; exact Int.toNat_natCast u, ← List.append_assoc, ← List.append_assoc]
      exact this)
     have hwr8 : IntKind.i64.wrap ((i : Int) + 1) = (i : Int) + 1 := IntWalk.i64_in _ (by omega)
     clear hw8 H7 y3
     go_wp2_with fail
     go_roundw
     case rel => exact ⟨i + 1, by omega, by go_num, W8.out⟩
     case measure => simp [intOf]; omega
    ·obtain rfl : i = m := by omega
     have hd2 : decide ((i : Int) < (i : Int)) = false := by simp
     have W9 := WI.out
     rw [HM.out, List.take_length] at W9
     have W9' := Lib.hid (show Wr W (L ++ (K.take (j + 1)).flatMap eRg) w1 wi by
      refine Wr.trans I1.out WO.out (Wr.behind (l := L1) HIO.out B2.out (Wr.trans I2.out HW4.out ?_))
      rw [take_fm eRg hjK, ← List.append_assoc, ← HL1.out, ← HRR.out]
      unfold eRg
      rw [← HM.out, ← List.append_assoc, ← List.append_assoc, ← HL4.out]
      exact W9)
     have hwr9 : IntKind.i64.wrap ((j : Int) + 1) = (j : Int) + 1 := IntWalk.i64_in _ (by omega)
     clear W9
     go_wp2_with fail
     go_roundw
     case rel => exact ⟨j + 1, by omega, by go_num, W9'.out⟩
     case measure => simp [intOf]; omega
  ·obtain rfl : j = n := by omega
   have hd : decide ((j : Int) < (j : Int)) = false := by simp
   have W9 := WO.out
   rw [HNN.out, List.take_length] at W9
   have W9' := Lib.hid (show Wr W (l ++ (eN j ++ K.flatMap eRg)) w wo by
    refine Wr.trans HW.out W1.out ?_
    rw [← List.append_assoc, ← HL.out]
    exact W9)
   clear W9
   go_wp2_with fail
   go_end0
   exact ⟨rfl, W9'.out⟩
theorem eRp_le (r : Rp) (h : rpG r) : (eRp r).length ≤ 4132 := by
 unfold eRp
 obtain ⟨-, -, -, h⟩ := h
 simp only [List.length_append, eT_len]
 have := eN_le r.c.toNat
 have := eN_le r.n.toNat
 have := eN_le r.m.toNat
 have := txL_le r.T
 omega
def seG (s : Se) : Prop := i63 s.id ∧ i63 s.q ∧ rpG (seR s)
theorem eSe_le (s : Se) (h : seG s) : (eSe s).length ≤ 4150 := by
 unfold eSe
 simp only [List.length_append]
 have := eN_le s.id.toNat
 have := eN_le s.q.toNat
 have := eRp_le _ h.2.2
 omega
theorem Wr.more {W : Nat} {l l1 : By} {w w4 w5 : World} {v v5 : Value} {k : Nat} {F : Bf} (hI : WrI W l w) (h : Wr W l1 w w4) (ho : Own w4 w.heap.size 5 v l1.length (lf l1)) (hg : w4.grownBy w5 v.ownBlock) (h5 : Own w5 w.heap.size 5 v5 (l1.length + k) (catF l1.length (lf l1) F)) :
  Wr W (l1 ++ bl k F) w (w5.setRow W #[v5]) := by
 obtain ⟨A, c, hp, -⟩ := h
 have hp5 : Put W #[.slice A l1.length c] w w5 := Own.after ho hg hp hp.size (Nat.le_refl _)
 obtain ⟨A', c', hr, -⟩ := hI
 have hlt := zL hr
 obtain ⟨A5, c5, rfl, -, -, -⟩ := h5.sl
 have e : l1.length + k = (l1 ++ bl k F).length := by rw [List.length_append, bl_len]
 have hr5 := hp5.row hr
 refine ⟨A5, c5, ?_, ?_⟩
 ·rw [← e]
  exact hp5.then hr (Put.of (Below.refl _ _) (zL hr5) _)
 ·rw [← e]
  refine ((h5.setRow W (fun e => by have := (World.ownsRow.lt h5 W e).1; omega) _).congr fun i hi => lf_more i hi).base hlt
theorem wsess_any (T : Mk) (ts : Nat) (W : Nat) (l : By) (A : Option Addr) (c : Nat) (L : List Se) (g : Nat) (w : World) (h : WrI W l w) (hE : ElAt 6 seEl T w ts A c L) (hn : T W ≠ ts) (hn0 : T W ≠ 0) (hG : ∀ s ∈ L, seG s) (hg : u63 g) (h8 : L.length ≤ 8) (hl : l.length ≤ 1000000) :
  Calls Tryz.prog 67 #[.pointer (some ⟨W, 0, none⟩), .slice A L.length c, .int .i64 (g : Int)] w fun e w' => e = .returned (.tuple #[]) ∧ Wr W (l ++ (eN g ++ (eN L.length ++ L.flatMap eSe))) w w' := by
 have HW := Lib.hid h
 have HE := Lib.hid hE
 have HN := Lib.hid hn
 have HN0 := Lib.hid hn0
 have HG := Lib.hid hG
 obtain ⟨n, hnn⟩ : ∃ n, n = L.length := ⟨_, rfl⟩
 have H1 := Lib.hid (wtwo_any W l g n w h hg (by omega) (by omega))
 have HNN := Lib.hid hnn
 have hlc : n ≤ c := by have := hE.le; omega
 have hcm := hE.big
 rw [← hnn] at h8 ⊢
 clear h hE hn hn0 hG hnn
 go_enter Tryz.func67, Tryz.ntmps67
 go_wp2_with fail
 refine H1.out.mono ?_
 rintro e w1 ⟨rfl, hw1, -⟩
 have W1 := Lib.hid hw1
 have E1 := Lib.hid (HE.out.fr xC (hw1.fr (T := T) (H := fun x => x = T W) rfl 0) (fun e => HN.out e.symm) (fun e => HN0.out e.symm))
 have TW1 := Lib.hid (show paint T w.heap.size 0 W = T W from zH HW.out.lt)
 obtain ⟨T1, hT1⟩ : ∃ T1, T1 = paint T w.heap.size 0 := ⟨_, rfl⟩
 rw [← hT1] at E1 TW1
 obtain ⟨L1, hL1⟩ : ∃ L1, L1 = l ++ (eN g ++ eN n) := ⟨_, rfl⟩
 have hL1l : L1.length ≤ 1000018 := by rw [hL1, List.length_append, List.length_append]; have := eN_le n; have := eN_le g; omega
 have I1 := Lib.hid (show WrI W L1 w1 by rw [hL1]; exact hw1.inv HW.out)
 have HL1 := Lib.hid hL1
 clear hw1 hT1 H1 hL1
 go_wp2_with fail
 go_loopw [16] (fun iv wr => ∃ j : Nat, j ≤ n ∧ iv = .int .i64 (j : Int) ∧ Wr W (L1 ++ (L.take j).flatMap eSe) w1 wr) (fun iv _ => n - (intOf iv).toNat)
 case atStart => exact ⟨0, by omega, rfl, by simpa using Wr.nil I1.out⟩
 case round =>
  obtain ⟨j, hj, rfl, hwr⟩ := hrel
  obtain ⟨wo, rfl⟩ : ∃ wo : World, wo = wr := ⟨_, rfl⟩
  have WO := Lib.hid hwr
  clear hwr
  by_cases hlt : j < n
  ·have hd : decide ((j : Int) < (n : Int)) = true := by simp; omega
   have hjK : j < L.length := by have := HNN.out; omega
   have E2 := E1.out.fr xC (WO.out.fr (T := T1) (H := fun x => x = T W) TW1.out 0) (fun e => HN.out e.symm) (fun e => HN0.out e.symm)
   obtain ⟨s, hs⟩ : ∃ s, s = L[j] := ⟨_, rfl⟩
   obtain ⟨gA, o, cur, A', c', rfl, hrow, htg, -, hrd, -, -, -, hld6⟩ := E2.seat hjK
   rw [← hs] at hrd hld6
   have hsG : seG s := by rw [hs]; exact HG.out _ (List.getElem_mem hjK)
   obtain ⟨si, hsi⟩ : ∃ si : Nat, s.id = (si : Int) := ⟨s.id.toNat, by have := hsG.1.1; omega⟩
   obtain ⟨sq, hsq⟩ : ∃ sq : Nat, s.q = (sq : Int) := ⟨s.q.toNat, by have := hsG.2.1.1; omega⟩
   have hsi63 : u63 si := by have := hsG.1.2; show si < _; omega
   have hsq63 : u63 sq := by have := hsG.2.1.2; show sq < _; omega
   have hld : ldR Tryz.prog 121 6 wo gA (o + j * 6) (row wo gA) = .ok (seV s (.slice A' s.T c')) wo := by rw [hrow]; exact hld6 _ _
   have IO := WO.out.inv I1.out
   obtain ⟨L2, hL2⟩ : ∃ L2, L2 = L1 ++ (L.take j).flatMap eSe := ⟨_, rfl⟩
   have hL2l : L2.length ≤ 1100000 := by
    rw [hL2, List.length_append]
    have := fm_le (e := eSe) (b := 4150) (l := L.take j) fun a ha => eSe_le a (HG.out a (List.mem_of_mem_take ha))
    rw [List.length_take] at this
    have := Nat.mul_le_mul_left 4150 (show min j L.length ≤ 8 by omega)
    omega
   rw [← hL2] at IO
   obtain ⟨w2, hw2⟩ : ∃ w2, w2 = wo.alloc (.cells #[.int .i64 s.id, .int .i64 s.q, .int .i64 s.c, .int .i64 s.n, .int .i64 s.m, .slice A' s.T c'] 121) := ⟨_, rfl⟩
   have b2 : Below wo.heap.size wo w2 := by rw [hw2]; exact (Below.refl _ _).alloc (Nat.le_refl _) _
   obtain ⟨X, hX⟩ : ∃ X, X = wo.heap.size := ⟨_, rfl⟩
   have rX : row w2 X = some #[.int .i64 s.id, .int .i64 s.q, .int .i64 s.c, .int .i64 s.n, .int .i64 s.m, .slice A' s.T c'] := by rw [hw2, hX]; exact zA _ _ _ _ rfl
   have hXW : X ≠ W := by have := IO.lt; omega
   have hXlt : X < w2.heap.size := zL rX
   have RD2 := Lib.hid (hrd.fr (Fr.new (H := fun _ => False) b2 0) (fun h => h))
   have tW2 : paint (paint T1 w1.heap.size 0) wo.heap.size 0 W = T W := by rw [zH IO.lt, zH (by have := I1.out.lt; omega)]; exact TW1.out
   obtain ⟨T2, hT2⟩ : ∃ T2, T2 = paint (paint T1 w1.heap.size 0) wo.heap.size 0 := ⟨_, rfl⟩
   rw [← hT2] at RD2 tW2
   have TW2 := Lib.hid tW2
   have RX := Lib.hid rX
   have I2 := Lib.hid (IO.below b2)
   have B2 := Lib.hid b2
   have HL2 := Lib.hid hL2
   have HS := Lib.hid hs
   have HX := Lib.hid hX
   have HIO := Lib.hid IO
   have HSG := Lib.hid hsG
   have x0 : w2.cell? ⟨X, 0, none⟩ = some (.int .i64 (si : Int)) := by rw [zG rX, ← hsi]; rfl
   have x1 : w2.cell? ⟨X, 1, none⟩ = some (.int .i64 (sq : Int)) := by rw [zG rX, ← hsq]; rfl
   have HSI := Lib.hid hsi
   have HSQ := Lib.hid hsq
   have H3 := Lib.hid (wtwo_any W L2 si sq w2 (IO.below b2) hsi63 hsq63 (by omega))
   clear E2 hrow hrd hld6 hs hsG hsi hsq hL2 b2 rX IO htg hT2 tW2
   go_upto_region 4 with fail
   rw [← hw2, ← HX.out]
   clear hw2 hld hX
   go_wp2_with fail
   refine H3.out.mono ?_
   rintro e w3 ⟨rfl, hw3, ho3⟩
   obtain ⟨A3, c3, r3, o3⟩ := ho3
   obtain ⟨L3, hL3⟩ : ∃ L3, L3 = L2 ++ (eN si ++ eN sq) := ⟨_, rfl⟩
   have hL3l : L3.length ≤ 1100018 := by rw [hL3, List.length_append, List.length_append]; have := eN_le si; have := eN_le sq; omega
   rw [← hL3] at hw3 r3 o3
   have hb3 : ∀ q, q < w2.heap.size → q ≠ W → w3.heap[q]? = w2.heap[q]? := fun q h1 h2 => hw3.block q h1 h2
   have rX3 : row w3 X = some #[.int .i64 s.id, .int .i64 s.q, .int .i64 s.c, .int .i64 s.n, .int .i64 s.m, .slice A' s.T c'] := by obtain ⟨A, c, hp, -⟩ := hw3; exact hp.other hXW RX.out
   have S3 : Sl w3 w3.heap.size A' s.T c' s.f := (RD2.out.fr (hw3.fr (T := T2) (H := fun x => x = T W) TW2.out 0) (fun e => HN0.out e.symm)).sl
   obtain ⟨sc, hsc⟩ : ∃ sc : Array Value, sc = #[.int .i64 s.id, .int .i64 s.q, .int .i64 s.c, .int .i64 s.n, .int .i64 s.m, .slice A' s.T c'] := ⟨_, rfl⟩
   rw [← hsc] at rX3
   have HW3 := Lib.hid hw3
   have HL3 := Lib.hid hL3
   have R3 := Lib.hid r3
   have O3 := Lib.hid o3
   have RX3 := Lib.hid rX3
   have SS3 := Lib.hid S3
   have HSC := Lib.hid hsc
   clear hw3 hL3 r3 o3 hb3 rX3 S3 hsc H3 x0 x1
   go_wp2_with fail
   refine zZ [([0, 1, 2, 3, 4, 5, 6], 7, false), ([8, 9], 10, false), ([], 11, false), ([12, 13], 14, true)] [] (fun y => row y W = some #[.slice A3 L3.length c3] ∧ row y X = some sc) (by kernel_rfl) (by kernel_rfl) (fun _ _ _ _ _ h => h) (by rw [zS, zS]; exact ⟨R3.out, RX3.out⟩) ?_
   obtain ⟨w4, hw4⟩ : ∃ w4, w4 = w3.drewN 1 := ⟨_, rfl⟩
   have b4 : Below w3.heap.size w3 w4 := by rw [hw4]; exact zQ (Below.refl _ _) 1
   rw [← hw4]
   have R4 := Lib.hid (zE b4 R3.out)
   have RX4 := Lib.hid (zE b4 RX3.out)
   have B4 := Lib.hid b4
   have SS4 := Lib.hid ((SS3.out.below b4).more b4.size)
   have O4 := Lib.hid (O3.out.below b4 (Nat.le_refl _))
   have hne : Nonempty (In (fun y => row y W = some #[.slice A3 L3.length c3] ∧ row y X = some sc)) := ⟨⟨w4, R4.out, RX4.out⟩⟩
   have e1 : ∀ y : In (fun y => row y W = some #[.slice A3 L3.length c3] ∧ row y X = some sc), y.val.cell? ⟨W, 0, none⟩ = some (.slice A3 L3.length c3) := fun y => zG y.ok.1 0
   have e2 : ∀ y : In (fun y => row y W = some #[.slice A3 L3.length c3] ∧ row y X = some sc), ldR Tryz.prog 33 4 y.val X 2 (row y.val X) = .ok (repV s.c s.n s.m (.slice A' s.T c')) y.val := fun y => by
    have h := y.ok.2.trans (congrArg some HSC.out)
    exact rp_cells _ _ _ _ _ _ _ (zG h 2) (zG h 3) (zG h 4) (zG h 5)
   clear hw4 b4 R3 O3 SS3
   have HR := Lib.hid (reply_any s.c s.n s.m s.T c' A' s.f w4 SS4.out (repN_b (r := seR s) HSG.out.2.2))
   simp only [wpFl, pk, List.getElem?_cons_zero, List.getElem?_cons_succ]
   refine zX ?_
   repeat (go_big_quiet_step (fail))
   refine wpQuiet_nil ?_
   clear e1 e2 hne
   go_wp2_with fail
   refine HR.out.mono ?_
   rintro e w5 (⟨h0, -, -⟩ | ⟨-, v5, rfl, ho5, hb5⟩)
   ·exact absurd (repE_g HSG.out.2.2) h0
   obtain ⟨A5, c5, rfl, hs5, -, -⟩ := ho5.sl
   have S5 := Lib.hid (show Sl w5 w5.heap.size A5 (repL s.c s.n s.m s.T) c5 (repF s.c s.n s.m s.T s.f) by
    rw [Nat.zero_add] at hs5
    exact hs5.congr fun i hi => by unfold catF; rw [if_neg (by omega), Nat.sub_zero])
   have B5 := Lib.hid (onto B4.out B4.out.size hb5)
   have R5 := Lib.hid (zE hb5 R4.out)
   have RX5 := Lib.hid (zE hb5 RX4.out)
   have O5 := Lib.hid (O4.out.below hb5 (Nat.le_refl _))
   clear ho5 hb5 HR hs5 R4 RX4 SS4 O4 B4
   go_wp2_with fail
   refine ⟨fun y => row y W = some #[.slice A3 L3.length c3] ∧ row y X = some sc, ⟨R5.out, RX5.out⟩, .inr ⟨⟨R5.out, RX5.out⟩, fun _ h => h⟩, ?_⟩
   show wpQuiet _ _ _ _ _ _
   refine zX ?_
   have hne : Nonempty (In (fun y => row y W = some #[.slice A3 L3.length c3] ∧ row y X = some sc)) := ⟨⟨w5, R5.out, RX5.out⟩⟩
   repeat (go_big_quiet_step (fail))
   refine wpQuiet_nil ?_
   go_wp2_with fail
   refine (mustb_ok _ _).mono ?_
   rintro e w6 ⟨rfl, rfl⟩
   go_wp2_with fail
   refine ⟨fun y => row y W = some #[.slice A3 L3.length c3] ∧ row y X = some sc, ⟨R5.out, RX5.out⟩, .inr ⟨⟨R5.out, RX5.out⟩, fun _ h => h⟩, ?_⟩
   show wpQuiet _ _ _ _ _ _
   refine wpQuiet_nil ?_
   have hR : repL s.c s.n s.m s.T ≤ 4132 := by have := eRp_le _ HSG.out.2.2; rw [eRp_bl, bl_len] at this; exact this
   have hbz := B5.out.size
   have hwz := HW3.out.size
   go_wp2_with (refine yS rfl (.tmp 31) (.tmp 37) rfl zY yN O5.out S5.out (by omega) (by omega) rfl rfl ?_; intro v7 w7 ho7 hg7 ht7)
   have W5 := Lib.hid (show Wr W L3 w2 w6 from by
    obtain ⟨A, c, hp, ho⟩ := HW3.out
    exact ⟨A, c, hp.calm B5.out, ho.below B5.out (Nat.le_refl _)⟩)
   obtain ⟨A7, c7, rfl, -, -, -⟩ := ho7.sl
   have W7 := Lib.hid (show Wr W (L1 ++ (L.take (j + 1)).flatMap eSe) w1 (w7.setRow W #[.slice A7 (L3.length + repL s.c s.n s.m s.T) c7]) by
    have h7 := Wr.more I2.out W5.out O5.out hg7 ho7
    refine Wr.trans I1.out WO.out (Wr.behind (l := L2) HIO.out B2.out ?_)
    rw [take_fm eSe hjK, ← List.append_assoc, ← HL2.out, ← HS.out]
    unfold eSe
    rw [HSI.out, HSQ.out, Int.toNat_natCast, Int.toNat_natCast, ← List.append_assoc (eN si), ← List.append_assoc L2, ← HL3.out]
    have e := eRp_bl (seR s)
    rw [e]
    exact h7)
   have r7 : row w7 W = some #[.slice A3 L3.length c3] := by
    rw [yV ((Own.after O5.out hg7 (Below.refl w2.heap.size w6) (by omega) (Nat.le_refl _)).block W I2.out.lt)]
    exact R5.out
   have rx7 : row w7 X = some sc := by
    rw [yV ((Own.after O5.out hg7 (Below.refl w2.heap.size w6) (by omega) (Nat.le_refl _)).block X hXlt)]
    exact RX5.out
   have RR7 := Lib.hid (show row w7 W = some #[.slice A3 L3.length c3] ∧ row w7 X = some sc from ⟨r7, rx7⟩)
   have f7 := zN r7 0
   have c7' : w7.cell? ⟨W, 0, none⟩ = some (.slice A3 L3.length c3) := zG r7 0
   have e7 := zJ r7 0 (.slice A7 (L3.length + repL s.c s.n s.m s.T) c7)
   have R7 := Lib.hid (show #[Value.slice A3 L3.length c3].setIfInBounds 0 (.slice A7 (L3.length + repL s.c s.n s.m s.T) c7) = #[.slice A7 (L3.length + repL s.c s.n s.m s.T) c7] from rfl)
   rw [R7.out] at e7
   clear r7 R7 rx7
   clear ho7 hg7 ht7 W5 O5 S5 R5 RX5
   refine ⟨fun y => row y W = some #[.slice A3 L3.length c3] ∧ row y X = some sc, RR7.out, ?_⟩
   first | refine ⟨.inr ⟨RR7.out, fun _ h => h⟩, ?_⟩ | refine ⟨⟨RR7.out, fun _ h => h⟩, ?_⟩
   show wpQuiet _ _ _ _ _ _
   refine zX ?_
   have hne : Nonempty (In (fun y => row y W = some #[.slice A3 L3.length c3] ∧ row y X = some sc)) := ⟨⟨w7, RR7.out⟩⟩
   repeat (go_big_quiet_step (fail))
   refine wpQuiet_nil ?_
   go_wp2_with fail
   refine ⟨fun _ => True, trivial, ?_⟩
   first | refine ⟨.inl rfl, ?_⟩ | skip
   show wpQuiet _ _ _ _ _ _
   refine wpQuiet_nil ?_
   have hwr8 : IntKind.i64.wrap ((j : Int) + 1) = (j : Int) + 1 := IntWalk.i64_in _ (by omega)
   clear f7 c7' hne
   go_wp2_with fail
   go_roundw
   case rel => exact ⟨j + 1, by omega, by go_num, by first | exact W7.out | (rw [e7]; exact W7.out)⟩
   case measure => simp [intOf]; omega
  ·obtain rfl : j = n := by omega
   have hd : decide ((j : Int) < (j : Int)) = false := by simp
   have W9 := WO.out
   rw [HNN.out, List.take_length] at W9
   have W9' := Lib.hid (show Wr W (l ++ (eN g ++ (eN j ++ L.flatMap eSe))) w wo by
    refine Wr.trans HW.out W1.out ?_
    rw [← List.append_assoc (eN g), ← List.append_assoc l, ← HL1.out]
    exact W9)
   clear W9
   go_wp2_with fail
   go_end0
   exact ⟨rfl, W9'.out⟩
theorem MpV.re {T T2 : Mk} {w : World} {t t2 : Nat} {mv : Option Nat} {l : List Se} (h : MpV T w t mv l) (h1 : ∀ j, T j = t → T2 j = t2) (h0 : ∀ j, T j = 0 → T2 j = 0) : MpV T2 w t2 mv l := by
 rcases h with h | ⟨M, rfl, hT, hM⟩
 ·exact .inl h
 ·exact .inr ⟨M, rfl, h1 _ hT, hM.re h0⟩
theorem StAt.re {T T2 : Mk} {w : World} {t t2 B : Nat} {x : Sx} (h : StAt T w t B x) (h1 : ∀ j, T j = t → T2 j = t2) (h2 : ∀ j, T j = t + 1 → T2 j = t2 + 1) (h0 : ∀ j, T j = 0 → T2 j = 0) : StAt T2 w t2 B x := by
 obtain ⟨ks, mv, hr, hk, hm⟩ := h.at_
 exact ⟨h1 _ h.tg, ⟨ks, mv, hr, hk, hm.re h2 h0⟩, h.ok⟩
def only (T : Mk) (t : Nat) : Mk := fun k => if T k = t then 1 else if T k = t + 1 then 2 else 0
theorem only_le (T : Mk) (t k : Nat) : only T t k ≤ 2 := by unfold only; split <;> (try split) <;> omega
theorem StAt.only {T : Mk} {w : World} {t B : Nat} {x : Sx} (h : StAt T w t B x) (ht : 0 < t) : StAt (only T t) w 1 B x :=
 h.re (fun j e => by unfold Oct.only; rw [if_pos e]) (fun j e => by unfold Oct.only; rw [if_neg (by omega), if_pos e]) fun j e => by unfold Oct.only; rw [if_neg (by omega), if_neg (by omega)]
structure SxR (x : Sx) : Prop where
 ok : SxOk x
 sd : ∀ s ∈ x.l, SdOk s
 n : x.n < 9223372036854775808
theorem SxR.w {x : Sx} (h : SxR x) : SxW x := h.ok.wr h.sd h.n
theorem SxR.seG {x : Sx} (h : SxR x) : ∀ s ∈ x.l, seG s := fun s hs => by
 obtain ⟨a, b, c, d, e, f⟩ := h.w.l s hs
 exact ⟨a, b, c, d, e, by have := (h.sd s hs).T; show s.T ≤ 4096; omega⟩
theorem fm_eRg_le {K : Ks} (h : okK K) : (K.flatMap eRg).length ≤ 2032 := by
 have := fm_le (e := eRg) (b := 254) (l := K) fun a ha => eRg_le a (h.2 a ha).1.2
 have := Nat.mul_le_mul_left 254 h.1
 omega
theorem eSx_len {x : Sx} (h : SxR x) : (eSx x).length ≤ 40000 := by
 unfold eSx
 simp only [List.length_append]
 have a1 := eT32_le x.d.1
 have a2 := eT32_le x.d.2
 have a3 := eN_le x.n.toNat
 have a4 := eN_le x.K.length
 have a5 := fm_eRg_le h.ok.K
 have a6 := eN_le (x.g + 1).toNat
 have a7 := eN_le x.l.length
 have a8 := fm_le (e := eSe) (b := 4150) (l := x.l) fun a ha => eSe_le a (h.seG a ha)
 have a9 := Nat.mul_le_mul_left 4150 h.ok.T.n
 omega
theorem penc16_any (T : Mk) (t B : Nat) (x : Sx) (w : World) (hS : StAt T w t B x) (ht : 0 < t) (hx : SxR x) :
  Calls Tryz.prog 22 #[.pointer (some ⟨B, 0, none⟩)] w fun e w' => ∃ A c, e = .returned (.slice A (eSx x).length c) ∧ Own w' w.heap.size 5 (.slice A (eSx x).length c) (eSx x).length (lf (eSx x)) ∧ Below w.heap.size w w' := by
 have HX := Lib.hid hx
 have HS := Lib.hid (hS.only ht)
 obtain ⟨T0, hT0⟩ : ∃ T0, T0 = only T t := ⟨_, rfl⟩
 have HT0 := Lib.hid (show ∀ k, T0 k ≤ 2 from fun k => by rw [hT0]; exact only_le _ _ _)
 rw [← hT0] at HS
 clear hT0 hS ht hx
 go_enter Tryz.func22, Tryz.ntmps22
 go_wp2_with fail
 obtain ⟨W, hW⟩ : ∃ W, W = w.heap.size := ⟨_, rfl⟩
 obtain ⟨w1, hw1⟩ : ∃ w1, w1 = w.alloc (.cells #[.slice none 0 0] 130) := ⟨_, rfl⟩
 have b1 : Below w.heap.size w w1 := by rw [hw1]; exact (Below.refl _ _).alloc (Nat.le_refl _) _
 have r1 : row w1 W = some #[.slice none 0 0] := by rw [hw1, hW]; exact zA _ _ _ _ rfl
 have z1 : W + 1 ≤ w1.heap.size := zL r1
 have I1 := Lib.hid (show WrI W [] w1 from ⟨none, 0, r1, Own.nil _ _ _ _⟩)
 have B1 := Lib.hid b1
 have S1 := Lib.hid (HS.out.fr (Fr.new (H := fun _ => False) b1 60) (fun h => h) (fun h => h) (fun h => h))
 obtain ⟨T1, hT1⟩ : ∃ T1, T1 = paint T0 w.heap.size 60 := ⟨_, rfl⟩
 have tW1 : T1 W = 60 := by rw [hT1, hW]; exact zP (Nat.le_refl _)
 have M1 := Lib.hid (show ∀ k, T1 k ≤ 60 from fun k => by
  rw [hT1]
  have := HT0.out k
  unfold paint
  split <;> omega)
 rw [← hT1] at S1
 rw [← hw1, ← hW]
 have HWW := Lib.hid hW
 clear HS HT0 b1 r1 hT1 hw1 hW
 obtain ⟨R, hr, -⟩ := S1.out.src
 obtain ⟨n, hn⟩ : ∃ n : Nat, x.n = (n : Int) := ⟨x.n.toNat, by have := HX.out.ok.c; omega⟩
 have hr' : row w1 B = some (srcC R x.d.1 x.d.2 (n : Int)) := by rw [← hn]; exact hr
 have H1 := Lib.hid (wsrc_any W [] x.d n B R w1 I1.out hr' (by have := HX.out.n; show n < _; omega) (by simp))
 have HNn := Lib.hid hn
 clear hr hr' hn
 refine H1.out.mono ?_
 rintro e w2 ⟨rfl, hw2⟩
 have f2 := hw2.fr (T := T1) (H := fun x => x = 60) tW1 0
 have S2 := Lib.hid (S1.out.fr f2 (by omega) (by omega) (by omega))
 have W2 := Lib.hid hw2
 have I2 := Lib.hid (hw2.inv I1.out)
 have z2 := hw2.size
 have M2 := Lib.hid (show ∀ k, paint T1 w1.heap.size 0 k ≤ 60 from fun k => by
  have := M1.out k
  unfold paint
  split <;> omega)
 have tW2 : paint T1 w1.heap.size 0 W = 60 := by rw [zH (by omega)]; exact tW1
 obtain ⟨T2, hT2⟩ : ∃ T2, T2 = paint T1 w1.heap.size 0 := ⟨_, rfl⟩
 rw [← hT2] at S2 M2 tW2
 have H2' := Lib.hid (prings16_any T2 1 80 B x w2 S2.out (fun k _ h => by have := M2.out k; unfold Hk at h; omega))
 clear f2 hT2 H1 S1 M1 hw2 tW1
 go_wp2_with fail
 refine H2'.out.mono ?_
 rintro e w3 ⟨v, T3, rfl, hR, hk⟩
 have S3 := Lib.hid (S2.out.fr (Fr.calm (H := fun _ => False) hk.below hk.tag) (fun h => h) (fun h => h) (fun h => h))
 have I3 := Lib.hid (I2.out.below hk.below)
 have W3 := Lib.hid (show Wr W ([] ++ (eT 32 x.d.1 ++ (eT 32 x.d.2 ++ eN n))) w1 w3 by
  obtain ⟨A, c, hp, ho⟩ := W2.out
  exact ⟨A, c, hp.calm hk.below, ho.below hk.below (Nat.le_refl _)⟩)
 have tW3 : T3 W = 60 := by rw [hk.tag W (by omega)]; exact tW2
 have M3 := Lib.hid (show ∀ k, k < w3.heap.size → T3 k ≠ 70 from fun k _ e => by
  rcases hk.mks k with h | h
  ·have := M2.out k; omega
  ·unfold Hk at h; omega)
 obtain ⟨L1, hL1⟩ : ∃ L1, L1 = [] ++ (eT 32 x.d.1 ++ (eT 32 x.d.2 ++ eN n)) := ⟨_, rfl⟩
 have hl1 : L1.length ≤ 91 := by
  rw [hL1, List.nil_append]
  simp only [List.length_append]
  have := eT32_le x.d.1
  have := eT32_le x.d.2
  have := eN_le n
  omega
 rw [← hL1] at I3 W3
 have H3 := Lib.hid (wkeys_any T3 80 W L1 v x.K w3 I3.out hR (by rw [tW3]; unfold Hk; omega) HX.out.ok.K (by omega))
 have HL1 := Lib.hid hL1
 have z3 := hk.below.size
 clear hR hk hL1 H2' S2 I2 W2 M2 tW2
 go_wp2_with fail
 refine H3.out.mono ?_
 rintro e w4 ⟨rfl, hw4⟩
 have f4 := hw4.fr (T := T3) (H := fun x => x = 60) tW3 0
 have S4 := Lib.hid (S3.out.fr f4 (by omega) (by omega) (by omega))
 have I4 := Lib.hid (hw4.inv I3.out)
 have W4 := Lib.hid (Wr.trans I1.out W3.out hw4)
 have z4 := hw4.size
 have tW4 : paint T3 w3.heap.size 0 W = 60 := by rw [zH (by omega)]; exact tW3
 have M4 := Lib.hid (show ∀ k, k < w4.heap.size → paint T3 w3.heap.size 0 k ≠ 70 from fun k _ => by
  by_cases hk : k < w3.heap.size
  ·rw [zH hk]; exact M3.out k hk
  ·rw [zP (by omega)]; omega)
 obtain ⟨T4, hT4⟩ : ∃ T4, T4 = paint T3 w3.heap.size 0 := ⟨_, rfl⟩
 rw [← hT4] at S4 M4 tW4
 have H4 := Lib.hid (pseats16_any T4 1 70 B x w4 S4.out (by omega) (by omega) (by omega) (by omega))
 clear f4 hT4 H3 S3 I3 W3 M3 tW3 hw4
 go_wp2_with fail
 refine H4.out.mono ?_
 rintro e w5 ⟨A, c, T5, rfl, hE, hf5⟩
 have b5 : Below w4.heap.size w4 w5 := hf5.below (Nat.le_refl _) M4.out
 obtain ⟨L4, hL4⟩ : ∃ L4, L4 = L1 ++ (eN x.K.length ++ x.K.flatMap eRg) := ⟨_, rfl⟩
 have hl4 : L4.length ≤ 2132 := by
  rw [hL4]
  simp only [List.length_append]
  have := eN_le x.K.length
  have := fm_eRg_le HX.out.ok.K
  omega
 rw [← hL4] at W4 I4
 have I5 := Lib.hid (I4.out.below b5)
 have W5 := Lib.hid (show Wr W L4 w1 w5 by
  obtain ⟨A, c, hp, ho⟩ := W4.out
  exact ⟨A, c, hp.calm b5, ho.below b5 (Nat.le_refl _)⟩)
 have tW5 : T5 W = 60 := by rw [hf5.tag W (by omega)]; exact tW4
 obtain ⟨g, hg⟩ : ∃ g : Nat, x.g + 1 = (g : Int) := ⟨(x.g + 1).toNat, by have := HX.out.ok.T.g0; omega⟩
 have H5 := Lib.hid (wsess_any T5 70 W L4 A c x.l g w5 I5.out hE (by omega) (by omega) HX.out.seG (by have := HX.out.ok.T.g1; show g < _; omega) HX.out.ok.T.n (by omega))
 have HGg := Lib.hid hg
 have HL4 := Lib.hid hL4
 rw [hg]
 clear b5 hE hf5 hL4 H4 S4 I4 W4 M4 tW4 hg
 go_wp2_with fail
 refine H5.out.mono ?_
 rintro e w6 ⟨rfl, hw6⟩
 have W6 := Lib.hid (show Wr W (eSx x) w1 w6 by
  have h := Wr.trans I1.out W5.out hw6
  rw [HL4.out, HL1.out] at h
  unfold eSx
  rw [HGg.out, HNn.out, Int.toNat_natCast, Int.toNat_natCast]
  simpa only [List.append_assoc, List.nil_append] using h)
 obtain ⟨A6, c6, hp6, ho6⟩ := W6.out
 obtain ⟨A0, c0, hr0, -⟩ := I1.out
 have hr6 := hp6.row hr0
 have k6 : w6.cell? ⟨W, 0, none⟩ = some (.slice A6 (eSx x).length c6) := zG hr6 0
 have Bf := Lib.hid (show Below w.heap.size w w6 from B1.out.trans (hp6.low (by rw [HWW.out]; exact Nat.le_refl _) B1.out.size))
 have O6 := Lib.hid (ho6.base (show w.heap.size ≤ W + 1 by rw [HWW.out]; omega))
 clear H5 W5 I5 W6 hw6 hp6 ho6 hr6 hr0
 go_wp2_with fail
 go_ret
 exact ⟨A6, c6, rfl, O6.out, Bf.out⟩
theorem few16_any (A : Option Addr) (n c : Nat) (h : n ≤ c) (hc : c ≤ maxLen) (w : World) :
  Calls Tryz.prog 12 #[.slice A n c] w fun e w' => e = .returned (.slice A (min n 100) c) ∧ w = w' := by
 unfold maxLen at hc
 by_cases hlt : 100 < n
 ·have hd : decide ((100 : Int) < (n : Int)) = true := by simp; omega
  have hup := run_upto (P := Tryz.prog) zY u8_i A n c 100 (by omega)
  rw [show min n 100 = 100 by omega]
  go_enter Tryz.func12, Tryz.ntmps12
  go_wp2
  go_ret
  exact ⟨rfl, rfl⟩
 ·have hd : decide ((100 : Int) < (n : Int)) = false := by simp; omega
  rw [show min n 100 = n by omega]
  go_enter Tryz.func12, Tryz.ntmps12
  go_wp2
  go_ret
  exact ⟨rfl, rfl⟩
structure SxB (k : Nat) (x : Sx) : Prop where
 ok : SxOk x
 sd : ∀ s ∈ x.l, SdOk s
 n : x.n ≤ (k : Int)
theorem SxB.ap {k : Nat} {x : Sx} (h : SxB k x) (c : Cm) : SxB (k + 1) (apX x c) := ⟨apX_ok h.ok, apX_sd h.ok h.sd, by have := apX_n (c := c) h.ok.c; have := h.n; omega⟩
theorem SxB.r {k : Nat} {x : Sx} (h : SxB k x) (hk : k ≤ 1000000) : SxR x := ⟨h.ok, h.sd, by have := h.n; omega⟩
theorem SxB.new (f : Bf) (n : Nat) : SxB 1 (st0 f n) := ⟨st0_ok f n, st0_sd f n, Int.le_refl 1⟩
theorem SxB.up {k k' : Nat} {x : Sx} (h : SxB k x) (hk : k ≤ k') : SxB k' x := ⟨h.ok, h.sd, by have := h.n; omega⟩
abbrev Kp := Mk → World → Prop
def Stb (S : Nat → Prop) (K : Kp) : Prop := ∀ (T T' : Mk) (H : Nat → Prop) (w w' : World), K T w → Fr T T' H w w' → (∀ c, H c → S c) → K T' w'
section
variable {S S' : Nat → Prop} {K K' : Kp}
theorem Stb.triv : Stb S fun _ _ => True := fun _ _ _ _ _ _ _ _ => trivial
theorem Stb.and (h : Stb S K) (h' : Stb S K') : Stb S fun T w => K T w ∧ K' T w := fun T T' H w w' k f hH => ⟨h T T' H w w' k.1 f hH, h' T T' H w w' k.2 f hH⟩
theorem Stb.less (h : Stb S K) (hs : ∀ c, S' c → S c) : Stb S' K := fun T T' H w w' k f hH => h T T' H w w' k f fun c hc => hs c (hH c hc)
theorem Stb.rd {t : Nat} {A : Option Addr} {n c : Nat} {f : Bf} (ht : ¬ S t) : Stb S fun T w => RdS T w t A n c f := fun T T' H w w' k fr hH => k.fr fr fun h => ht (hH _ h)
theorem Stb.row {t b : Nat} {c : Array Value} (ht : ¬ S t) : Stb S fun T w => Oct.row w b = some c ∧ T b = t := fun T T' H w w' k f hH => ⟨f.rowAt k.1 fun h => ht (by rw [← k.2]; exact hH _ h), by rw [f.tag b (zL k.1)]; exact k.2⟩
theorem Stb.st {t B : Nat} {x : Sx} (h0 : ¬ S 0) (h1 : ¬ S t) (h2 : ¬ S (t + 1)) : Stb S fun T w => StAt T w t B x := fun T T' H w w' k f hH => k.fr f (fun h => h1 (hH _ h)) (fun h => h2 (hH _ h)) (fun h => h0 (hH _ h))
end
def LS (K : Kp) (W w : World) : Prop := ∃ T, Fr (fun _ => 0) T (fun c => c ≠ 0) W w ∧ K T w
section
variable {S : Nat → Prop} {K K' : Kp} {W w w' : World} {t B : Nat} {x : Sx}
theorem LS.bel (h : LS K W w) : Below W.heap.size W w := by obtain ⟨T, hf, -⟩ := h; exact hf.below (Nat.le_refl _) fun k _ h => h rfl
theorem LS.mono (h : LS K W w) (hk : ∀ T, K T w → K' T w) : LS K' W w := by obtain ⟨T, hf, k⟩ := h; exact ⟨T, hf, hk T k⟩
theorem LS.fact (h : LS K W w) : ∃ T, K T w := by obtain ⟨T, hf, k⟩ := h; exact ⟨T, k⟩
theorem LS.init (W : World) (hk : K (fun _ => 0) W) : LS K W W := ⟨_, Fr.refl _ _ _, hk⟩
theorem LS.add (h : LS K W w) (hK : Stb (fun _ => False) K) (hb : Below w.heap.size w w') (t : Nat) (hk : ∀ T, K' (paint T w.heap.size t) w') : LS (fun T w => K T w ∧ K' T w) W w' := by
 obtain ⟨T, hf, k⟩ := h
 exact ⟨_, hf.trans (Fr.new hb t), hK _ _ _ _ _ k (Fr.new (H := fun _ => False) hb t) (fun _ h => h), hk T⟩
theorem LS.calm (h : LS K W w) (hK : Stb (fun _ => False) K) (hb : Below w.heap.size w w') : LS K W w' := (h.add hK hb 0 (K' := fun _ _ => True) fun _ => trivial).mono fun _ h => h.1
theorem LS.tab (h : LS K W w) (ht : Tab W) : Tab w := ht.below h.bel ht.pos
theorem Stb.calm (h : Stb S K) : Stb (fun _ => False) K := h.less fun _ h => h.elim
theorem LS.sl (h : LS K W w) {A : Option Addr} {n c : Nat} {f : Bf} (hs : Sl W W.heap.size A n c f) : LS (fun T w => K T w ∧ RdS T w 0 A n c f) W w := by
 obtain ⟨T, hf, k⟩ := h
 exact ⟨T, hf, k, (RdS.of_sl hs (Nat.le_refl _) (fun _ _ => rfl) : RdS (fun _ => 0) W 0 A n c f).fr hf fun h => h rfl⟩
theorem ls_new (h : LS K W w) (hK : Stb (fun _ => False) K) (htab : Tab W) (ht : 0 < t) {A : Option Addr} {n cc : Nat} {f : Bf} (hs : ∀ T, K T w → RdS T w 0 A n cc f) (hn : n ≤ 140737488354000) :
  Calls Tryz.prog 11 #[.slice A n cc] w fun e w' => ∃ B, e = .returned (.pointer (some ⟨B, 0, none⟩)) ∧ LS (fun T w => K T w ∧ StAt T w t B (st0 f n)) W w' ∧ Below w.heap.size w w' := by
 obtain ⟨T, hf, k⟩ := h
 refine (pnew16_any T t f n cc A w (LS.tab ⟨T, hf, k⟩ htab) (hs T k).sl hn ht).mono ?_
 rintro e w' ⟨B, rfl, hst, hb⟩
 exact ⟨B, rfl, ⟨_, hf.trans (Fr.new hb t), hK _ _ _ _ _ k (Fr.new (H := fun _ => False) hb t) (fun _ h => h), hst⟩, hb⟩
theorem ls_apply (h : LS (fun T w => StAt T w t B x ∧ K T w) W w) (hK : Stb (H2 t) K) (htab : Tab W) (ht : 0 < t) (c : Cm) {tc : Nat} {A A' : Option Addr} {a a' : Nat} (hc : ∀ T, K T w → CmR T w tc c A a A' a') (htc : off3 t tc) (hn : x.n ≤ 1048576) :
  Calls Tryz.prog 15 #[.pointer (some ⟨B, 0, none⟩), cmV c A a A' a'] w fun e w' => ∃ A k, e = .returned (rpV (apR x c) A k) ∧ LS (fun T w => StAt T w t B (apX x c) ∧ K T w ∧ RdS T w 0 A (apR x c).T k (apR x c).f) W w' ∧ w.heap.size ≤ w'.heap.size := by
 obtain ⟨T, hf, hst, k⟩ := h
 have hb : Below W.heap.size W w := hf.below (Nat.le_refl _) fun k _ h => h rfl
 have h0 : T 0 = 0 := hf.tag 0 htab.pos
 refine (papply_any T t B tc x c A A' a a' w ⟨hst, ht, htab.below hb htab.pos, by rw [h0]; exact .inl ht, hc T k, htc, hn⟩).mono ?_
 rintro e w' ⟨T', hf', hst', A2, k2, rfl, hrd⟩
 exact ⟨A2, k2, rfl, ⟨T', hf.trans (hf'.mono fun c hc => by unfold H2 at hc; omega), hst', hK _ _ _ _ _ k hf' fun _ h => h, hrd⟩, hf'.size⟩
theorem ls_enc (h : LS (fun T w => StAt T w t B x ∧ K T w) W w) (hK : Stb (fun _ => False) K) (ht : 0 < t) (hx : SxR x) :
  Calls Tryz.prog 22 #[.pointer (some ⟨B, 0, none⟩)] w fun e w' => ∃ A c, e = .returned (.slice A (eSx x).length c) ∧ Own w' w.heap.size 5 (.slice A (eSx x).length c) (eSx x).length (lf (eSx x)) ∧ LS (fun T w => StAt T w t B x ∧ K T w) W w' ∧ Below w.heap.size w w' := by
 obtain ⟨T, hf, hst, k⟩ := id h
 refine (penc16_any T t B x w hst ht hx).mono ?_
 rintro e w' ⟨A, c, rfl, ho, hb⟩
 exact ⟨A, c, rfl, ho, h.calm (Stb.and (Stb.st (fun h => h) (fun h => h) (fun h => h)) hK) hb, hb⟩
end
def ownC (c : Cm) : Cm := { c with T := min c.T 200, U := min c.U 200 }
abbrev coA (k s q i n : Int) (V V' : Value) : Array Value := #[.int .i64 k, .int .i64 s, .int .i64 q, .int .i64 i, .int .i64 n, V, V']
abbrev coZ : Array Value := #[.int .i64 0, .int .i64 0, .int .i64 0, .int .i64 0, .int .i64 0, .slice none 0 0, .slice none 0 0]
theorem ones7 (x0 x1 x2 x3 x4 : Int) (A A' : Option Addr) (n c n' c' : Nat) : Ones #[.int .i64 x0, .int .i64 x1, .int .i64 x2, .int .i64 x3, .int .i64 x4, .slice A n c, .slice A' n' c'] := by
 unfold Ones
 have a (x : Int) : (Value.int .i64 x).oneCell' = true := rfl
 have b (A : Option Addr) (n c : Nat) : (Value.slice A n c).oneCell' = true := rfl
 simp [a, b]
@[go_sem] theorem co_stx (P : Program) (t : Nat) (w : World) (b : Nat) (x0 x1 x2 x3 x4 : Int) (A A' : Option Addr) (n c n' c' : Nat) (y0 y1 y2 y3 y4 y5 y6 : Value) :
  stR P t 7 w b 0 (.agg #[.int .i64 x0, .int .i64 x1, .int .i64 x2, .int .i64 x3, .int .i64 x4, .slice A n c, .slice A' n' c']) (some #[y0, y1, y2, y3, y4, y5, y6]) = .ok () (w.setRow b #[.int .i64 x0, .int .i64 x1, .int .i64 x2, .int .i64 x3, .int .i64 x4, .slice A n c, .slice A' n' c']) :=
 stR_whole P t 7 w b _ _ rfl rfl (ones7 _ _ _ _ _ _ _ _ _ _ _)
theorem own16_any (c : Cm) (A : Option Addr) (a : Nat) (A' : Option Addr) (a' : Nat) (w : World) (h : Sl w w.heap.size A c.T a c.f) (h' : Sl w w.heap.size A' c.U a' c.h) :
  Calls Tryz.prog 23 #[cmV c A a A' a'] w fun e w' => ∃ A1 a1 A2 a2, e = .returned (cmV (ownC c) A1 a1 A2 a2) ∧ Own w' w.heap.size 5 (.slice A1 (ownC c).T a1) (ownC c).T c.f ∧ Own w' w.heap.size 5 (.slice A2 (ownC c).U a2) (ownC c).U c.h ∧ Below w.heap.size w w' := by
 obtain ⟨k, s, q, i, n, T, f, U, g⟩ := c
 obtain ⟨K, hK⟩ : ∃ K, K = min T 200 := ⟨_, rfl⟩
 obtain ⟨L, hL⟩ : ∃ L, L = min U 200 := ⟨_, rfl⟩
 show Calls Tryz.prog 23 #[comV k s q i n (.slice A T a) (.slice A' U a')] w fun e w' => ∃ A1 a1 A2 a2, e = .returned (comV k s q i n (.slice A1 (min T 200) a1) (.slice A2 (min U 200) a2)) ∧ Own w' w.heap.size 5 (.slice A1 (min T 200) a1) (min T 200) f ∧ Own w' w.heap.size 5 (.slice A2 (min U 200) a2) (min U 200) g ∧ Below w.heap.size w w'
 rw [← hK, ← hL]
 have HKm := Lib.hid hK
 have HLm := Lib.hid hL
 have hk2 : K ≤ 200 := by omega
 have hl2 : L ≤ 200 := by omega
 obtain ⟨b, hb⟩ : ∃ b, b = w.heap.size := ⟨_, rfl⟩
 obtain ⟨w1, hw1⟩ : ∃ w1, w1 = (w.alloc (.cells (coA k s q i n (.slice A T a) (.slice A' U a')) 36)).alloc (.cells coZ 36) := ⟨_, rfl⟩
 have bw : Below w.heap.size w w1 := by rw [hw1]; exact ((Below.refl _ _).alloc (by simp) _).alloc (by simp) _
 have hz : w1.heap.size = b + 2 := by rw [hw1, hb]; simp
 have r1 : row w1 b = some (coA k s q i n (.slice A T a) (.slice A' U a')) := by rw [hw1, hb]; exact zK (zA _ _ _ _ rfl) _
 have R2 := Lib.hid (show row w1 (b + 1) = some coZ by rw [hw1, hb]; exact zA _ _ _ _ (by simp))
 have hTa : T ≤ a := h.le
 have hUa : U ≤ a' := h'.le
 have HS := Lib.hid (show Sl w w.heap.size A T a f from h)
 have HS' := Lib.hid (show Sl w w.heap.size A' U a' g from h')
 have B1 := Lib.hid bw
 have R1 := Lib.hid r1
 have HB := Lib.hid hb
 clear h h' bw hK hL r1
 go_enter Tryz.func23, Tryz.ntmps23
 go_upto_region 1 with fail
 rw [← hw1, ← hb]
 clear hw1 hb
 have hz1 := Lib.hid hz
 clear hz
 obtain ⟨a0, a1, a2, a3, a4, a5, a6⟩ := zV R1.out
 obtain ⟨w2, hw2⟩ : ∃ w2, w2 = if 200 < T then w1.setRow b (coA k s q i n (.slice A K a) (.slice A' U a')) else w1 := ⟨_, rfl⟩
 have R2x := Lib.hid (show row w2 b = some (coA k s q i n (.slice A K a) (.slice A' U a')) ∧ row w2 (b + 1) = some coZ ∧ Below b w w2 ∧ w2.heap.size = b + 2 by
  have h1 := R1.out
  have h2 := R2.out
  have h3 := B1.out
  have h4 := hz1.out
  have h5 := HKm.out
  rw [← HB.out] at h3
  by_cases hc : 200 < T
  ·rw [hw2, if_pos hc]
   exact ⟨zC h1 _, by rw [zD _ _ _ _ (by omega)]; exact h2, zF h3 (Nat.le_refl _) _, by rw [yO]; exact h4⟩
  ·rw [hw2, if_neg hc, show K = T by omega]
   exact ⟨h1, h2, h3, h4⟩)
 by_cases hc : 200 < T
 case' pos =>
  have d1 : decide ((200 : Int) < (T : Int)) = true := decide_eq_true (by omega)
  have hca : (200 : Int) ≤ (a : Int) := by omega
  have f5 := zN R1.out 5
  have qu := run_uptoJ (P := Tryz.prog) (m := 1) zY (by kernel_rfl) A T a 200 (by omega) w1
  rw [if_pos hc, show K = 200 by have := HKm.out; omega] at hw2
  go_upto_region 3 with fail
  rw [zJ R1.out, show (coA k s q i n (.slice A T a) (.slice A' U a')).setIfInBounds 5 (.slice A 200 a) = coA k s q i n (.slice A 200 a) (.slice A' U a') from rfl, ← hw2]
  clear qu f5 hca d1
 case' neg =>
  have d1 : decide ((200 : Int) < (T : Int)) = false := decide_eq_false (by omega)
  rw [if_neg hc] at hw2
  go_upto_region 3 with fail
  rw [← hw2]
  clear d1
 all_goals
  clear hw2 R1 R2 B1 a0 a1 a2 a3 a4 a5 a6
  obtain ⟨w3, hw3⟩ : ∃ w3, w3 = if 200 < U then w2.setRow b (coA k s q i n (.slice A K a) (.slice A' L a')) else w2 := ⟨_, rfl⟩
  have R3x := Lib.hid (show row w3 b = some (coA k s q i n (.slice A K a) (.slice A' L a')) ∧ row w3 (b + 1) = some coZ ∧ Below b w w3 ∧ w3.heap.size = b + 2 by
   obtain ⟨h1, h2, h3, h4⟩ := R2x.out
   have h5 := HLm.out
   by_cases hc : 200 < U
   ·rw [hw3, if_pos hc]
    exact ⟨zC h1 _, by rw [zD _ _ _ _ (by omega)]; exact h2, zF h3 (Nat.le_refl _) _, by rw [yO]; exact h4⟩
   ·rw [hw3, if_neg hc, show L = U by omega]
    exact ⟨h1, h2, h3, h4⟩)
  obtain ⟨a0, a1, a2, a3, a4, a5, a6⟩ := zV R2x.out.1
  by_cases hd : 200 < U
 all_goals first
  | (have d1 : decide ((200 : Int) < (U : Int)) = true := decide_eq_true (by omega)
     have hca : (200 : Int) ≤ (a' : Int) := by omega
     have f5 := zN R2x.out.1 6
     have qu := run_uptoJ (P := Tryz.prog) (m := 1) zY (by kernel_rfl) A' U a' 200 (by omega) w2
     rw [if_pos hd, show L = 200 by have := HLm.out; omega] at hw3
     go_upto_region 5 with fail
     rw [zJ R2x.out.1, show (coA k s q i n (.slice A K a) (.slice A' U a')).setIfInBounds 6 (.slice A' 200 a') = coA k s q i n (.slice A K a) (.slice A' 200 a') from rfl, ← hw3]
     clear qu f5 hca d1)
  | (have d1 : decide ((200 : Int) < (U : Int)) = false := decide_eq_false (by omega)
     rw [if_neg hd] at hw3
     go_upto_region 5 with fail
     rw [← hw3]
     clear d1)
 all_goals
  clear hw3 R2x a0 a1 a2 a3 a4 a5 a6
  obtain ⟨hr3, hz3, hb3, hs3⟩ := R3x.out
  have S3 := Lib.hid (show Sl w3 w3.heap.size A K a f by
   have := HB.out
   rw [hs3]
   exact ((HS.out.below (by rw [← this]; exact hb3)).more (by omega)).upto K (by have := HKm.out; omega))
  have S3' := Lib.hid (show Sl w3 w3.heap.size A' L a' g by
   have := HB.out
   rw [hs3]
   exact ((HS'.out.below (by rw [← this]; exact hb3)).more (by omega)).upto L (by have := HLm.out; omega))
  have O4 := Lib.hid (show Own (w3.alloc (.cells #[] 5)) w3.heap.size 5 (.slice (some ⟨w3.heap.size, 0, none⟩) 0 0) 0 f from Own.empty w3 w3.heap.size 5 _ (Nat.le_refl _))
  have b4 := (Below.refl w3.heap.size w3).alloc (Nat.le_refl _) (.cells #[] 5)
  have B4 := Lib.hid b4
  have S4 := Lib.hid (S3.out.below b4)
  have hb : w3.heap.size ≤ (w3.alloc (.cells #[] 5)).heap.size := by simp
  have Rx := Lib.hid (zE b4 hr3)
  have Qx := Lib.hid (zE b4 hz3)
  have BW3 := Lib.hid hb3
  have HS3 := Lib.hid hs3
  have R3 := Lib.hid hr3
  have hlt3 : b < w3.heap.size := by omega
  obtain ⟨a0, a1, a2, a3, a4, a5, a6⟩ := zV hr3
  clear b4 R3x hr3 hz3 hb3 hs3
  go_upto_region 6 with (at_builtin; refine yS rfl (.tmp 19) (.tmp 21) rfl zY yN O4.out S4.out (by omega) hb rfl rfl ?_; intro v5 w5 ho5 hg5 ht5; have B5 := O4.out.after hg5 B4.out hb (Nat.le_refl _); rw [Nat.zero_add, yG] at ho5; obtain ⟨A5, c5, hv5, -, -, -⟩ := ho5.sl; subst hv5; have R5 := zE B5 R3.out; have f5 := zN R5 5; have a5' := (zV R5).2.2.2.2.2.1)
  have Q5 := zE B5 (show row w3 (b + 1) = some coZ from by have := Qx.out; rw [row_below ((Below.refl w3.heap.size w3).alloc (Nat.le_refl _) (.cells #[] 5)) (by have := HS3.out; omega)] at this; exact this)
  have BW5 := onto BW3.out (Nat.le_of_lt hlt3) B5
  have hz5 := B5.size
  obtain ⟨w6, hw6⟩ : ∃ w6, w6 = w5.setRow b (coA k s q i n (.slice A5 K c5) (.slice A' L a')) := ⟨_, rfl⟩
  rw [zJ R5, show (coA k s q i n (.slice A K a) (.slice A' L a')).setIfInBounds 5 (.slice A5 K c5) = coA k s q i n (.slice A5 K c5) (.slice A' L a') from rfl, ← hw6]
  have hz6 : w6.heap.size = w5.heap.size := by rw [hw6, yO]
  have BW6 := Lib.hid (show Below b w w6 by rw [hw6]; exact zF BW5 (Nat.le_refl _) _)
  have R6 := Lib.hid (show row w6 b = some (coA k s q i n (.slice A5 K c5) (.slice A' L a')) by rw [hw6]; exact zC R5 _)
  have Q6 := Lib.hid (show row w6 (b + 1) = some coZ by rw [hw6, zD _ _ _ _ (by omega)]; exact Q5)
  have O6 := Lib.hid (show Own w6 w3.heap.size 5 (.slice A5 K c5) K f by rw [hw6]; exact ho5.setRow b (fun e => by have := (World.ownsRow.lt ho5 _ e).1; omega) _)
  have hz36 : w3.heap.size ≤ w6.heap.size := by omega
  have hlt6 : b < w6.heap.size := by omega
  have S6 := Lib.hid (show Sl w6 w6.heap.size A' L a' g by
   have := HB.out
   exact ((HS'.out.below (by rw [← this]; exact BW6.out)).more (by have := HS3.out; omega)).upto L (by have := HLm.out; omega))
  clear hw6 hz6 Q5 BW5 hz5 R5 f5 a5' ho5 hg5 ht5 B5 a0 a1 a2 a3 a4 a5 a6 hb O4 B4 S4 Rx Qx R3
  have O7 := Lib.hid (show Own (w6.alloc (.cells #[] 5)) w6.heap.size 5 (.slice (some ⟨w6.heap.size, 0, none⟩) 0 0) 0 g from Own.empty w6 w6.heap.size 5 _ (Nat.le_refl _))
  have b7 := (Below.refl w6.heap.size w6).alloc (Nat.le_refl _) (.cells #[] 5)
  have B7 := Lib.hid b7
  have S7 := Lib.hid (S6.out.below b7)
  have hb : w6.heap.size ≤ (w6.alloc (.cells #[] 5)).heap.size := by simp
  have Rx := Lib.hid (zE b7 R6.out)
  have Qx := Lib.hid (zE b7 Q6.out)
  obtain ⟨a0, a1, a2, a3, a4, a5, a6⟩ := zV R6.out
  clear b7
  go_upto_region 7 with (at_builtin; refine yS rfl (.tmp 24) (.tmp 26) rfl zY yN O7.out S7.out (by omega) hb rfl rfl ?_; intro v8 w8 ho8 hg8 ht8; have B8 := O7.out.after hg8 B7.out hb (Nat.le_refl _); rw [Nat.zero_add, yG] at ho8; obtain ⟨A8, c8, hv8, -, -, -⟩ := ho8.sl; subst hv8; have R8 := zE B8 R6.out; have f8 := zN R8 6; have a8' := (zV R8).2.2.2.2.2.2)
  have Q8 := zE B8 Q6.out
  have BW8 := onto BW6.out (by omega) B8
  have O8 := O6.out.below B8 (Nat.le_refl _)
  obtain ⟨w9, hw9⟩ : ∃ w9, w9 = w8.setRow b (coA k s q i n (.slice A5 K c5) (.slice A8 L c8)) := ⟨_, rfl⟩
  rw [zJ R8, show (coA k s q i n (.slice A5 K c5) (.slice A' L a')).setIfInBounds 6 (.slice A8 L c8) = coA k s q i n (.slice A5 K c5) (.slice A8 L c8) from rfl, ← hw9]
  have BW9 := Lib.hid (show Below b w w9 by rw [hw9]; exact zF BW8 (Nat.le_refl _) _)
  have R9 := Lib.hid (show row w9 b = some (coA k s q i n (.slice A5 K c5) (.slice A8 L c8)) by rw [hw9]; exact zC R8 _)
  have Q9 := Lib.hid (show row w9 (b + 1) = some coZ by rw [hw9, zD _ _ _ _ (by omega)]; exact Q8)
  have O9 := Lib.hid (show Own w9 w3.heap.size 5 (.slice A5 K c5) K f by rw [hw9]; exact O8.setRow b (fun e => by have := (World.ownsRow.lt O8 _ e).1; omega) _)
  have P9 := Lib.hid (show Own w9 w6.heap.size 5 (.slice A8 L c8) L g by rw [hw9]; exact ho8.setRow b (fun e => by have := (World.ownsRow.lt ho8 _ e).1; omega) _)
  clear hw9 Q8 BW8 O8 R8 f8 a8' ho8 hg8 ht8 B8 a0 a1 a2 a3 a4 a5 a6 O7 B7 S7 hb Rx Qx R6 Q6 O6 S6 BW6
  have r9 := R9.out
  have q9 := Q9.out
  go_wp2_with fail
  refine bodyPost_ret (v := comV k s q i n (.slice A5 K c5) (.slice A8 L c8)) (yK Tryz.results23 _ _ (b + 1) _ _ rfl (zC Q9.out _) Tryz.underlying36 rfl (by kernel_rfl)) rfl ?_
  exact ⟨A5, c5, A8, c8, rfl, (O9.out.setRow _ (fun e => by have := (World.ownsRow.lt O9.out _ e).1; have := HS3.out; omega) _).base (by have := HS3.out; have := HB.out; omega), (P9.out.setRow _ (fun e => by have := (World.ownsRow.lt P9.out _ e).1; have := HS3.out; omega) _).base (by have := HS3.out; have := HB.out; omega), by rw [← HB.out]; exact zF BW9.out (by omega) _⟩
def askC (c : Cm) (nb : Nat) (fb : Bf) : Cm := if (c.k = 8 ∨ c.k = 9) ∧ c.n ≠ 0 then ⟨c.k, c.s, c.q, c.i, 0, nb, fb, min c.U 200, c.h⟩ else ownC c
theorem asked16_any (c : Cm) (A : Option Addr) (a : Nat) (A' : Option Addr) (a' : Nat) (Ab : Option Addr) (nb ab : Nat) (fb : Bf) (w : World) (h : Sl w w.heap.size A c.T a c.f) (h' : Sl w w.heap.size A' c.U a' c.h) (hb : Sl w w.heap.size Ab nb ab fb) (hnb : nb ≤ 1000000) (hk : i64B c.k) (hn : i64B c.n) :
  Calls Tryz.prog 16 #[cmV c A a A' a', .slice Ab nb ab] w fun e w' => ∃ A1 a1 A2 a2, e = .returned (cmV (askC c nb fb) A1 a1 A2 a2) ∧ Own w' w.heap.size 5 (.slice A1 (askC c nb fb).T a1) (askC c nb fb).T (askC c nb fb).f ∧ Own w' w.heap.size 5 (.slice A2 (askC c nb fb).U a2) (askC c nb fb).U (askC c nb fb).h ∧ Below w.heap.size w w' := by
 obtain ⟨b, hbb⟩ : ∃ b, b = w.heap.size := ⟨_, rfl⟩
 obtain ⟨w1, hw1⟩ : ∃ w1, w1 = (w.alloc (.cells (cmA c A a A' a') 36)).alloc (.cells coZ 36) := ⟨_, rfl⟩
 have bw : Below w.heap.size w w1 := by rw [hw1]; exact ((Below.refl _ _).alloc (by simp) _).alloc (by simp) _
 have hz : w1.heap.size = b + 2 := by rw [hw1, hbb]; simp
 have r1 : row w1 b = some (cmA c A a A' a') := by rw [hw1, hbb]; exact zK (zA _ _ _ _ rfl) _
 have R2 := Lib.hid (show row w1 (b + 1) = some coZ by rw [hw1, hbb]; exact zA _ _ _ _ (by simp))
 have HO := Lib.hid (own16_any c A a A' a' w1 ((h.below bw).more bw.size) ((h'.below bw).more bw.size))
 have SB := Lib.hid ((hb.below bw).more bw.size)
 have B1 := Lib.hid bw
 have R1 := Lib.hid r1
 have HB := Lib.hid hbb
 have HK := Lib.hid hk
 have HN := Lib.hid hn
 have SB0 := Lib.hid hb
 clear h h' hb bw hk hn
 go_enter Tryz.func16, Tryz.ntmps16
 go_upto_region 1 with fail
 rw [← hw1, ← hbb]
 clear hw1 hbb
 have hz1 := Lib.hid hz
 clear hz
 go_wp2_with fail
 refine HO.out.mono ?_
 rintro e w2 ⟨A1, a1, A2, a2, rfl, ho1, ho2, hb2⟩
 have r2 := zE hb2 R1.out
 have q2 := zE hb2 R2.out
 obtain ⟨w3, hw3⟩ : ∃ w3, w3 = w2.setRow b (cmA (ownC c) A1 a1 A2 a2) := ⟨_, rfl⟩
 have hz2 := hb2.size
 have hzz := hz1.out
 have R3 := Lib.hid (show row w3 b = some (cmA (ownC c) A1 a1 A2 a2) by rw [hw3]; exact zC r2 _)
 have Q3 := Lib.hid (show row w3 (b + 1) = some coZ by rw [hw3, zD _ _ _ _ (by omega)]; exact q2)
 have O3 := Lib.hid (show Own w3 w1.heap.size 5 (.slice A1 (ownC c).T a1) (ownC c).T c.f by rw [hw3]; exact ho1.setRow b (fun e => by have := (World.ownsRow.lt ho1 _ e).1; omega) _)
 have P3 := Lib.hid (show Own w3 w1.heap.size 5 (.slice A2 (ownC c).U a2) (ownC c).U c.h by rw [hw3]; exact ho2.setRow b (fun e => by have := (World.ownsRow.lt ho2 _ e).1; omega) _)
 have hz3 : w1.heap.size ≤ w3.heap.size := by rw [hw3, yO]; exact hz2
 have BW3 := Lib.hid (show Below b w w3 by rw [hw3]; exact zF (by have := B1.out; rw [← HB.out] at this; exact this.trans (hb2.mono (by omega))) (Nat.le_refl _) _)
 have r2' := Lib.hid r2
 clear ho1 ho2 hb2 q2 HO R1 R2 hz2
 go_upto_region 2 with fail
 rw [show w2.setRow b _ = w3 from hw3.symm]
 have hdk : (ownC c).k = c.k := rfl
 have hdn : (ownC c).n = c.n := rfl
 have hdT : (ownC c).T ≤ 200 := Nat.min_le_right _ _
 obtain ⟨d, hd⟩ : ∃ d, d = ownC c := ⟨_, rfl⟩
 rw [← hd] at R3 O3 P3 hdk hdn hdT ⊢
 have HD := Lib.hid hd
 have HDK := Lib.hid hdk
 have HDN := Lib.hid hdn
 clear hw3 r2 r1 r2' hd
 obtain ⟨x0, x1, x2, x3, x4, x5, x6⟩ := zV R3.out
 have r3 := R3.out
 have q3 := Q3.out
 by_cases hC : (c.k = 8 ∨ c.k = 9) ∧ c.n ≠ 0
 ·have hn0 : decide (d.n = 0) = false := decide_eq_false (by rw [hdn]; exact hC.2)
  have f4 := zN R3.out 4
  by_cases h8 : d.k = 8
  case' pos =>
   have d8 : decide (d.k = 8) = true := decide_eq_true h8
   have HK0 := Lib.hid h8
   go_upto_region 4 with fail
  case' neg =>
   have d8 : decide (d.k = 8) = false := decide_eq_false h8
   have d9 : decide (d.k = 9) = true := decide_eq_true (by rw [hdk] at h8 ⊢; omega)
   have HK0 := Lib.hid (show d.k = 9 by rw [hdk] at h8 ⊢; omega)
   go_upto_region 4 with fail
  all_goals
   clear x0 x1 x2 x3 x4 x5 x6 r3 q3 d8 f4 hn0 h8
   obtain ⟨w4, hw4⟩ : ∃ w4, w4 = w3.setRow b (coA d.k d.s d.q d.i 0 (.slice A1 d.T a1) (.slice A2 d.U a2)) := ⟨_, rfl⟩
   rw [zJ R3.out, show (cmA d A1 a1 A2 a2).setIfInBounds 4 (.int .i64 0) = coA d.k d.s d.q d.i 0 (.slice A1 d.T a1) (.slice A2 d.U a2) from rfl, ← hw4]
   have hz4 : w4.heap.size = w3.heap.size := by rw [hw4, yO]
   have hz4b : b + 2 ≤ w4.heap.size := by omega
   have hlt4 : b < w4.heap.size := by omega
   have R4 := Lib.hid (show row w4 b = some (coA d.k d.s d.q d.i 0 (.slice A1 d.T a1) (.slice A2 d.U a2)) by rw [hw4]; exact zC R3.out _)
   have Q4 := Lib.hid (show row w4 (b + 1) = some coZ by rw [hw4, zD _ _ _ _ (by omega)]; exact Q3.out)
   have P4 := Lib.hid (show Own w4 w1.heap.size 5 (.slice A2 d.U a2) d.U c.h by rw [hw4]; exact P3.out.setRow b (fun e => by have := (World.ownsRow.lt P3.out _ e).1; omega) _)
   have BW4 := Lib.hid (show Below b w w4 by rw [hw4]; exact zF BW3.out (Nat.le_refl _) _)
   have S4 := Lib.hid (show Sl w4 w4.heap.size Ab nb ab fb from (SB0.out.below (by rw [← HB.out]; exact BW4.out)).more (by rw [← HB.out]; omega))
   clear hw4 hz4 hz3
   have O7 := Lib.hid (show Own (w4.alloc (.cells #[] 5)) w4.heap.size 5 (.slice (some ⟨w4.heap.size, 0, none⟩) 0 0) 0 fb from Own.empty w4 w4.heap.size 5 _ (Nat.le_refl _))
   have b7 := (Below.refl w4.heap.size w4).alloc (Nat.le_refl _) (.cells #[] 5)
   have B7 := Lib.hid b7
   have S7 := Lib.hid (S4.out.below b7)
   have hb : w4.heap.size ≤ (w4.alloc (.cells #[] 5)).heap.size := by simp
   have Rx := Lib.hid (zE b7 R4.out)
   have Qx := Lib.hid (zE b7 Q4.out)
   clear b7
   go_upto_region 5 with (at_builtin; refine yS rfl (.tmp 21) (.tmp 22) rfl zY yN O7.out S7.out (by omega) hb rfl rfl ?_; intro v8 w8 ho8 hg8 ht8; have B8 := O7.out.after hg8 B7.out hb (Nat.le_refl _); rw [Nat.zero_add, yG] at ho8; obtain ⟨A8, c8, hv8, -, -, -⟩ := ho8.sl; subst hv8; have R8 := zE B8 R4.out; have f8 := zN R8 5; have a8' := (zV R8).2.2.2.2.2.1)
   have Q8 := zE B8 Q4.out
   have BW8 := onto BW4.out (by omega) B8
   have P8 := P4.out.below B8 (Nat.le_refl _)
   obtain ⟨w9, hw9⟩ : ∃ w9, w9 = w8.setRow b (coA d.k d.s d.q d.i 0 (.slice A8 nb c8) (.slice A2 d.U a2)) := ⟨_, rfl⟩
   rw [zJ R8, show (coA d.k d.s d.q d.i 0 (.slice A1 d.T a1) (.slice A2 d.U a2)).setIfInBounds 5 (.slice A8 nb c8) = coA d.k d.s d.q d.i 0 (.slice A8 nb c8) (.slice A2 d.U a2) from rfl, ← hw9]
   have BW9 := Lib.hid (show Below b w w9 by rw [hw9]; exact zF BW8 (Nat.le_refl _) _)
   have R9 := Lib.hid (show row w9 b = some (coA d.k d.s d.q d.i 0 (.slice A8 nb c8) (.slice A2 d.U a2)) by rw [hw9]; exact zC R8 _)
   have Q9 := Lib.hid (show row w9 (b + 1) = some coZ by rw [hw9, zD _ _ _ _ (by omega)]; exact Q8)
   have O9 := Lib.hid (show Own w9 w4.heap.size 5 (.slice A8 nb c8) nb fb by rw [hw9]; exact ho8.setRow b (fun e => by have := (World.ownsRow.lt ho8 _ e).1; omega) _)
   have P9 := Lib.hid (show Own w9 w1.heap.size 5 (.slice A2 d.U a2) d.U c.h by rw [hw9]; exact P8.setRow b (fun e => by have := (World.ownsRow.lt P8 _ e).1; omega) _)
   clear hw9 Q8 BW8 P8 R8 f8 a8' ho8 hg8 ht8 B8 O7 B7 S7 hb Rx Qx R4 Q4 P4 S4 BW4
   have r9 := R9.out
   have q9 := Q9.out
   go_wp2_with fail
   refine bodyPost_ret (v := comV _ d.s d.q d.i 0 (.slice A8 nb c8) (.slice A2 d.U a2)) (yK Tryz.results16 _ _ (b + 1) _ _ rfl (zC Q9.out _) Tryz.underlying36 rfl (by kernel_rfl)) rfl ?_
   have e : askC c nb fb = ⟨d.k, d.s, d.q, d.i, 0, nb, fb, d.U, c.h⟩ := by unfold askC; rw [if_pos hC, HD.out]; rfl
   rw [e, HK0.out]
   exact ⟨A8, c8, A2, a2, rfl, (O9.out.setRow _ (fun e => by have := (World.ownsRow.lt O9.out _ e).1; omega) _).base (by rw [← HB.out]; omega), (P9.out.setRow _ (fun e => by have := (World.ownsRow.lt P9.out _ e).1; omega) _).base (by rw [← HB.out]; omega), by rw [← HB.out]; exact zF BW9.out (by omega) _⟩
 ·have e : askC c nb fb = d := by unfold askC; rw [if_neg hC, HD.out]
  have eT : d.f = c.f ∧ d.h = c.h := by rw [HD.out]; exact ⟨rfl, rfl⟩
  have HE := Lib.hid e
  have HT := Lib.hid eT
  clear e eT
  by_cases h8 : d.k = 8
  case' pos =>
   have d8 : decide (d.k = 8) = true := decide_eq_true h8
   have hn0 : decide (d.n = 0) = true := decide_eq_true (by rw [hdk] at h8; rw [hdn]; omega)
   go_wp2_with fail
  case' neg =>
   have d8 : decide (d.k = 8) = false := decide_eq_false h8
   by_cases h9 : d.k = 9
   case' pos =>
    have d9 : decide (d.k = 9) = true := decide_eq_true h9
    have hn0 : decide (d.n = 0) = true := decide_eq_true (by rw [hdk] at h9; rw [hdn]; omega)
    go_wp2_with fail
   case' neg =>
    have d9 : decide (d.k = 9) = false := decide_eq_false h9
    go_wp2_with fail
  all_goals
   refine bodyPost_ret (v := comV _ d.s d.q d.i _ (.slice A1 d.T a1) (.slice A2 d.U a2)) (yK Tryz.results16 _ _ (b + 1) _ _ rfl (zC Q3.out _) Tryz.underlying36 rfl (by kernel_rfl)) rfl ?_
   rw [HE.out, HT.out.1, HT.out.2]
   refine ⟨A1, a1, A2, a2, ?_, (O3.out.setRow _ (fun e => by have := (World.ownsRow.lt O3.out _ e).1; omega) _).base (by rw [← HB.out]; omega), (P3.out.setRow _ (fun e => by have := (World.ownsRow.lt P3.out _ e).1; omega) _).base (by rw [← HB.out]; omega), by rw [← HB.out]; exact zF BW3.out (by omega) _⟩
   show _ = Ending.returned (comV d.k d.s d.q d.i d.n (.slice A1 d.T a1) (.slice A2 d.U a2))
   rw [HDK.out, HDN.out]
   first | done | (rw [show c.k = 8 by omega]) | (rw [show c.k = 9 by omega])
end Go.Proofs.YteffjpdcghlnlaaGreatDoor.Oct
