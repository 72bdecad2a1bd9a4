/- Contracts: slices.Clone of versions; keyring's Rings. -/
import Derived.Test.YtamemjldafoolaaGreatKpAll
import Derived.Test.YtamemjldafoolaaGreatKrAll
import Derived.WalkSpells
namespace Go.Proofs.YtamemjldafoolaaGreat.Oct
open Go.ChangeShapes Go.WideShapes Go.ChangeAt Go.RowKit
set_option linter.unusedVariables false

/- slices of the arrays -/
theorem hld_len : Tryz.prog.arrayLen 60 = 8 := by kernel_rfl
theorem hld_elem : Tryz.prog.elem 60 = 59 := by kernel_rfl
theorem vsa_len : Tryz.prog.arrayLen 57 = 4 := by kernel_rfl
theorem vsa_elem : Tryz.prog.elem 57 = 56 := by kernel_rfl
theorem size_of {P : Program} {t m : Nat} (h : (P.info? t).map (·.size) = some m) (w : World) : (sizeOf t).run P w = .ok m w := by
  cases hq : P.info? t with
  | none => rw [hq] at h; cases h
  | some i =>
    rw [hq] at h
    have h0 : i.size = m := Option.some.inj h
    simp [sizeOf, typeInfo, hq, h0]
theorem hld_slh (B m : Nat) (hm : m ≤ 8) (w : World) : (Instr.sliceAt 60 (.pointer (some ⟨B, 0, none⟩)) none (some (.int .i64 (m : Int))) none).run Tryz.prog w = .ok (.slice (some ⟨B, 0, none⟩) m 8) w := by
  rw [run_sliceAt_array_h w 60 ⟨B, 0, none⟩ (by kernel_rfl) .i64 _ (by omega) (by rw [hld_len]; omega), hld_elem, size_of kr_i, hld_len, Result.andThen_ok]
  unfold slicedAt
  rw [if_neg (by omega), Int.toNat_natCast]
  rfl
theorem vsa_slh (B m : Nat) (hm : m ≤ 4) (w : World) : (Instr.sliceAt 57 (.pointer (some ⟨B, 1, none⟩)) none (some (.int .i64 (m : Int))) none).run Tryz.prog w = .ok (.slice (some ⟨B, 1, none⟩) m 4) w := by
  rw [run_sliceAt_array_h w 57 ⟨B, 1, none⟩ (by kernel_rfl) .i64 _ (by omega) (by rw [vsa_len]; omega), vsa_elem, size_of ver_i, vsa_len, Result.andThen_ok]
  unfold slicedAt
  rw [if_neg (by omega), Int.toNat_natCast]
  rfl
theorem vsa_sla (B : Nat) (w : World) : (Instr.sliceAt 57 (.pointer (some ⟨B, 1, none⟩)) none none none).run Tryz.prog w = .ok (.slice (some ⟨B, 1, none⟩) 4 4) w := by
  rw [run_sliceAt_array_all w 57 ⟨B, 1, none⟩ (by kernel_rfl), vsa_elem, size_of ver_i, vsa_len, Result.andThen_ok]
  rfl
set_option maxRecDepth 20000 in
set_option maxHeartbeats 4000000 in
theorem pcv_any (g o c : Nat) (l : List Ve) (w : World) (hs : VRd w (.slice (some ⟨g, o, none⟩) l.length c) l) (hl : l.length ≤ 1000) :
    Calls Tryz.prog 42 #[.slice (some ⟨g, o, none⟩) l.length c] w fun e w' => ∃ A' c', e = .returned (.slice A' l.length c') ∧ w'.ownsRow 0 56 34 (.slice A' l.length c') l.length (vsC l) ∧ (∀ k, (Value.slice A' l.length c').ownBlock = some k → w.heap.size ≤ k) ∧ Below w.heap.size w w' := by
  have HS := Lib.hid hs
  obtain ⟨n, hn⟩ : ∃ n, n = l.length := ⟨_, rfl⟩
  have HN := Lib.hid hn
  rw [← hn] at hl ⊢
  obtain ⟨w1, hw1⟩ : ∃ w1, w1 = w.alloc (.cells #[] 56) := ⟨_, rfl⟩
  have b1 : Below w.heap.size w w1 := by rw [hw1]; exact (Below.refl w.heap.size w).alloc (by simp) _
  have o1 : w1.ownsRow 0 56 34 (.slice (some ⟨w.heap.size, 0, none⟩) 0 0) 0 [] := by rw [hw1]; exact World.ownsRow_made w #[] 0 (Nat.zero_le _) (Nat.zero_le _) rfl
  have h1 := HS.out.below b1
  rw [← hn] at h1
  have HW1 := Lib.hid hw1
  have B1 := Lib.hid b1
  have hw : w.heap.size < w1.heap.size := by rw [hw1]; simp
  clear hs hn b1 hw1
  have qT := fun (w : World) (n c : Nat) => Lib.run_eql_slice_nil (P := Tryz.prog) w 64 56 (some ⟨g, o, none⟩) n c 0 0 vers_u
  go_enter Tryz.func42, Tryz.ntmps42
  go_wp2_with (rw [← HW1.out]; refine wpl_appRd rfl (.tmp 5) (.tmp 6) rfl vers_u ver_info (veA_size _) (by decide) o1 h1 (by rw [← HN.out]; omega) rfl rfl ?_; intro v4 w4 ho4 hg4 ht4)
  go_ret
  have hf : Below w.heap.size w w4 := B1.out.grown hg4 B1.out.size (fun k e => by cases e; exact Nat.le_refl _)
  have htg : ∀ k, v4.ownBlock = some k → w.heap.size ≤ k := fun k hk => by
    rcases ht4 with e | e <;> rw [e] at hk <;> cases hk
    · exact Nat.le_refl _
    · exact B1.out.size
  have V4 : ∀ (T : Mk) t, VsAt (paint T w.heap.size t) w4 t 56 v4 l := fun T t => ⟨ho4, fun k hk => paint_new (htg k hk)⟩
  obtain ⟨A5, c5, hv5, -⟩ := (V4 (fun _ => 0) 0).form
  subst hv5
  rw [HN.out]
  exact ⟨A5, c5, rfl, ho4, htg, hf⟩
/-- a key's cells by themselves -/
def kyX (c : Array Value) (i : Nat) : Array Value := c.extract (i * 138) (i * 138 + 138)
theorem kyX_size {c : Array Value} {i : Nat} (h : i * 138 + 138 ≤ c.size) : (kyX c i).size = 138 := by unfold kyX; rw [Array.size_extract]; omega
theorem kyX_ones {c : Array Value} {i : Nat} (h : Ones c) : Ones (kyX c i) := by
  unfold Ones kyX at *
  rw [Array.all_eq_true] at *
  intro j hj
  rw [Array.size_extract] at hj
  rw [Array.getElem_extract]
  exact h _ (by omega)
theorem kyX_key {c : Array Value} {i : Nat} {r : Rg} (h : KyC c (i * 138) r) (hs : i * 138 + 138 ≤ c.size) : KyC (kyX c i) 0 r :=
  h.eq fun j hj => by unfold kyX; rw [Array.getElem?_extract, if_pos (by omega), Nat.zero_add]
theorem KyC.rd {c : Array Value} {r : Rg} {w : World} {X cap : Nat} (h : KyC c 0 r) (hr : row w X = some c) (hc : 4 ≤ cap) (hm : cap ≤ 100) : VRd w (.slice (some ⟨X, 1, none⟩) r.l.length cap) r.l :=
  ⟨_, _, rfl, by have := h.few; omega, by unfold maxLen; omega, (fun e => by cases e), fun _ => ⟨X, 1, rfl, row_lt hr, fun i j hi hj => by rw [cell_row hr, ← h.ver i hi j hj, Nat.zero_add]⟩⟩

/-- what is old is as it was, and block X holds cx -/
def ClX (w : World) (X : Nat) (cx : Array Value) (y : World) : Prop := Below w.heap.size w y ∧ row y X = some cx
theorem ClX.alloc {w : World} {X : Nat} {cx : Array Value} : ∀ (y : World) (z : Obj), ClX w X cx y → ClX w X cx (y.alloc z) := fun y z h => ⟨h.1.alloc h.1.size z, row_alloc h.2 z⟩
set_option maxRecDepth 20000 in
set_option maxHeartbeats 8000000 in
theorem prs_any (T : Mk) (t t' B : Nat) (K : Ks) (w : World) (h : KpAt T w t B K) (hfr : ∀ k, k < w.heap.size → ¬ Hk t' (T k)) :
    Calls Tryz.prog 23 #[.pointer (some ⟨B, 0, none⟩)] w fun e w' => ∃ v T', e = .returned v ∧ RsAt T' w' t' 66 56 v K ∧ Nk T T' t' w w' := by
  obtain ⟨cb, hrow, hks⟩ := h.at_
  have h8 := h.ok.1
  have HKS := Lib.hid hks
  have HROW := Lib.hid hrow
  have HFR := Lib.hid hfr
  have HOK := Lib.hid h.ok
  obtain ⟨n, hn⟩ : ∃ n, n = K.length := ⟨_, rfl⟩
  have HN := Lib.hid hn
  have k1 : ∀ x : After w, x.val.cell? ⟨B, 1104, none⟩ = some (.int .i64 (n : Int)) := fun x => by rw [hn]; exact hks.cell B (carry x.below hrow)
  rw [← hn] at h8
  have hsl := hld_slh B n h8
  clear h hks hrow hn hfr
  go_enter Tryz.func23, Tryz.ntmps23
  go_wp2_with fail
  refine seen_region (by kernel_rfl) (by kernel_rfl) ?_
  repeat (go_big_quiet_step (fail))
  refine wpQuiet_nil ?_
  rintro _ ⟨x, rfl⟩
  obtain ⟨w0, hw0⟩ : ∃ wx, wx = x.val := ⟨_, rfl⟩
  have B0 := Lib.hid x.below
  rw [← hw0] at B0 ⊢
  clear hw0 k1 x
  go_wp2_with fail
  go_loopw [3, 15] (fun ov iv wr => ∃ (j : Nat) (T' : Mk), j ≤ n ∧ iv = .int .i64 j ∧ RsAt T' wr t' 66 56 ov (K.take j) ∧ (∀ k, k < w.heap.size → T' k = T k) ∧ (∀ k, T' k = T k ∨ Hk t' (T' k)) ∧ Below w.heap.size w wr) (fun _ iv _ => n - (intOf iv).toNat)
  case atStart => exact ⟨0, T, by omega, rfl, RsAt.nil, fun _ _ => rfl, fun _ => .inl rfl, B0.out⟩
  case round =>
    obtain ⟨j, T1, hj, rfl, hrs, htg, hmk, hb⟩ := hrel
    have HMK := Lib.hid hmk
    clear hmk
    obtain ⟨w1, rfl⟩ : ∃ w1 : World, w1 = wr := ⟨_, rfl⟩
    have HRS := Lib.hid hrs
    have HTG := Lib.hid htg
    have HB := Lib.hid hb
    by_cases hlt : j < n
    · have hjK : j < K.length := by have := HN.out; omega
      have hlen : (K.take j).length = j := by rw [List.length_take]; omega
      have hsz : j * 138 + 138 ≤ cb.size := by rw [HKS.out.size]; omega
      obtain ⟨r, hr⟩ : ∃ r, r = K[j] := ⟨_, rfl⟩
      have hky := HKS.out.key j (by omega)
      rw [rgI_lt hjK, ← hr] at hky
      have hkx := kyX_key hky hsz
      have hsx := kyX_size hsz
      have hox := kyX_ones (i := j) HKS.out.ones
      obtain ⟨cx, hcx⟩ : ∃ cx, cx = kyX cb j := ⟨_, rfl⟩
      rw [← hcx] at hkx hsx hox
      have hld : ∀ x : World, ldR Tryz.prog 59 138 x B (j * 138) (some cb) = .ok (.agg cx) x := fun x => by
        unfold ldR
        simp only [if_pos hsz]
        rw [hcx]
        rfl
      have hst : ∀ (x : World) (X : Nat), stR Tryz.prog 59 138 x X 0 (.agg cx) (some kyZ) = .ok () (x.setRow X cx) := fun x X => stR_whole _ _ _ _ _ _ _ kyZ_size.symm (by rw [hsx, kyZ_size]) hox
      have rB := carry hb HROW.out
      obtain ⟨Ao, co, rfl, hleo, hmo, -⟩ := hrs.form
      rw [hlen] at HRS ⊢
      have HL := Lib.hid hlen
      have HR := Lib.hid hr
      have HKX := Lib.hid hkx
      obtain ⟨L, hL⟩ : ∃ L, L = r.l.length := ⟨_, rfl⟩
      have hL4 : L ≤ 4 := by rw [hL]; exact hkx.few
      have HLL := Lib.hid hL
      obtain ⟨w2, hw2⟩ : ∃ w2, w2 = w1.alloc (.cells cx 59) := ⟨_, rfl⟩
      have b2 : Below w1.heap.size w1 w2 := by rw [hw2]; exact (Below.refl _ _).alloc (Nat.le_refl _) _
      have rX : row w2 w1.heap.size = some cx := by rw [hw2]; exact row_alloc_at _ _ _ _ rfl
      have HW2 := Lib.hid hw2
      have B2 := Lib.hid b2
      have RX := Lib.hid rX
      clear hrs htg hb hlen hr hky hkx hsx hox hcx hL hw2 b2 rX
      have zO : ∀ k, (Value.slice Ao j co).ownBlock = some k → w.heap.size ≤ k ∧ k < w1.heap.size ∧ T1 k = t' := fun k hk => by
        obtain ⟨ys, hys, -⟩ := HRS.out.own
        rw [HL.out] at hys
        refine ⟨?_, (World.ownsRow.lt hys k hk).2, HRS.out.tg k hk⟩
        rcases Nat.lt_or_ge k w.heap.size with h | h
        · exact absurd ⟨by rw [← HRS.out.tg k hk]; exact Nat.le_of_eq (HTG.out k h), by rw [← HTG.out k h, HRS.out.tg k hk]; omega⟩ (HFR.out k h)
        · exact h
      have ZO := Lib.hid zO
      have zw := HB.out.size
      clear zO
      go_wp2_with fail
      rw [← HW2.out]
      obtain ⟨X, hX⟩ : ∃ X, X = w1.heap.size := ⟨_, rfl⟩
      rw [← hX] at RX ⊢
      have HX := Lib.hid hX
      have hsl4 := vsa_slh X L hL4
      have hXs : X < w2.heap.size := row_lt RX.out
      have hwX : w.heap.size ≤ X := by omega
      clear hld hst rB hX
      refine flow_many [.inl [0, 1, 2, 3, 4, 5, 6], pE 7, .inl [8], pS 9, pU 9, pE 10, .inl [11]] (ClX w X cx) (Value.slice Ao j co).ownBlock.toList (by kernel_rfl) (by kernel_rfl) (fun _ _ _ _ _ h => h) (fun _ _ _ _ _ h => h) ClX.alloc ⟨below_drewN (onto HB.out HB.out.size B2.out) 1, by rw [row_drewN]; exact RX.out⟩ (fun k hk => by have h1 := (ZO.out k (by simpa using hk)).2.1; have h2 := B2.out.size; show k < w2.heap.size; omega) ?_
      have hne : Nonempty (In (ClX w X cx)) := ⟨⟨w2, onto HB.out HB.out.size B2.out, RX.out⟩⟩
      have B3 := Lib.hid (below_drewN (Below.refl w2.heap.size w2) 1)
      have r3 : row (w2.drewN 1) X = some cx := by rw [row_drewN]; exact RX.out
      have z3 : (w2.drewN 1).heap.size = w2.heap.size := rfl
      obtain ⟨w3, hw3⟩ : ∃ w3, w3 = w2.drewN 1 := ⟨_, rfl⟩
      rw [← hw3] at B3 z3 r3 ⊢
      clear hw3
      have q1 : ∀ y : In (ClX w X cx), y.val.cell? ⟨X, 0, none⟩ = some (.bool r.off) := fun y => by rw [cell_row y.ok.2]; exact HKX.out.off
      have q2 : ∀ y : In (ClX w X cx), y.val.cell? ⟨X, 137, none⟩ = some (.int .i64 (L : Int)) := fun y => by rw [cell_row y.ok.2, HLL.out]; have := HKX.out.cnt; rw [Nat.zero_add] at this; exact this
      refine wpM_q ?_
      simp only [pk, List.getElem?_cons_zero, List.getElem?_cons_succ]
      repeat (go_big_quiet_step (fail))
      refine wpQuiet_nil ?_
      clear q1 q2
      refine wpM_e _ rfl (fun y2 hy2 => ?_)
      have hcv := pcv_any X 1 4 r.l y2.val (HKX.out.rd hy2.2 (by omega) (by omega)) (by rw [← HLL.out]; omega)
      rw [← HLL.out] at hcv
      have HCV := Lib.hid hcv
      have B4 := Lib.hid (onto (onto B2.out B2.out.size B3.out) (by have := B2.out.size; have := B3.out.size; omega) y2.below)
      have C4 := Lib.hid hy2
      obtain ⟨w4, hw4⟩ : ∃ w4, w4 = y2.val := ⟨_, rfl⟩
      rw [← hw4] at HCV B4 C4 ⊢
      clear hcv hw4 hy2 y2
      go_wp2_with fail
      refine HCV.out.mono ?_
      rintro e w5 ⟨A5, c5, rfl, ho5, htg5, hb5⟩
      have B5 := Lib.hid (onto B4.out B4.out.size hb5)
      have C5 := Lib.hid (show ClX w X cx w5 from ⟨onto C4.out.1 C4.out.1.size hb5, carry hb5 C4.out.2⟩)
      have V5 := Lib.hid (show VsAt (paint T1 w1.heap.size (t' + 1 + j)) w5 (t' + 1 + j) 56 (.slice A5 L c5) r.l from ⟨by rw [HLL.out] at ho5 ⊢; exact ho5, fun k hk => paint_new (by have := htg5 k hk; have := B4.out.size; omega)⟩)
      have F5 := Lib.hid (show Frm (Value.slice Ao j co).ownBlock.toList w4 w5 from Frm.of hb5)
      have hZ5 : ∀ k, (Value.slice Ao j co).ownBlock = some k → k < w5.heap.size := fun k hk => by have h1 := (ZO.out k hk).2.1; have h2 := B5.out.size; omega
      have HZ5 := Lib.hid hZ5
      clear hb5 ho5 htg5 HCV hZ5
      go_wp2_with fail
      refine same_class (C := ClX w X cx) (Value.slice Ao j co).ownBlock.toList F5.out (fun k hk => ⟨.inl hk, HZ5.out k (by simpa using hk)⟩) C5.out ClX.alloc ?_
      refine wpM_q ?_
      simp only [pk, List.getElem?_cons_zero, List.getElem?_cons_succ]
      repeat (go_big_quiet_step (fail))
      refine wpQuiet_nil ?_
      clear hne
      refine wpM_s (fun p' => .slice (some ⟨p', 0, none⟩) 1 1) (.cells (rgA r.off (.slice A5 L c5)) 66) _ rfl rfl (fun w => ex_rinK _ (.tmp 27) rfl _ _ _ _ rfl w) ?_
      refine wpM_u _ _ _ 28 (.head _) rfl rfl (fun y hy p2 hp21 hp22 hp23 hp24 => ?_)
      refine wpM_e _ rfl (fun y2 hy2 => ?_)
      have b46 := onto y.below y.below.size y2.below
      have B6 := Lib.hid (onto B5.out B5.out.size b46)
      have V6 := Lib.hid (V5.out.fr (Fr.same (H := fun _ => False) b46) (fun e => e))
      have R6 := Lib.hid (carry y2.below (row_of hp24))
      have C6 := Lib.hid hy2
      obtain ⟨w6, hw6⟩ : ∃ w6, w6 = y2.val := ⟨_, rfl⟩
      rw [← hw6] at B6 V6 R6 C6 ⊢
      clear hw6 hy2 hy hp23 hp24 hp22 b46 B5 V5 C5 C4 y2 y
      have hrs6 := HRS.out.fr (Fr.new (T := T1) (H := fun _ => False) B6.out (t' + 1 + j)) (fun _ _ _ e => e)
      have HRS6 := Lib.hid hrs6
      obtain ⟨xs, hxs, hel⟩ := hrs6.own
      have HEL := Lib.hid hel
      have HXS := Lib.hid hxs
      rw [HL.out] at hxs
      have hrow6 : row w6 p2 = some ([.bool r.off, .slice A5 L c5] : List Value).toArray := by rw [R6.out]; unfold rgA; rfl
      clear hel hrs6
      go_wp2_with (refine wpl_appK rfl (.tmp 19) (.tmp 28) rfl rins_u rin_info (rgA_size _ _) (by decide) (by decide) hxs hrow6 rfl (fun v hv => by simp at hv; rcases hv with rfl | rfl <;> rfl) (by omega) rfl rfl ?_; intro v7 w7 ho7 hg7 ht7)
      have ho7' := ho7
      rw [← HL.out] at ho7'
      have hvs6 : VsAt (paint T1 w1.heap.size (t' + 1 + j)) w6 (t' + 1 + (K.take j).length) 56 (.slice A5 L c5) r.l := by rw [HL.out]; exact V6.out
      have V7 := HRS6.out.app (r := r) HXS.out HEL.out ho7' hg7 ht7 hvs6
      rw [show K.take j ++ [r] = K.take (j + 1) by rw [HR.out, List.take_append_getElem]] at V7
      have B7 := Lib.hid (C6.out.1.grown hg7 C6.out.1.size (fun k e => (ZO.out k e).1))
      have HV7 := Lib.hid V7
      have HT7 := Lib.hid (show ∀ k, k < w.heap.size → paint (paint T1 w1.heap.size (t' + 1 + j)) w6.heap.size t' k = T k from fun k hk => by
        rw [paint_old (by have := B6.out.size; omega), paint_old (by omega)]; exact HTG.out k hk)
      have hs7 := hg7.size
      have HM7 := Lib.hid (show ∀ k, paint (paint T1 w1.heap.size (t' + 1 + j)) w6.heap.size t' k = T k ∨ Hk t' (paint (paint T1 w1.heap.size (t' + 1 + j)) w6.heap.size t' k) from fun k => by
        by_cases hk : k < w6.heap.size
        · rw [paint_old hk]
          by_cases hk1 : k < w1.heap.size
          · rw [paint_old hk1]; exact HMK.out k
          · rw [paint_new (by omega)]; exact .inr ⟨by omega, by omega⟩
        · rw [paint_new (by omega)]; exact .inr ⟨by omega, by omega⟩)
      have rX7 : row w7 X = some cx := by rw [row_heap (hg7.block X (row_lt C6.out.2) (fun e => by have := (ZO.out X e.symm).2.1; have := HX.out; omega))]; exact C6.out.2
      refine same_class (C := ClX w X cx) [] ((Frm.app hg7).more (fun k hk => by simp; right; simpa using hk)) hot_none ⟨B7.out, rX7⟩ ClX.alloc ?_
      clear ho7 ho7' hg7 ht7 hvs6 R6 hrow6 HXS HEL HRS6 hxs V7 V6
      have hne : Nonempty (In (ClX w X cx)) := ⟨⟨w6, C6.out⟩⟩
      refine wpM_q ?_
      simp only [pk, List.getElem?_cons_zero, List.getElem?_cons_succ]
      repeat (go_big_quiet_step (fail))
      refine wpQuiet_nil ?_
      clear hne
      refine wpM_nil (fun y => ?_)
      have HV8 := Lib.hid (HV7.out.fr (Fr.same (H := fun _ => False) y.below) (fun _ _ _ e => e))
      have HB8 := Lib.hid (onto B7.out B7.out.size y.below)
      go_wp2_with fail
      go_roundw
      case rel => exact ⟨j + 1, _, by omega, by go_num, HV8.out, HT7.out, HM7.out, HB8.out⟩
      case measure => simp [intOf]; omega
    · obtain rfl : j = n := by omega
      have HRS' := HRS.out
      rw [List.take_of_length_le (by rw [← HN.out]; exact Nat.le_refl _)] at HRS'
      have HQ := Lib.hid HRS'
      clear HRS' HRS hrs
      go_wp2_with fail
      go_ret
      exact ⟨_, T1, rfl, HQ.out, ⟨HB.out, HTG.out, HMK.out⟩⟩
end Go.Proofs.YtamemjldafoolaaGreat.Oct
