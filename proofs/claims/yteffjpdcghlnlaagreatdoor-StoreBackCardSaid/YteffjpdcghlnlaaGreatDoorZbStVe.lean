import Derived.Test.YteffjpdcghlnlaaGreatDoorZbStVd
set_option linter.unusedVariables false
set_option linter.unusedSimpArgs false
set_option maxHeartbeats 2000000
set_option maxRecDepth 20000
namespace Go.Proofs.YteffjpdcghlnlaaGreatDoor.Oct
open Go.ChangeShapes Go.WideShapes Go.ChangeAt Go.RowKit Go.Maps
theorem ssNo_1 {l : By} (h : NoF eN u63 l) : NoF eSs ssG' l := no_1 (e1 := eN) (G1 := u63) (e2 := eL eSe) (p := fun p : Nat × List Se => p.1) (q := fun p => p.2) (fun _ => rfl) (fun c hc => hc.1) h
theorem ssNo_2 {l l1 : By} {n : Nat} (hn : u63 n) (hl : l = eN n ++ l1) (h : NoF (eL eSe) (LG 8 seG) l1) : NoF eSs ssG' l :=
 no_2 (e1 := eN) (G1 := u63) (G2 := LG 8 seG) (e2 := eL eSe) (p := fun p : Nat × List Se => p.1) (q := fun p => p.2) (fun _ => rfl) (fun c hc => hc.w) eN_unq hn hl h
theorem seG.b {s : Se} (h : seG s) : i64B s.id ∧ i64B s.q ∧ i64B s.c ∧ i64B s.n ∧ i64B s.m ∧ s.T ≤ 140737488351232 := by
 obtain ⟨⟨a1, a2⟩, ⟨b1, b2⟩, ⟨c1, c2⟩, ⟨d1, d2⟩, ⟨e1, e2⟩, f1⟩ := h
 have c1 : 0 ≤ s.c := c1
 have c2 : s.c < 9223372036854775808 := c2
 have d1 : 0 ≤ s.n := d1
 have d2 : s.n < 9223372036854775808 := d2
 have e1 : 0 ≤ s.m := e1
 have e2 : s.m < 9223372036854775808 := e2
 have f1 : s.T ≤ 4096 := f1
 exact ⟨⟨by omega, by omega⟩, ⟨by omega, by omega⟩, ⟨by omega, by omega⟩, ⟨by omega, by omega⟩, ⟨by omega, by omega⟩, by omega⟩
abbrev ST : Nat → Prop := fun _ => True
theorem rdsess_any (T : Mk) (m X : Nat) (l : By) (w : World) (h : RdI X l w) (hX : T X = m) (hm : 0 < m) (hf : ∀ k, k < w.heap.size → T k ≤ m) :
  Calls Tryz.prog 57 #[.pointer (some ⟨X, 0, none⟩)] w (RdOutM X l eSs ssG' ST (fun T' w' p v => ∃ B mv, v = .pointer (some ⟨B, 0, none⟩) ∧ PtAt T' w' (m + 2) B 0 #[] mv p.2 ((p.1 : Int) - 1)) T w) := by
 obtain ⟨C, hCe⟩ : ∃ C, C = w.heap.size := ⟨_, rfl⟩
 obtain ⟨w1, hw1⟩ : ∃ w1, w1 = w.alloc (.cells #[.pointer (some ⟨X, 0, none⟩)] 176) := ⟨_, rfl⟩
 have b1 : Below w.heap.size w w1 := by rw [hw1]; exact (Below.refl _ _).alloc (Nat.le_refl _) _
 have r1 : row w1 C = some #[.pointer (some ⟨X, 0, none⟩)] := by rw [hw1, hCe]; exact zA _ _ _ _ rfl
 have hXl := h.lt
 have I1 := h.below b1
 have H1 := Lib.hid (xK X l w1 I1)
 have hCX : C ≠ X := by omega
 have I1 := Lib.hid I1
 have B1 := Lib.hid b1
 have HI := Lib.hid h
 have RC := Lib.hid r1
 have k1 : w1.cell? ⟨C, 0, none⟩ = some (.pointer (some ⟨X, 0, none⟩)) := zG r1 0
 have HX := Lib.hid (And.intro hX hm)
 have HF := Lib.hid (show ∀ k, paint T w.heap.size 0 k ≤ m from fun k => by
  unfold paint
  split
  ·rename_i h; exact hf k h
  ·omega)
 have hTX : paint T w.heap.size 0 X = m := by rw [zH hXl]; exact hX
 have HCe := Lib.hid hCe
 have M1 := Lib.hid (show Mq T (paint T w.heap.size 0) ST X l w w1 from Mq.of (Rdd.of h b1) 0 trivial)
 obtain ⟨T1, hT1⟩ : ∃ T1, T1 = paint T w.heap.size 0 := ⟨_, rfl⟩
 rw [← hT1] at HF hTX M1
 clear h b1 r1 hX hm hf hT1
 go_enter Tryz.func57, Tryz.ntmps57
 go_upto_region 1 with fail
 rw [← hw1, ← hCe]
 clear hw1 hCe
 go_wp2_with fail
 refine H1.out.mono ?_
 rintro e w2 (⟨n, v, l1, hn, hl, rfl, rfl, hr⟩ | ⟨hn, z, l1, hz, rfl, hr⟩)
 ·have rc2 := hr.row hCX RC.out
  have k2 : w2.cell? ⟨C, 0, none⟩ = some (.pointer (some ⟨X, 0, none⟩)) := zG rc2 0
  have I2 := Lib.hid (hr.inv I1.out)
  have M2 := Lib.hid (show Mq T (paint T1 w1.heap.size 0) ST X l1 w w2 from M1.out.trans HI.out (Mq.of hr 0 trivial))
  have L1 := Lib.hid (And.intro hn hl)
  have HF2 := Lib.hid (show ∀ k, paint T1 w1.heap.size 0 k ≤ m from fun k => by
   unfold paint
   split
   ·exact HF.out k
   ·omega)
  have hTX2 : paint T1 w1.heap.size 0 X = m := by rw [zH I1.out.lt]; exact hTX
  have H2' := Lib.hid (lsseat_any (paint T1 w1.heap.size 0) (m + 1) X C l1 w2 I2.out (by rw [hTX2]; omega) (by rw [hTX2]; have := HX.out.2; omega) (by omega) (fun k _ e => by have := HF2.out k; omega) rc2)
  clear hn hl hr H1 k1 rc2 RC
  go_wp2_with fail
  refine H2'.out.mono ?_
  rintro e w3 ⟨T3, l3, hM, ⟨L, v, hg, hl, rfl, A, c, rfl, hE⟩ | ⟨hn, z, hz, rfl⟩⟩
  ·have M3 := Lib.hid (M2.out.trans HI.out (hM.mono fun _ _ => trivial))
   have HG := Lib.hid (And.intro hg hl)
   have hT3 : ∀ k, k < w.heap.size → ¬ H2 (m + 2) (T3 k) := fun k hk h => by
    have h1 := M3.out.tag k hk
    have h2 := M2.out.tag k hk
    have h3 := HF2.out k
    unfold H2 at h
    omega
   have H3 := Lib.hid (pof15_any T3 (m + 2) (m + 1) A c L (n : Int) w3 hE (by omega) (by omega) (by omega) (by have := hg.1; omega) (fun s hs => (hg.2 s hs).b))
   have HT3 := Lib.hid hT3
   clear hM hg hl hE H2' k2 I2 hT3 hTX hTX2
   go_wp2_with fail
   refine H3.out.mono ?_
   rintro e w4 ⟨T4, hf, ⟨hk, B, mv, rfl, hp⟩ | ⟨hk, rfl⟩⟩
   ·have M4 := Lib.hid (show Mq T T4 ST X l3 w w4 from ⟨Rdd.calm' HI.out M3.out.rd (hf.below M3.out.rd.size HT3.out), fun k hk => by rw [hf.tag k (Nat.lt_of_lt_of_le hk M3.out.rd.size)]; exact M3.out.tag k hk, fun _ _ => trivial⟩)
    have HP := Lib.hid (And.intro hk hp)
    clear hf hk hp H3
    go_wp2_with fail
    refine (mustt_ok _ _).mono ?_
    rintro e w5 ⟨rfl, rfl⟩
    go_wp2_with fail
    go_ret
    exact ⟨T4, l3, M4.out, .inl ⟨(n, L), _, ⟨L1.out.1, HP.out.1, HG.out.1.2⟩, by rw [L1.out.2, HG.out.2]; unfold eSs; rw [List.append_assoc], rfl, B, mv, rfl, HP.out.2⟩⟩
   ·have M4 := Lib.hid (show Mq T T4 ST X l3 w w4 from ⟨Rdd.calm' HI.out M3.out.rd (hf.below M3.out.rd.size HT3.out), fun k hk => by rw [hf.tag k (Nat.lt_of_lt_of_le hk M3.out.rd.size)]; exact M3.out.tag k hk, fun _ _ => trivial⟩)
    have HP := Lib.hid (sess_no (p := (n, L)) (l := l) (l1 := l3) ⟨L1.out.1, HG.out.1⟩ hk (by rw [L1.out.2, HG.out.2]; unfold eSs; rw [List.append_assoc]))
    clear hf hk H3
    go_wp2_with fail
    refine (mustt_bad _ 1 (by omega) _).mono ?_
    rintro e w5 ⟨rfl, rfl⟩
    go_wp2_with fail
    exact ⟨rfl, T4, l3, M4.out, .inr ⟨HP.out, 1, by omega, rfl⟩⟩
  ·have K := Lib.hid (And.intro (ssNo_2 L1.out.1 L1.out.2 hn) (And.intro hz (M2.out.trans HI.out (hM.mono fun _ _ => trivial))))
   clear hn hz hM H2' k2
   go_wp2_with fail
   exact ⟨rfl, _, l3, K.out.2.2, .inr ⟨K.out.1, z, K.out.2.1, rfl⟩⟩
 ·have K := Lib.hid (And.intro (ssNo_1 hn) (And.intro hz (M1.out.trans HI.out (Mq.of hr 0 trivial))))
  clear hn hz hr H1 k1
  go_wp2_with fail
  exact ⟨rfl, _, l1, K.out.2.2, .inr ⟨K.out.1, z, K.out.2.1, rfl⟩⟩
theorem srNo_1 {l : By} (h : NoF (eT 32) tt1 l) : NoF eSr srG l := no_1 (e1 := eT 32) (G1 := tt1) (e2 := fun s : St × Nat => eT 32 s.1.2 ++ eN s.2) (p := fun s : St × Nat => s.1.1) (q := fun s => s) (fun _ => rfl) (fun _ _ => trivial) h
theorem srNo_2 {l l1 : By} {f : Bf} (hl : l = eT 32 f ++ l1) (h : NoF (eT 32) tt1 l1) : NoF eSr srG l :=
 no_2 (e1 := eT 32) (G1 := tt1) (G2 := srG) (e2 := fun s : St × Nat => eT 32 s.1.2 ++ eN s.2) (p := fun s : St × Nat => s.1.1) (q := fun s => s) (fun _ => rfl) (fun _ h => ⟨trivial, h⟩) eW_unq (a := f) trivial hl
  (no_1 (e1 := eT 32) (G1 := tt1) (e2 := fun s : St × Nat => eN s.2) (p := fun s : St × Nat => s.1.2) (q := fun s => s) (fun _ => rfl) (fun _ _ => trivial) h)
theorem srNo_3 {l l1 l2 : By} {f g : Bf} (hl : l = eT 32 f ++ l1) (h1 : l1 = eT 32 g ++ l2) (h : NoF eN u63 l2) : NoF eSr srG l :=
 no_2 (e1 := eT 32) (G1 := tt1) (G2 := srG) (e2 := fun s : St × Nat => eT 32 s.1.2 ++ eN s.2) (p := fun s : St × Nat => s.1.1) (q := fun s => s) (fun _ => rfl) (fun _ h => ⟨trivial, h⟩) eW_unq (a := f) trivial hl
  (no_2 (e1 := eT 32) (G1 := tt1) (G2 := u63) (e2 := eN) (p := fun s : St × Nat => s.1.2) (q := fun s => s.2) (fun _ => rfl) (fun _ h => ⟨trivial, h.2⟩) eW_unq (a := g) trivial h1 h)
theorem srNo_4 {l l1 l2 l3 : By} {f g : Bf} {n : Nat} (hl : l = eT 32 f ++ l1) (h1 : l1 = eT 32 g ++ l2) (hn : u63 n) (h2 : l2 = eN n ++ l3) (h0 : n < 1) : NoF eSr srG l := fun s r hs he => by
 rw [hl, h1, h2] at he
 unfold eSr at he
 simp only [List.append_assoc] at he
 obtain ⟨-, -, he⟩ := eT_app (by omega) (by omega) he
 obtain ⟨-, -, he⟩ := eT_app (by omega) (by omega) he
 obtain ⟨e, -⟩ := eN_app hn hs.2 he
 have := hs.1
 omega
abbrev rvSr (s : St × Nat) (v : Value) (w : World) : Prop := ∃ g, v = .pointer (some ⟨g, 0, none⟩) ∧ row w g = some (srcC #[] s.1.1 s.1.2 (s.2 : Int))
theorem rdsrc_any (X : Nat) (l : By) (w : World) (h : RdI X l w) : Calls Tryz.prog 55 #[.pointer (some ⟨X, 0, none⟩)] w (RdOut X l eSr srG rvSr w) := by
 have H1 := Lib.hid (rdwide_any X l w h)
 have HI := Lib.hid h
 clear h
 go_enter Tryz.func55, Tryz.ntmps55
 go_wp2_with fail
 refine H1.out.mono ?_
 rintro e w1 (⟨f, v, l1, -, hl, rfl, rfl, hr⟩ | ⟨hn, z, l1, hz, rfl, hr⟩)
 ·have I1 := Lib.hid (hr.inv HI.out)
  have D1 := Lib.hid hr
  have L1 := Lib.hid hl
  have H2' := Lib.hid (rdwide_any X l1 w1 I1.out)
  clear hl hr H1
  go_wp2_with fail
  refine H2'.out.mono ?_
  rintro e w2 (⟨g, v, l2, -, hl, rfl, rfl, hr⟩ | ⟨hn, z, l2, hz, rfl, hr⟩)
  ·have I2 := Lib.hid (hr.inv I1.out)
   have D2 := Lib.hid (Rdd.trans HI.out D1.out hr)
   have L2 := Lib.hid hl
   have H3 := Lib.hid (xK X l2 w2 I2.out)
   clear hl hr H2' I1 D1
   go_wp2_with fail
   refine H3.out.mono ?_
   rintro e w3 (⟨n, v, l3, hn, hl, rfl, rfl, hr⟩ | ⟨hn, z, l3, hz, rfl, hr⟩)
   ·have D3 := Lib.hid (Rdd.trans HI.out D2.out hr)
    have L3 := Lib.hid (And.intro hn hl)
    clear hl hr hn H3 I2 D2
    have b4 : Below w3.heap.size w3 ((w3.alloc (.cells (ba 32 f) 60)).alloc (.cells (ba 32 g) 60)) := ((Below.refl _ _).alloc (Nat.le_refl _) _).alloc (by simp) _
    have r4 : row ((w3.alloc (.cells (ba 32 f) 60)).alloc (.cells (ba 32 g) 60)) w3.heap.size = some (ba 32 f) := zK (zA _ _ _ _ rfl) _
    have s4 : row ((w3.alloc (.cells (ba 32 f) 60)).alloc (.cells (ba 32 g) 60)) (w3.heap.size + 1) = some (ba 32 g) := zA _ _ _ _ (by simp)
    obtain ⟨w4, hw4⟩ : ∃ w4, w4 = (w3.alloc (.cells (ba 32 f) 60)).alloc (.cells (ba 32 g) 60) := ⟨_, rfl⟩
    rw [← hw4] at b4 r4 s4
    have D4 := Lib.hid (Rdd.calm HI.out D3.out b4)
    have H4 := Lib.hid (dof_any f g (n : Int) w4)
    clear b4 D3
    go_upto_region 2 with fail
    rw [← hw4]
    clear hw4
    by_cases h0 : n < 1
    ·have d1 : decide ((n : Int) < 1) = true := decide_eq_true (by omega)
     have d2 : decide (n < 1) = true := decide_eq_true h0
     have K := Lib.hid (srNo_4 L1.out L2.out L3.out.1 L3.out.2 h0)
     clear h0 H4
     go_wp2_with fail
     exact ⟨rfl, .inr ⟨K.out, 80, l3, by decide, rfl, D4.out⟩⟩
    ·have d1 : decide ((n : Int) < 1) = false := decide_eq_false (by omega)
     have d2 : decide (n < 1) = false := decide_eq_false h0
     have HN := Lib.hid (show 1 ≤ n by omega)
     clear h0
     go_wp2_with fail
     refine H4.out.mono ?_
     rintro e w5 ⟨q, rfl, -, hq, hb⟩
     have Q := Lib.hid hq
     have D5 := Lib.hid (Rdd.calm HI.out D4.out hb)
     clear hq hb H4 r4 s4
     go_wp2_with fail
     go_ret
     exact .inl ⟨((f, g), n), _, l3, ⟨HN.out, L3.out.1⟩, by rw [L1.out, L2.out, L3.out.2]; unfold eSr; rw [List.append_assoc, List.append_assoc], rfl, ⟨q, rfl, Q.out⟩, D5.out⟩
   ·have K := Lib.hid (And.intro (srNo_3 L1.out L2.out hn) (And.intro hz (Rdd.trans HI.out D2.out hr)))
    clear hn hz hr H3
    go_wp2_with fail
    exact ⟨rfl, .inr ⟨K.out.1, z, l3, K.out.2.1, rfl, K.out.2.2⟩⟩
  ·have K := Lib.hid (And.intro (srNo_2 L1.out hn) (And.intro hz (Rdd.trans HI.out D1.out hr)))
   clear hn hz hr H2'
   go_wp2_with fail
   exact ⟨rfl, .inr ⟨K.out.1, z, l2, K.out.2.1, rfl, K.out.2.2⟩⟩
 ·have K := Lib.hid (And.intro (srNo_1 hn) (And.intro hz hr))
  clear hn hz hr H1
  go_wp2_with fail
  exact ⟨rfl, .inr ⟨K.out.1, z, l1, K.out.2.1, rfl, K.out.2.2⟩⟩
theorem rdend_any (X : Nat) (l : By) (w : World) (h : RdI X l w) : Calls Tryz.prog 58 #[.pointer (some ⟨X, 0, none⟩)] w fun e w' => w' = w ∧ ((l = [] ∧ e = .returned (.tuple #[])) ∨ (l ≠ [] ∧ e = .panicked (pnE 80))) := by
 obtain ⟨A, c, hr, hs, hl⟩ := h
 have a0 : w.cell? ⟨X, 0, none⟩ = some (.slice A l.length c) := zG hr 0
 obtain ⟨n, hn⟩ : ∃ n, n = l.length := ⟨_, rfl⟩
 rw [← hn] at a0
 have HN := Lib.hid hn
 clear hr hs hl hn
 by_cases h0 : 0 < n
 ·have d1 : decide ((0 : Int) < (n : Int)) = true := decide_eq_true (by omega)
  have d2 : decide (0 < n) = true := decide_eq_true h0
  have hne := Lib.hid (show l ≠ [] from fun e => by have := HN.out; rw [e] at this; simp at this; omega)
  clear h0
  go_enter Tryz.func58, Tryz.ntmps58
  go_wp2_with fail
  exact ⟨rfl, rfl, .inr ⟨hne.out, rfl⟩⟩
 ·have d1 : decide ((0 : Int) < (n : Int)) = false := decide_eq_false (by omega)
  have d2 : decide (0 < n) = false := decide_eq_false h0
  have hne := Lib.hid (show l = [] from List.length_eq_zero_iff.1 (by have := HN.out; omega))
  clear h0
  go_enter Tryz.func58, Tryz.ntmps58
  go_wp2_with fail
  go_end0
  exact ⟨rfl, .inl ⟨hne.out, rfl⟩⟩
end Go.Proofs.YteffjpdcghlnlaaGreatDoor.Oct
