import Derived.Test.YteffjpdcghlnlaaGreatDoorZbStVa
import Derived.Test.YteffjpdcghlnlaaGreatDoorZbStU
import Derived.Test.YteffjpdcghlnlaaGreatDoorZbKpM
set_option linter.unusedVariables false
set_option linter.unusedSimpArgs false
set_option maxHeartbeats 4000000
set_option maxRecDepth 20000
namespace Go.Proofs.YteffjpdcghlnlaaGreatDoor.Oct
open Go.ChangeShapes Go.WideShapes Go.ChangeAt Go.RowKit Go.Maps
theorem rgNo_1 {l : By} (h : NoF eB tt1 l) : NoF eRg rgG l := no_1 (e1 := eB) (G1 := tt1) (e2 := eL eVe) (p := Rg.off) (q := Rg.l) eRg_eq (fun _ _ => trivial) h
theorem rgNo_2 {l l1 : By} {b : Bool} (hl : l = eB b ++ l1) (h : NoF (eL eVe) (LG 4 veG) l1) : NoF eRg rgG l :=
 no_2 (e1 := eB) (G1 := tt1) (G2 := LG 4 veG) (e2 := eL eVe) (p := Rg.off) (q := Rg.l) eRg_eq (fun _ h => ⟨trivial, h⟩) eB_unq (a := b) trivial hl h
abbrev rvG (t : Nat) : Mk → World → Rg → Value → Prop := fun T w r v => ∃ vi, v = .agg (rgA r.off vi) ∧ VsAt T w t 63 vi r.l
theorem rdring_any (T : Mk) (t X C : Nat) (l : By) (w : World) (h : RdI X l w) (hX : T X ≠ t) (hX0 : T X ≠ 0) (ht : t ≠ 0) (hf : ∀ k, k < w.heap.size → T k ≠ t) (hC : row w C = some #[.pointer (some ⟨X, 0, none⟩)]) :
  Calls Tryz.prog 108 #[.pointer (some ⟨C, 0, none⟩)] w (RdOutM X l eRg rgG (S0 t) (rvG t) T w) := by
 obtain ⟨w1, hw1⟩ : ∃ w1, w1 = w.alloc (.cells (rgA false (.slice none 0 0)) 59) := ⟨_, rfl⟩
 have b1 : Below w.heap.size w w1 := by rw [hw1]; exact (Below.refl _ _).alloc (Nat.le_refl _) _
 have r1 : row w1 w.heap.size = some (rgA false (.slice none 0 0)) := by rw [hw1]; exact zA _ _ _ _ rfl
 have hXl := h.lt
 have hCl := zL hC
 have hCX : C ≠ X := fun e => by
  obtain ⟨A, c, hr, -⟩ := h
  rw [e] at hC
  rw [hC] at hr
  simp at hr
 have B1 := Lib.hid b1
 have R1 := Lib.hid r1
 have I1 := Lib.hid (h.below b1)
 have RC := Lib.hid (zE b1 hC)
 have HI := Lib.hid h
 have HF := Lib.hid hf
 have HX := Lib.hid (And.intro hX (And.intro hX0 ht))
 clear h b1 r1 hC hf hX hX0 ht
 go_enter Tryz.func108, Tryz.ntmps108
 go_upto_region 1 with fail
 rw [← hw1]
 clear hw1
 refine zZ [([0, 2, 3, 4], 1, false), ([], 5, false), ([6], 7, true)] [] (fun y => row y C = some #[.pointer (some ⟨X, 0, none⟩)]) (by kernel_rfl) (by kernel_rfl) (fun _ _ _ _ _ h => h) (by rw [zS]; exact RC.out) ?_
 have b2 := zQ (Below.refl w1.heap.size w1) 1
 have z1 : w.heap.size ≤ w1.heap.size := B1.out.size
 have B2 := Lib.hid (onto B1.out B1.out.size b2)
 have I2 := Lib.hid (I1.out.below b2)
 have R2 := Lib.hid (zE b2 R1.out)
 have RC2 := Lib.hid (zE b2 RC.out)
 obtain ⟨w2, hw2⟩ : ∃ w2, w2 = w1.drewN 1 := ⟨_, rfl⟩
 rw [← hw2] at B2 I2 R2 RC2 ⊢
 clear hw2 b2 B1 I1 R1 RC
 have hz2 := zL R2.out
 have H3 := Lib.hid (rdflag_any X l w2 I2.out)
 have hq := fun y : In (fun y => row y C = some #[.pointer (some ⟨X, 0, none⟩)]) => (zG y.ok 0 : y.val.cell? ⟨C, 0, none⟩ = _)
 have hne : Nonempty (In (fun y => row y C = some #[.pointer (some ⟨X, 0, none⟩)])) := ⟨⟨w2, RC2.out⟩⟩
 simp only [wpFl, pk, List.getElem?_cons_zero, List.getElem?_cons_succ]
 refine zX ?_
 repeat (go_big_quiet_step (fail))
 refine wpQuiet_nil ?_
 go_wp2_with fail
 refine H3.out.mono ?_
 rintro e w3 (⟨b, v, l1, -, hl, rfl, rfl, hr⟩ | ⟨hn, z, l1, hz, rfl, hr⟩)
 ·have HXX := HX.out
  have rc3 := hr.row hCX RC2.out
  have R3 := Lib.hid (hr.row (by omega) R2.out)
  have RC3 := Lib.hid rc3
  have I3 := Lib.hid (hr.inv I2.out)
  have D3 := Lib.hid (Rdd.behind HI.out B2.out hr)
  have L1 := Lib.hid hl
  have M3 := Lib.hid (show Mq T (paint T w.heap.size 0) (S0 t) X l1 w w3 from Mq.of D3.out 0 (.inl rfl))
  have H4 := Lib.hid (lsver_any (paint T w.heap.size 0) t X l1 w3 I3.out (by rw [zH hXl]; exact HXX.1) (by rw [zH hXl]; exact HXX.2.1) HXX.2.2 (fun k hk e => by
   by_cases h : k < w.heap.size
   ·rw [zH h] at e; exact HF.out k h e
   ·rw [zP (by omega)] at e; exact HXX.2.2 e.symm))
  have hz3 := hr.size
  clear hl hr H3 I2 R2 hq HXX
  go_wp2_with fail
  refine ⟨fun y => row y C = some #[.pointer (some ⟨X, 0, none⟩)], rc3, .inr ⟨rc3, fun _ h => h⟩, ?_⟩
  show wpQuiet _ _ _ _ _ _
  refine wpQuiet_nil ?_
  clear rc3
  go_wp2_with fail
  refine H4.out.mono ?_
  rintro e w4 ⟨T4, l4, hM, ⟨L, v, hg, hl, rfl, hv⟩ | ⟨hn, z, hz, rfl⟩⟩
  ·obtain ⟨A, c, hbv, -, -, -⟩ := hv.form
   subst hbv
   have rc4 := hM.rd.row hCX RC3.out
   have r4 := hM.rd.row (by omega) R3.out
   have R4 := Lib.hid r4
   have V4 := Lib.hid hv
   have R5 := Lib.hid (show T4 w.heap.size = 0 by rw [hM.tag _ (by omega)]; exact zP (Nat.le_refl _))
   have M4 := Lib.hid (M3.out.trans HI.out hM)
   have L4 := Lib.hid (And.intro hg hl)
   clear hv hM hg hl H4 R3 RC3
   go_wp2_with fail
   refine ⟨fun y => row y C = some #[.pointer (some ⟨X, 0, none⟩)], rc4, .inr ⟨rc4, fun _ h => h⟩, ?_⟩
   show wpQuiet _ _ _ _ _ _
   refine zX ?_
   have hne : Nonempty (In (fun y => row y C = some #[.pointer (some ⟨X, 0, none⟩)])) := ⟨⟨w4, rc4⟩⟩
   repeat (go_big_quiet_step (fail))
   refine wpQuiet_nil ?_
   clear rc4
   go_wp2_with fail
   have TG0 := R5.out
   have V5 := V4.out.fr (Fr.row (T := T4) (H := fun c => c = 0) (w := w4) (B := w.heap.size) TG0 (rgA b (.slice A L.length c))) (fun e => HX.out.2.2 e)
   refine ⟨fun _ => True, trivial, ?_⟩
   show wpQuiet _ _ _ _ _ _
   refine wpQuiet_nil ?_
   go_wp2_with fail
   refine bodyPost_ret (v := .agg (rgA b (.slice A L.length c))) (yK Tryz.results108 _ _ w.heap.size _ _ rfl (zC R4.out _) Tryz.underlying59 rfl (by rw [rgA_size]; exact rin_i)) rfl ⟨T4, l4, ⟨Rdd.up M4.out.rd HI.out (Nat.le_refl _) _, M4.out.tag, M4.out.mks⟩, .inl ⟨⟨b, L⟩, _, L4.out.1, ?_, rfl, _, rfl, V5⟩⟩
   rw [L1.out, L4.out.2, eRg_eq, List.append_assoc]
  ·have K := Lib.hid (And.intro (rgNo_2 L1.out hn) (And.intro hz (M3.out.trans HI.out hM)))
   clear hn hz hM H4
   go_wp2_with fail
   exact ⟨rfl, _, l4, K.out.2.2, .inr ⟨K.out.1, z, K.out.2.1, rfl⟩⟩
 ·have K := Lib.hid (And.intro (rgNo_1 hn) (And.intro hz (Rdd.behind HI.out B2.out hr)))
  clear hn hz hr H3
  go_wp2_with fail
  exact ⟨rfl, _, l1, Mq.of K.out.2.2 0 (.inl rfl), .inr ⟨K.out.1, z, K.out.2.1, rfl⟩⟩
abbrev Sr (t j : Nat) : Nat → Prop := fun c => c = 0 ∨ (t ≤ c ∧ c ≤ t + j)
theorem RsAt.fresh {T T' : Mk} {S : Nat → Prop} {X : Nat} {l : By} {w w' : World} {t : Nat} {eR eV : TypeId} {v : Value} {K : Ks} (h : RsAt T' w' t eR eV v K) (hM : Mq T T' S X l w w') (hf : ∀ k, k < w.heap.size → T k ≠ t) {w2 : World} (hg : w'.grownBy w2 v.ownBlock) : Below w.heap.size w' w2 :=
 ⟨hg.os, hg.tape, hg.output, hg.size, fun k hk => hg.block k (Nat.lt_of_lt_of_le hk hM.rd.size) (fun e => hf k hk (by rw [← hM.tag k hk]; exact h.tg k e.symm))⟩
theorem lsring_any (T : Mk) (t X C : Nat) (l : By) (w : World) (h : RdI X l w) (hX : ¬ Hk t (T X)) (hX0 : T X ≠ 0) (ht : 1 ≤ t) (hf : ∀ k, k < w.heap.size → ¬ Hk t (T k)) (hC : row w C = some #[.pointer (some ⟨X, 0, none⟩)]) :
  Calls Tryz.prog 107 #[.pointer (some ⟨X, 0, none⟩), .int .i64 8, .func (.func 108) #[] #[.pointer (some ⟨C, 0, none⟩)]] w
   (RdOutM X l (eL eRg) (LG 8 rgG) (Sr t 8) (fun T' w' K v => RsAt T' w' t 59 63 v K) T w) := by
 have hCX : C ≠ X := fun e => by
  obtain ⟨A, c, hr, -⟩ := h
  rw [e] at hC
  rw [hC] at hr
  simp at hr
 have HI := Lib.hid h
 have H1 := Lib.hid (xK X l w h)
 have HF := Lib.hid hf
 have HX := Lib.hid (And.intro hX (And.intro hX0 ht))
 have RC := Lib.hid hC
 clear h hf hX hX0 ht hC
 go_enter Tryz.func107, Tryz.ntmps107
 go_wp2_with fail
 refine H1.out.mono ?_
 rintro e w1 (⟨k, v, l1, hk, hl, rfl, rfl, hr⟩ | ⟨hn, z, l1, hz, rfl, hr⟩)
 ·by_cases h4 : 8 < k
  ·have d1 : decide ((8 : Int) < (k : Int)) = true := decide_eq_true (by omega)
   have d2 : decide (8 < k) = true := decide_eq_true h4
   have K := Lib.hid (And.intro (noL_many (e := eRg) (G := rgG) (m := 8) (by omega) hk hl h4) hr)
   clear hk hl hr H1 h4
   go_wp2_with fail
   exact ⟨rfl, _, l1, Mq.of K.out.2 0 (.inl rfl), .inr ⟨K.out.1, 80, by decide, rfl⟩⟩
  ·have d1 : decide ((8 : Int) < (k : Int)) = false := decide_eq_false (by omega)
   have d2 : decide (8 < k) = false := decide_eq_false h4
   have hk4 : k ≤ 8 := by omega
   have L1 := Lib.hid (And.intro hk hl)
   have P := Lib.hid (show Mq T (paint T w.heap.size 0) (Sr t 0) X l1 w w1 from Mq.of hr 0 (.inl rfl))
   clear hk hl hr H1 h4
   go_wp2_with fail
   go_loopw [8, 16] (fun bv iv wr => ∃ (j : Nat) (T1 : Mk) (lj : By) (L : Ks), j ≤ k ∧ iv = .int .i64 (j : Int) ∧ L.length = j ∧ (∀ a ∈ L, rgG a) ∧ l = eN k ++ (L.flatMap eRg ++ lj) ∧ Mq T T1 (Sr t j) X lj w wr ∧ RsAt T1 wr t 59 63 bv L) (fun _ iv _ => k - (intOf iv).toNat)
   case atStart =>
    exact ⟨0, _, l1, [], Nat.zero_le _, rfl, rfl, (fun a ha => by cases ha), (by rw [List.flatMap_nil, List.nil_append]; exact L1.out.2), P.out, RsAt.nil⟩
   case round =>
    obtain ⟨j, T1, lj, L, hj, rfl, hlen, hG, hl, hM, hV⟩ := hrel
    obtain ⟨wo, rfl⟩ : ∃ wo : World, wo = wr := ⟨_, rfl⟩
    obtain ⟨A, c, hbv, hlc, hcm, -⟩ := hV.form
    subst hbv
    rw [hlen] at hV ⊢
    by_cases hlt : j < k
    ·have hd : decide ((j : Int) < (k : Int)) = true := decide_eq_true (by omega)
     have hd2 : decide (j < k) = true := decide_eq_true hlt
     obtain ⟨x1, x2, x3⟩ := HX.out
     have hTX : T1 X = T X := hM.tag X HI.out.lt
     have hTX1 : T1 X ≠ t + 1 + j := by rw [hTX]; exact fun e => x1 (by unfold Hk; omega)
     have H3 := Lib.hid (rdring_any T1 (t + 1 + j) X C lj wo (hM.rd.inv HI.out) hTX1 (by rw [hTX]; exact x2) (by omega) (fun i hi e => by
      by_cases h : i < w.heap.size
      ·rw [hM.tag i h] at e
       exact HF.out i h (by unfold Hk; omega)
      ·rcases hM.mks i (by omega) with h2 | h2
       ·omega
       ·omega) (hM.rd.row hCX RC.out))
     have MO := Lib.hid hM
     have VO := Lib.hid hV
     have GO := Lib.hid (And.intro hG (And.intro hl hlen))
     have HTX := Lib.hid hTX
     clear hM hV hG hl hlen hlc x1 x2 x3 hTX hTX1
     go_wp2_with fail
     refine H3.out.mono ?_
     rintro e w3 ⟨T3, l3, hM3, ⟨r, v, hx, hl3, rfl, vi, rfl, hvi⟩ | ⟨hn, z, hz, rfl⟩⟩
     ·have HXX := HX.out
      obtain ⟨Ai, ci, hbi, -, -, -⟩ := hvi.form
      subst hbi
      have v3 := VO.out.fr hM3.fr (fun c h1 h2 e => HXX.1 (by rw [← HTX.out, ← e]; unfold Hk; have := GO.out.2.2; omega))
      have M3 := Lib.hid (show Mq T T3 (Sr t (j + 1)) X l3 w w3 from (MO.out.mono (fun c h => by unfold Sr at h ⊢; omega)).trans HI.out (hM3.mono (fun c h => by unfold S0 at h; unfold Sr; omega)))
      have b4 := (Below.refl w3.heap.size w3).alloc (Nat.le_refl _) (.cells (rgA r.off (.slice Ai r.l.length ci)) 59)
      obtain ⟨w4, hw4⟩ : ∃ w4, w4 = w3.alloc (.cells (rgA r.off (.slice Ai r.l.length ci)) 59) := ⟨_, rfl⟩
      rw [← hw4] at b4
      have r4 : row w4 w3.heap.size = some ([.bool r.off, .slice Ai r.l.length ci] : List Value).toArray := by rw [hw4, zA _ _ _ _ rfl]; unfold rgA; rfl
      have v4 := v3.fr (Fr.new (H := fun _ => False) b4 0) (fun _ _ _ h => h)
      have hvi4 := Lib.hid (hvi.fr (Fr.new (H := fun _ => False) b4 0) (fun h => h))
      have M4 := Lib.hid (M3.out.more HI.out (b4.mono M3.out.rd.size) 0 (.inl rfl))
      have V4 := Lib.hid v4
      obtain ⟨xs, hxs, hel⟩ := v4.own
      have HXS := Lib.hid (And.intro hxs hel)
      have L3 := Lib.hid (And.intro hx hl3)
      have HXX := Lib.hid HXX
      subst hw4
      clear hM3 hx hl3 v3 v4 b4 H3 VO MO M3 hel hvi
      go_wp2_with (refine wpl_appK rfl (.tmp 18) (.tmp 21) rfl rins_u rin_info (rgA_size _ _) (by decide) (by decide) hxs r4 rfl (fun v hv => by simp at hv; rcases hv with rfl | rfl <;> rfl) (by have := GO.out.2.2; omega) rfl rfl ?_; intro v5 w5 ho5 hg5 ht5)
      obtain ⟨g1, g2, g3⟩ := GO.out
      have V5 := V4.out.app (r := r) HXS.out.1 HXS.out.2 ho5 hg5 ht5 (by rw [g3]; exact hvi4.out)
      have M5 := M4.out.more HI.out (V4.out.fresh M4.out (fun i hi e => HF.out i hi (by unfold Hk; omega)) hg5) t (.inr ⟨by omega, by omega⟩)
      refine ⟨⟨j + 1, _, l3, L ++ [r], by omega, by rw [Int.natCast_succ], by rw [List.length_append, g3]; rfl, fun a ha => ?_, ?_, M5, V5⟩, ?_⟩
      ·rcases List.mem_append.1 ha with h1 | h1
       ·exact g1 a h1
       ·rw [List.mem_singleton.1 h1]; exact L3.out.1
      ·rw [g2, L3.out.2, List.flatMap_append]
       simp only [List.flatMap_cons, List.flatMap_nil, List.append_nil, List.append_assoc]
      ·simp only [intOf]
       omega
     ·have g := GO.out
      have K := Lib.hid (And.intro (noL (e := eRg) (G := rgG) (R := rgS) (m := 8) eRg_unq (by omega) g.1 L1.out.1 (by omega) g.2.1 hn) (And.intro hz (show Mq T T3 (Sr t 8) X l3 w w3 from (MO.out.mono (fun c h => by unfold Sr at h ⊢; omega)).trans HI.out (hM3.mono (fun c h => by unfold S0 at h; unfold Sr; omega)))))
      clear hn hz hM3 H3 g
      go_wp2_with fail
      exact ⟨rfl, _, l3, K.out.2.2, .inr ⟨K.out.1, z, K.out.2.1, rfl⟩⟩
    ·obtain rfl : j = k := by omega
     have hd : decide ((j : Int) < (j : Int)) = false := decide_eq_false (by omega)
     have hd2 : decide (j < j) = false := decide_eq_false (by omega)
     have K := Lib.hid (And.intro hM (And.intro hV (And.intro hG (And.intro hl hlen))))
     clear hM hV hG hl hlen hlc
     go_wp2_with fail
     go_ret
     obtain ⟨m, vv, g1, g2, g3⟩ := K.out
     exact ⟨_, lj, m.mono (fun c h => by unfold Sr at h ⊢; omega), .inl ⟨L, _, ⟨by omega, g1⟩, by rw [g2]; unfold eL; rw [g3, List.append_assoc], rfl, vv⟩⟩
 ·have K := Lib.hid (And.intro (noL_count (e := eRg) (G := rgG) (m := 8) (by omega) hn) (And.intro hz hr))
  clear hn hz hr H1
  go_wp2_with fail
  exact ⟨rfl, _, l1, Mq.of K.out.2.2 0 (.inl rfl), .inr ⟨K.out.1, z, K.out.2.1, rfl⟩⟩
end Go.Proofs.YteffjpdcghlnlaaGreatDoor.Oct
