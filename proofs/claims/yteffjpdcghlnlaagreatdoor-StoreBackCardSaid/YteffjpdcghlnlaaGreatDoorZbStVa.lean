import Derived.Test.YteffjpdcghlnlaaGreatDoorZbStV
import Derived.Test.YteffjpdcghlnlaaGreatDoorZbKrAll
set_option linter.unusedVariables false
set_option linter.unusedSimpArgs false
set_option maxHeartbeats 4000000
set_option maxRecDepth 20000
namespace Go.Proofs.YteffjpdcghlnlaaGreatDoor.Oct
open Go.ChangeShapes Go.WideShapes Go.ChangeAt Go.RowKit Go.Maps
theorem ver_b3 (m : Bf) (u : Int) (g : Bool) (w : World) : (bdA 63 #[(0, .agg (ba 32 m)), (1, .int .i64 u), (2, .bool g)]).run Tryz.prog w = .ok (.agg (veA ⟨m, u, g⟩)) w := by
 refine run_lit _ _ _ _ [(0, 32), (32, 1), (33, 1)] ver_z (by kernel_rfl) ?_ w
 rw [veA_flt, veA_flt]
 refine Eq.trans (fill_flt (pre := []) (o := 0) (m := 32) rfl rfl (by rw [zI]) (by rw [zI]; exact zI _ _)) ?_
 refine Eq.trans (fill_flt (pre := [ba 32 m]) (c := #[.int .i64 ve0.u]) (post := [#[.bool ve0.g]]) (o := 32) (m := 1) rfl (by simp [szs, zI]) rfl rfl) ?_
 exact fill_flt (pre := [ba 32 m, #[.int .i64 u]]) (c := #[.bool ve0.g]) (post := []) (o := 33) (m := 1) rfl (by simp [szs, zI]) rfl rfl
theorem veNo_1 {l : By} (h : NoF (eT 32) tt1 l) : NoF eVe veG l := no_1 (e1 := eT 32) (G1 := tt1) (e2 := fun v : Ve => eN v.u.toNat ++ eB v.g) (p := Ve.m) (q := fun v => v) (fun _ => rfl) (fun _ _ => trivial) h
theorem veNo_2 {l l1 : By} {f : Bf} (hl : l = eT 32 f ++ l1) (h : NoF eN u63 l1) : NoF eVe veG l :=
 no_2 (e1 := eT 32) (G1 := tt1) (G2 := veG) (e2 := fun v : Ve => eN v.u.toNat ++ eB v.g) (p := Ve.m) (q := fun v => v) (fun _ => rfl) (fun _ h => ⟨trivial, h⟩) eW_unq (a := f) trivial hl
  (no_1 (e1 := eN) (G1 := u63) (e2 := eB) (p := fun v : Ve => v.u.toNat) (q := Ve.g) (fun _ => rfl) (fun c hc => by have h1 : i63 c.u := hc; show c.u.toNat < 9223372036854775808; omega) h)
theorem veNo_3 {l l1 l2 : By} {f : Bf} {n : Nat} (hl : l = eT 32 f ++ l1) (hn : u63 n) (h1 : l1 = eN n ++ l2) (h : NoF eB tt1 l2) : NoF eVe veG l :=
 no_2 (e1 := eT 32) (G1 := tt1) (G2 := veG) (e2 := fun v : Ve => eN v.u.toNat ++ eB v.g) (p := Ve.m) (q := fun v => v) (fun _ => rfl) (fun _ h => ⟨trivial, h⟩) eW_unq (a := f) trivial hl
  (no_2 (e1 := eN) (G1 := u63) (G2 := tt1) (e2 := eB) (p := fun v : Ve => v.u.toNat) (q := Ve.g) (fun _ => rfl) (fun c hc => by have h1 : i63 c.u := hc; exact ⟨by show c.u.toNat < 9223372036854775808; omega, trivial⟩) eN_unq hn h1 h)
abbrev rvV (x : Ve) (v : Value) (w : World) : Prop := v = .agg (veA x)
theorem rdver_any (X : Nat) (l : By) (w : World) (h : RdI X l w) : Calls Tryz.prog 111 #[.pointer (some ⟨X, 0, none⟩)] w (RdOut X l eVe veG rvV w) := by
 obtain ⟨w1, hw1⟩ : ∃ w1, w1 = w.alloc (.cells (veA ve0) 63) := ⟨_, rfl⟩
 have b1 : Below w.heap.size w w1 := by rw [hw1]; exact (Below.refl _ _).alloc (Nat.le_refl _) _
 have r1 : row w1 w.heap.size = some (veA ve0) := by rw [hw1]; exact zA _ _ _ _ rfl
 have hX := h.lt
 have H1 := Lib.hid (rdwide_any X l w1 (h.below b1))
 have B1 := Lib.hid b1
 have R1 := Lib.hid r1
 have I1 := Lib.hid (h.below b1)
 have HI := Lib.hid h
 have bd := ver_b3
 clear h b1 r1
 go_enter Tryz.func111, Tryz.ntmps111
 go_upto_region 1 with fail
 rw [← hw1]
 clear hw1
 go_wp2_with fail
 refine H1.out.mono ?_
 rintro e w2 (⟨f, v, l1, -, hl, rfl, rfl, hr⟩ | ⟨hn, z, l1, hz, rfl, hr⟩)
 ·have I2 := Lib.hid (hr.inv I1.out)
  have D2 := Lib.hid hr
  have R2 := Lib.hid (hr.row (by omega) R1.out)
  have L1 := Lib.hid hl
  have H2' := Lib.hid (xK X l1 w2 I2.out)
  clear hl hr H1 R1
  go_wp2_with fail
  refine H2'.out.mono ?_
  rintro e w3 (⟨n, v, l2, hn, hl, rfl, rfl, hr⟩ | ⟨hn, z, l2, hz, rfl, hr⟩)
  ·have I3 := Lib.hid (hr.inv I2.out)
   have D3 := Lib.hid (Rdd.trans I1.out D2.out hr)
   have R3 := Lib.hid (hr.row (by omega) R2.out)
   have L2 := Lib.hid (And.intro hn hl)
   have H3 := Lib.hid (rdflag_any X l2 w3 I3.out)
   clear hl hr hn H2' R2 I2 D2
   go_wp2_with fail
   refine H3.out.mono ?_
   rintro e w4 (⟨g, v, l3, -, hl, rfl, rfl, hr⟩ | ⟨hn, z, l3, hz, rfl, hr⟩)
   ·have D4 := Lib.hid (Rdd.behind HI.out B1.out (Rdd.trans I1.out D3.out hr))
    have r4 := hr.row (by omega) R3.out
    have R4 := Lib.hid r4
    have L3 := Lib.hid hl
    clear hl hr H3 R3 I3 D3
    go_wp2_with fail
    refine bodyPost_ret (v := .agg (veA ⟨f, (n : Int), g⟩)) (yK Tryz.results111 _ _ w.heap.size _ _ rfl (zC R4.out _) Tryz.underlying63 rfl (by rw [veA_size]; exact ver_i)) rfl (.inl ⟨⟨f, (n : Int), g⟩, _, l3, ?_, ?_, rfl, rfl, Rdd.up D4.out HI.out (Nat.le_refl _) _⟩)
    ·have h1 := L2.out.1
     exact ⟨by show (0 : Int) ≤ (n : Int); omega, by show (n : Int) < 9223372036854775808; omega⟩
    ·rw [L1.out, L2.out.2, L3.out]
     unfold eVe
     rw [Int.toNat_natCast, List.append_assoc, List.append_assoc]
   ·have K := Lib.hid (And.intro (veNo_3 L1.out L2.out.1 L2.out.2 hn) (And.intro hz (Rdd.behind HI.out B1.out (Rdd.trans I1.out D3.out hr))))
    clear hn hz hr H3
    go_wp2_with fail
    exact ⟨rfl, .inr ⟨K.out.1, z, l3, K.out.2.1, rfl, K.out.2.2⟩⟩
  ·have K := Lib.hid (And.intro (veNo_2 L1.out hn) (And.intro hz (Rdd.behind HI.out B1.out (Rdd.trans I1.out D2.out hr))))
   clear hn hz hr H2'
   go_wp2_with fail
   exact ⟨rfl, .inr ⟨K.out.1, z, l2, K.out.2.1, rfl, K.out.2.2⟩⟩
 ·have K := Lib.hid (And.intro (veNo_1 hn) (And.intro hz (Rdd.behind HI.out B1.out hr)))
  clear hn hz hr H1
  go_wp2_with fail
  exact ⟨rfl, .inr ⟨K.out.1, z, l1, K.out.2.1, rfl, K.out.2.2⟩⟩
structure Mq (T T' : Mk) (S : Nat → Prop) (X : Nat) (l : By) (w w' : World) : Prop where
 rd : Rdd X l w w'
 tag : ∀ k, k < w.heap.size → T' k = T k
 mks : ∀ k, w.heap.size ≤ k → S (T' k)
section
variable {T T' T2 : Mk} {S S' : Nat → Prop} {X : Nat} {l l' l2 : By} {w w' w2 : World}
theorem Rdd.fr (h : Rdd X l w w') (ht : ∀ k, k < w.heap.size → T' k = T k) : Fr T T' (fun c => c = T X) w w' := by
 obtain ⟨A, c, hp, -⟩ := h
 have hb : Below w.heap.size (w.setRow X #[.slice A l.length c]) w' := hp
 exact ⟨hb.1, hb.2, hb.3, hp.size, fun k hk hn => hp.block k hk (fun e => hn (by rw [e])), ht⟩
theorem Mq.fr (h : Mq T T' S X l w w') : Fr T T' (fun c => c = T X) w w' := h.rd.fr h.tag
theorem Mq.of (h : Rdd X l w w') (m : Nat) (hm : S m) : Mq T (paint T w.heap.size m) S X l w w' := ⟨h, fun k hk => zH hk, fun k hk => by rw [zP hk]; exact hm⟩
theorem Mq.trans (hI : RdI X l w) (h : Mq T T' S X l' w w') (k : Mq T' T2 S X l2 w' w2) : Mq T T2 S X l2 w w2 :=
 ⟨Rdd.trans hI h.rd k.rd, fun i hi => (k.tag i (Nat.lt_of_lt_of_le hi h.rd.size)).trans (h.tag i hi), fun i hi => by
  by_cases hlt : i < w'.heap.size
  ·rw [k.tag i hlt]; exact h.mks i hi
  ·exact k.mks i (by omega)⟩
theorem Mq.mono (h : Mq T T' S X l w w') (hs : ∀ c, S c → S' c) : Mq T T' S' X l w w' := ⟨h.rd, h.tag, fun k hk => hs _ (h.mks k hk)⟩
theorem Rdd.calm' (hI : RdI X l w) (h : Rdd X l' w w') (hb : Below w.heap.size w' w2) : Rdd X l' w w2 := by
 have hX := hI.lt
 obtain ⟨A, c, hp, hs, hl⟩ := h
 exact ⟨A, c, Below.trans hp hb, hs.below (hb.mono (Nat.le_of_lt hX)), hl⟩
theorem Mq.more (hI : RdI X l w) (h : Mq T T' S X l' w w') (hb : Below w.heap.size w' w2) (m : Nat) (hm : S m) : Mq T (paint T' w'.heap.size m) S X l' w w2 :=
 ⟨Rdd.calm' hI h.rd hb, fun k hk => by rw [zH (Nat.lt_of_lt_of_le hk h.rd.size)]; exact h.tag k hk, fun k hk => by
  by_cases hlt : k < w'.heap.size
  ·rw [zH hlt]; exact h.mks k hk
  ·rw [zP (by omega)]; exact hm⟩
theorem VsAt.fresh {t : Nat} {e : TypeId} {v : Value} {L : List Ve} (h : VsAt T' w' t e v L) (hM : Mq T T' S X l w w') (hf : ∀ k, k < w.heap.size → T k ≠ t) {w2 : World} (hg : w'.grownBy w2 v.ownBlock) : Below w.heap.size w' w2 :=
 ⟨hg.os, hg.tape, hg.output, hg.size, fun k hk => hg.block k (Nat.lt_of_lt_of_le hk hM.rd.size) (fun e => hf k hk (by rw [← hM.tag k hk]; exact h.tg k e.symm))⟩
end
def RdOutM {α : Type} (X : Nat) (l : By) (e : α → By) (G : α → Prop) (S : Nat → Prop) (V : Mk → World → α → Value → Prop) (T : Mk) (w : World) : Ending → World → Prop := fun E w' => ∃ T' l', Mq T T' S X l' w w' ∧
 ((∃ a v, G a ∧ l = e a ++ l' ∧ E = .returned v ∧ V T' w' a v) ∨ (NoF e G l ∧ ∃ z, z ≠ 0 ∧ E = .panicked (pnE z)))
abbrev S0 (t : Nat) : Nat → Prop := fun c => c = 0 ∨ c = t
theorem lsver_any (T : Mk) (t X : Nat) (l : By) (w : World) (h : RdI X l w) (hX : T X ≠ t) (hX0 : T X ≠ 0) (ht : t ≠ 0) (hf : ∀ k, k < w.heap.size → T k ≠ t) :
  Calls Tryz.prog 110 #[.pointer (some ⟨X, 0, none⟩), .int .i64 4, .func (.func 111) #[.pointer (some ⟨X, 0, none⟩)] #[]] w
   (RdOutM X l (eL eVe) (LG 4 veG) (S0 t) (fun T' w' L v => VsAt T' w' t 63 v L) T w) := by
 have HI := Lib.hid h
 have H1 := Lib.hid (xK X l w h)
 have HF := Lib.hid hf
 have HX := Lib.hid (And.intro hX (And.intro hX0 ht))
 clear h hf hX hX0 ht
 go_enter Tryz.func110, Tryz.ntmps110
 go_wp2_with fail
 refine H1.out.mono ?_
 rintro e w1 (⟨k, v, l1, hk, hl, rfl, rfl, hr⟩ | ⟨hn, z, l1, hz, rfl, hr⟩)
 ·by_cases h4 : 4 < k
  ·have d1 : decide ((4 : Int) < (k : Int)) = true := decide_eq_true (by omega)
   have d2 : decide (4 < k) = true := decide_eq_true h4
   have K := Lib.hid (And.intro (noL_many (e := eVe) (G := veG) (m := 4) (by omega) hk hl h4) hr)
   clear hk hl hr H1 h4
   go_wp2_with fail
   exact ⟨rfl, _, l1, Mq.of K.out.2 0 (.inl rfl), .inr ⟨K.out.1, 80, by decide, rfl⟩⟩
  ·have d1 : decide ((4 : Int) < (k : Int)) = false := decide_eq_false (by omega)
   have d2 : decide (4 < k) = false := decide_eq_false h4
   have hk4 : k ≤ 4 := by omega
   have I1 := Lib.hid (hr.inv HI.out)
   have L1 := Lib.hid (And.intro hk hl)
   have D1 := Lib.hid hr
   have P := Lib.hid (show Mq T (paint T w.heap.size 0) (S0 t) X l1 w w1 from Mq.of hr 0 (.inl rfl))
   clear hk hl hr H1 h4
   go_wp2_with fail
   go_loopw [8, 16] (fun bv iv wr => ∃ (j : Nat) (T1 : Mk) (lj : By) (L : List Ve), j ≤ k ∧ iv = .int .i64 (j : Int) ∧ L.length = j ∧ (∀ a ∈ L, veG a) ∧ l = eN k ++ (L.flatMap eVe ++ lj) ∧ Mq T T1 (S0 t) X lj w wr ∧ VsAt T1 wr t 63 bv L) (fun _ iv _ => k - (intOf iv).toNat)
   case atStart =>
    exact ⟨0, _, l1, [], Nat.zero_le _, rfl, rfl, (fun a ha => by cases ha), (by rw [List.flatMap_nil, List.nil_append]; exact L1.out.2), P.out, VsAt.nil⟩
   case round =>
    obtain ⟨j, T1, lj, L, hj, rfl, hlen, hG, hl, hM, hV⟩ := hrel
    obtain ⟨wo, rfl⟩ : ∃ wo : World, wo = wr := ⟨_, rfl⟩
    obtain ⟨A, c, hbv, hlc, hcm, -⟩ := hV.form
    subst hbv
    rw [hlen] at hV ⊢
    by_cases hlt : j < k
    ·have hd : decide ((j : Int) < (k : Int)) = true := decide_eq_true (by omega)
     have hd2 : decide (j < k) = true := decide_eq_true hlt
     have IO := hM.rd.inv HI.out
     have H3 := Lib.hid (rdver_any X lj wo IO)
     have MO := Lib.hid hM
     have VO := Lib.hid hV
     have GO := Lib.hid (And.intro hG (And.intro hl hlen))
     have IO := Lib.hid IO
     clear hM hV hG hl hlen hlc
     go_wp2_with fail
     refine H3.out.mono ?_
     rintro e w3 (⟨x, v, l3, hx, hl3, rfl, rfl, hr3⟩ | ⟨hn, z, l3, hz, rfl, hr3⟩)
     ·have HXX := HX.out
      have v3 := VO.out.fr (T' := paint T1 wo.heap.size 0) (Rdd.fr (T := T1) hr3 (fun k hk => zH hk)) (by rw [MO.out.tag X HI.out.lt]; exact fun e => HXX.1 e.symm)
      have M3 := Lib.hid (MO.out.trans HI.out (Mq.of hr3 0 (.inl rfl)))
      have b4 := (Below.refl w3.heap.size w3).alloc (Nat.le_refl _) (.cells (veA x) 63)
      obtain ⟨w4, hw4⟩ : ∃ w4, w4 = w3.alloc (.cells (veA x) 63) := ⟨_, rfl⟩
      rw [← hw4] at b4
      have r4 : row w4 w3.heap.size = some (veC x).toArray := by rw [hw4, zA _ _ _ _ rfl]; unfold veA; rfl
      have v4 := v3.fr (Fr.new (H := fun _ => False) b4 0) (fun h => h)
      have M4 := Lib.hid (M3.out.more HI.out (b4.mono (Nat.le_trans MO.out.rd.size hr3.size)) 0 (.inl rfl))
      have V4 := Lib.hid v4
      have own4 := v4.own
      have L3 := Lib.hid (And.intro hx hl3)
      have HXX := Lib.hid HXX
      subst hw4
      clear hr3 hx hl3 v3 v4 b4 IO H3 VO MO M3
      go_wp2_with (refine wpl_appK rfl (.tmp 18) (.tmp 21) rfl vers_u ver_info (veA_size _) (by decide) (by decide) own4 r4 (xF _) (veC_one _) (by have := GO.out.2.2; omega) rfl rfl ?_; intro v5 w5 ho5 hg5 ht5)
      have V5 := V4.out.app (m := [x]) (by rw [show vsC [x] = veC x by unfold vsC; simp]; exact ho5) hg5 ht5
      have M5 := M4.out.more HI.out (V4.out.fresh M4.out HF.out hg5) t (.inr rfl)
      obtain ⟨g1, g2, g3⟩ := GO.out
      refine ⟨⟨j + 1, _, l3, L ++ [x], by omega, by rw [Int.natCast_succ], by rw [List.length_append, g3]; rfl, fun a ha => ?_, ?_, M5, V5⟩, ?_⟩
      ·rcases List.mem_append.1 ha with h1 | h1
       ·exact g1 a h1
       ·rw [List.mem_singleton.1 h1]; exact L3.out.1
      ·rw [g2, L3.out.2, List.flatMap_append]
       simp only [List.flatMap_cons, List.flatMap_nil, List.append_nil, List.append_assoc]
      ·simp only [intOf]
       omega
     ·have g := GO.out
      have K := Lib.hid (And.intro (noL (e := eVe) (G := veG) (R := veS) (m := 4) eVe_unq (by omega) g.1 L1.out.1 (by omega) g.2.1 hn) (And.intro hz (MO.out.trans HI.out (Mq.of hr3 0 (.inl rfl)))))
      clear hn hz hr3 H3 g IO
      go_wp2_with fail
      exact ⟨rfl, _, l3, K.out.2.2, .inr ⟨K.out.1, z, K.out.2.1, rfl⟩⟩
    ·obtain rfl : j = k := by omega
     have hd : decide ((j : Int) < (j : Int)) = false := decide_eq_false (by omega)
     have hd2 : decide (j < j) = false := decide_eq_false (by omega)
     have K := Lib.hid (And.intro hM (And.intro hV (And.intro hG (And.intro hl hlen))))
     clear hM hV hG hl hlen hlc
     go_wp2_with fail
     go_ret
     obtain ⟨m, vv, g1, g2, g3⟩ := K.out
     exact ⟨_, lj, m, .inl ⟨L, _, ⟨by omega, g1⟩, by rw [g2]; unfold eL; rw [g3, List.append_assoc], rfl, vv⟩⟩
 ·have K := Lib.hid (And.intro (noL_count (e := eVe) (G := veG) (m := 4) (by omega) hn) (And.intro hz hr))
  clear hn hz hr H1
  go_wp2_with fail
  exact ⟨rfl, _, l1, Mq.of K.out.2.2 0 (.inl rfl), .inr ⟨K.out.1, z, K.out.2.1, rfl⟩⟩
end Go.Proofs.YteffjpdcghlnlaaGreatDoor.Oct
