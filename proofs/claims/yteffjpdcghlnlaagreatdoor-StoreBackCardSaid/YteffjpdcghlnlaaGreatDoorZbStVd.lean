import Derived.Test.YteffjpdcghlnlaaGreatDoorZbStVc
set_option linter.unusedVariables false
set_option linter.unusedSimpArgs false
set_option maxHeartbeats 4000000
set_option maxRecDepth 20000
namespace Go.Proofs.YteffjpdcghlnlaaGreatDoor.Oct
open Go.ChangeShapes Go.WideShapes Go.ChangeAt Go.RowKit Go.Maps
theorem lsseat_any (T : Mk) (t X C : Nat) (l : By) (w : World) (h : RdI X l w) (hX : T X ≠ t) (hX0 : T X ≠ 0) (ht : t ≠ 0) (hf : ∀ k, k < w.heap.size → T k ≠ t) (hC : row w C = some #[.pointer (some ⟨X, 0, none⟩)]) :
  Calls Tryz.prog 112 #[.pointer (some ⟨X, 0, none⟩), .int .i64 8, .func (.func 113) #[] #[.pointer (some ⟨C, 0, none⟩)]] w
   (RdOutM X l (eL eSe) (LG 8 seG) (S0 t) (fun T' w' L v => ∃ A c, v = .slice A L.length c ∧ ElAt 6 seEl T' w' t A c L) T w) := by
 have hCX : C ≠ X := fun e => by
  obtain ⟨A, c, hr, -⟩ := h
  rw [e] at hC
  rw [hC] at hr
  simp at hr
 have HI := Lib.hid h
 have H1 := Lib.hid (xK X l w h)
 have HF := Lib.hid hf
 have HX := Lib.hid (And.intro hX (And.intro hX0 ht))
 have RC := Lib.hid hC
 clear h hf hX hX0 ht hC
 go_enter Tryz.func112, Tryz.ntmps112
 go_wp2_with fail
 refine H1.out.mono ?_
 rintro e w1 (⟨k, v, l1, hk, hl, rfl, rfl, hr⟩ | ⟨hn, z, l1, hz, rfl, hr⟩)
 ·by_cases h4 : 8 < k
  ·have d1 : decide ((8 : Int) < (k : Int)) = true := decide_eq_true (by omega)
   have d2 : decide (8 < k) = true := decide_eq_true h4
   have K := Lib.hid (And.intro (noL_many (e := eSe) (G := seG) (m := 8) (by omega) hk hl h4) hr)
   clear hk hl hr H1 h4
   go_wp2_with fail
   exact ⟨rfl, _, l1, Mq.of K.out.2 0 (.inl rfl), .inr ⟨K.out.1, 80, by decide, rfl⟩⟩
  ·have d1 : decide ((8 : Int) < (k : Int)) = false := decide_eq_false (by omega)
   have d2 : decide (8 < k) = false := decide_eq_false h4
   have hk4 : k ≤ 8 := by omega
   have L1 := Lib.hid (And.intro hk hl)
   have P := Lib.hid (show Mq T (paint T w.heap.size 0) (S0 t) X l1 w w1 from Mq.of hr 0 (.inl rfl))
   clear hk hl hr H1 h4
   go_wp2_with fail
   go_loopw [8, 16] (fun bv iv wr => ∃ (j : Nat) (T1 : Mk) (lj : By) (L : List Se) (A : Option Addr) (c : Nat), j ≤ k ∧ iv = .int .i64 (j : Int) ∧ bv = .slice A j c ∧ L.length = j ∧ (∀ a ∈ L, seG a) ∧ l = eN k ++ (L.flatMap eSe ++ lj) ∧ Mq T T1 (S0 t) X lj w wr ∧ ElAt 6 seEl T1 wr t A c L) (fun _ iv _ => k - (intOf iv).toNat)
   case atStart =>
    exact ⟨0, _, l1, [], none, 0, Nat.zero_le _, rfl, rfl, rfl, (fun a ha => by cases ha), (by rw [List.flatMap_nil, List.nil_append]; exact L1.out.2), P.out, ElAt.nil _ _ _⟩
   case round =>
    obtain ⟨j, T1, lj, L, A, c, hj, rfl, rfl, hlen, hG, hl, hM, hV⟩ := hrel
    obtain ⟨wo, rfl⟩ : ∃ wo : World, wo = wr := ⟨_, rfl⟩
    by_cases hlt : j < k
    ·have hd : decide ((j : Int) < (k : Int)) = true := decide_eq_true (by omega)
     have hd2 : decide (j < k) = true := decide_eq_true hlt
     have H3 := Lib.hid (rdseat_any X C lj wo (hM.rd.inv HI.out) (hM.rd.row hCX RC.out))
     have MO := Lib.hid hM
     have VO := Lib.hid hV
     have GO := Lib.hid (And.intro hG (And.intro hl hlen))
     clear hM hV hG hl hlen
     go_wp2_with fail
     refine H3.out.mono ?_
     rintro e w3 (⟨s, v, l3, hx, hl3, rfl, ⟨A', c', rfl, hsl, hoff⟩, hr3⟩ | ⟨hn, z, l3, hz, rfl, hr3⟩)
     ·have HXX := HX.out
      have hTX : T1 X = T X := MO.out.tag X HI.out.lt
      have f3 := Rdd.fr (T := T1) (T' := paint T1 wo.heap.size 0) hr3 (fun k hk => zH hk)
      have v3 := VO.out.fr xC f3 (by rw [hTX]; exact fun e => HXX.1 e.symm) (by rw [hTX]; exact fun e => HXX.2.1 e.symm)
      have d3 : RdS (paint T1 wo.heap.size 0) w3 0 A' s.T c' s.f := ⟨hsl, fun hn a ha => by
       by_cases hk : a.block < wo.heap.size
       ·exact absurd rfl (hoff _ hk hn a ha)
       ·exact zP (by omega)⟩
      have M3 := Lib.hid (MO.out.trans HI.out (Mq.of hr3 0 (.inl rfl)))
      have b4 := (Below.refl w3.heap.size w3).alloc (Nat.le_refl _) (.cells #[.int .i64 s.id, .int .i64 s.q, .int .i64 s.c, .int .i64 s.n, .int .i64 s.m, .slice A' s.T c'] 121)
      obtain ⟨w4, hw4⟩ : ∃ w4, w4 = w3.alloc (.cells #[.int .i64 s.id, .int .i64 s.q, .int .i64 s.c, .int .i64 s.n, .int .i64 s.m, .slice A' s.T c'] 121) := ⟨_, rfl⟩
      rw [← hw4] at b4
      have r4 : row w4 w3.heap.size = some ([.int .i64 s.id, .int .i64 s.q, .int .i64 s.c, .int .i64 s.n, .int .i64 s.m, .slice A' s.T c'] : List Value).toArray := by rw [hw4, zA _ _ _ _ rfl]
      have E4 := v3.fr xC (Fr.new (H := fun _ => False) b4 0) (fun h => h) (fun h => h)
      have D4 := d3.fr (Fr.new (H := fun _ => False) b4 0) (fun h => h)
      have M4 := Lib.hid (M3.out.more HI.out (b4.mono M3.out.rd.size) 0 (.inl rfl))
      have L3 := Lib.hid (And.intro hx hl3)
      have HXX := Lib.hid HXX
      have hlj := GO.out.2.2
      have E4' := Lib.hid E4
      have D4' := Lib.hid D4
      have R4' := Lib.hid r4
      clear hr3 hx hl3 v3 d3 f3 b4 H3 VO MO M3 hsl hoff hTX E4 D4 r4
      obtain rfl := hlj
      go_wp2_with (at_builtin; simp only [← hw4]; refine wpl_appAt xC rfl (.tmp 18) (.tmp 21) rfl ssl_u se_info rfl (by decide) (by decide) E4'.out R4'.out (x := s) ⟨A', c', rfl, D4'.out⟩ (by omega) (fun e => HXX.out.2.2 e.symm) (by simp [Act.eval]) (by simp [Act.eval]) ?_; intro A5 c5 w5 p5 f5)
      obtain ⟨g1, g2, -⟩ := GO.out
      have M5 := M4.out.more HI.out (f5.below M4.out.rd.size (fun k hk e => HF.out k hk (by rw [← M4.out.tag k hk]; exact e))) t (.inr rfl)
      refine ⟨⟨L.length + 1, _, l3, L ++ [s], A5, c5, by omega, by rw [Int.natCast_succ], rfl, by rw [List.length_append]; rfl, fun a ha => ?_, ?_, M5, p5⟩, ?_⟩
      ·rcases List.mem_append.1 ha with h1 | h1
       ·exact g1 a h1
       ·rw [List.mem_singleton.1 h1]; exact L3.out.1
      ·rw [g2, L3.out.2, List.flatMap_append]
       simp only [List.flatMap_cons, List.flatMap_nil, List.append_nil, List.append_assoc]
      ·simp only [intOf]
       omega
     ·have g := GO.out
      have K := Lib.hid (And.intro (noL (e := eSe) (G := seG) (R := seS) (m := 8) eSe_unq (by omega) g.1 L1.out.1 (by omega) g.2.1 hn) (And.intro hz (MO.out.trans HI.out (Mq.of hr3 0 (.inl rfl)))))
      clear hn hz hr3 H3 g
      go_wp2_with fail
      exact ⟨rfl, _, l3, K.out.2.2, .inr ⟨K.out.1, z, K.out.2.1, rfl⟩⟩
    ·obtain rfl : j = k := by omega
     have hd : decide ((j : Int) < (j : Int)) = false := decide_eq_false (by omega)
     have hd2 : decide (j < j) = false := decide_eq_false (by omega)
     have K := Lib.hid (And.intro hM (And.intro hV (And.intro hG (And.intro hl hlen))))
     clear hM hV hG hl hlen
     go_wp2_with fail
     go_ret
     obtain ⟨m, vv, g1, g2, g3⟩ := K.out
     exact ⟨_, lj, m, .inl ⟨L, _, ⟨by omega, g1⟩, by rw [g2]; unfold eL; rw [g3, List.append_assoc], rfl, A, c, by rw [g3]; rfl, vv⟩⟩
 ·have K := Lib.hid (And.intro (noL_count (e := eSe) (G := seG) (m := 8) (by omega) hn) (And.intro hz hr))
  clear hn hz hr H1
  go_wp2_with fail
  exact ⟨rfl, _, l1, Mq.of K.out.2.2 0 (.inl rfl), .inr ⟨K.out.1, z, K.out.2.1, rfl⟩⟩
end Go.Proofs.YteffjpdcghlnlaaGreatDoor.Oct
