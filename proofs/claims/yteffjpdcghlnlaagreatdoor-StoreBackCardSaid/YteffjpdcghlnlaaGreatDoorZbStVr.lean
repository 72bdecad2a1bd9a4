import Derived.Test.YteffjpdcghlnlaaGreatDoorZbStV
import Derived.Test.YteffjpdcghlnlaaGreatDoorZbStB2
set_option linter.unusedVariables false
set_option linter.unusedSimpArgs false
set_option maxHeartbeats 4000000
set_option maxRecDepth 20000
namespace Go.Proofs.YteffjpdcghlnlaaGreatDoor.Oct
open Go.ChangeShapes Go.WideShapes Go.ChangeAt Go.RowKit Go.Maps
theorem sl_off {D R m cu : Nat} {Au : Option Addr} {F : Bf} {c : Array Value} {w : World} (h : Sl w D Au m cu F) (hr : row w R = some c) (hc : ∀ (i : Nat) (v : Int), c[i]? ≠ some (.int .u8 v)) (c' : Array Value) : Sl (w.setRow R c') D Au m cu F := by
 refine ⟨h.le, fun hm => ?_⟩
 obtain ⟨g, o, e, hg, hx⟩ := h.at_ hm
 refine ⟨g, o, e, hg, fun i hi => ?_⟩
 have hne : g ≠ R := fun e => by
  subst e
  have h0 := hx 0 hm
  rw [zG hr] at h0
  exact hc _ _ h0
 rw [← hx i hi]
 exact World.cell?_of_block (w := w) (setRow_other w R g _ hne)
theorem rep_nob (a b d : Int) (x : Value) (hx : ∀ v, x ≠ .int .u8 v) : ∀ (i : Nat) (v : Int), (#[.int .i64 a, .int .i64 b, .int .i64 d, x] : Array Value)[i]? ≠ some (.int .u8 v)
 | 0, v, h => by cases h
 | 1, v, h => by cases h
 | 2, v, h => by cases h
 | 3, v, h => hx v (Option.some.inj h)
 | i + 4, v, h => by rw [Array.getElem?_eq_none (by show 4 ≤ i + 4; omega)] at h; cases h
theorem partr_any (X : Nat) (l : By) (w : World) (h : RdI X l w) :
  Calls Tryz.prog 114 #[.pointer (some ⟨X, 0, none⟩), .func (.func 115) #[] #[]] w (RdOut X l eRp rpG (rvR w.heap.size) w) := by
 obtain ⟨R, hR⟩ : ∃ R, R = w.heap.size := ⟨_, rfl⟩
 obtain ⟨w0, hw0⟩ : ∃ w0, w0 = w.alloc (.cells #[.int .i64 0, .int .i64 0, .int .i64 0, zR] 33) := ⟨_, rfl⟩
 have b0 : Below w.heap.size w w0 := by rw [hw0]; exact (Below.refl _ _).alloc (Nat.le_refl _) _
 have r0 : row w0 R = some #[.int .i64 0, .int .i64 0, .int .i64 0, zR] := by rw [hw0, hR]; exact zA _ _ _ _ rfl
 have hXR : X < R := by rw [hR]; exact h.lt
 have HI := Lib.hid h
 have R0 := Lib.hid r0
 have B0 := Lib.hid b0
 obtain ⟨A, c, hr, hs, hl⟩ := h
 have hX := zL hr
 have hle := hs.le
 obtain ⟨P, hP⟩ : ∃ P, P = min l.length 8192 := ⟨_, rfl⟩
 have hPl : P ≤ l.length := by omega
 have hP8 : P ≤ 8192 := by omega
 have hT : (l.take P).length = P := by rw [List.length_take]; omega
 have hif : (if (8192 : Int) < (l.length : Int) then (8192 : Int) else (l.length : Int)) = (P : Int) := by split <;> omega
 have hmn : min (l.length : Int) 8192 = (P : Int) := by omega
 have q0 := fun w => run_upto (P := Tryz.prog) zY u8_i A l.length c P (by omega) w
 have HS := Lib.hid (show ∀ w1, Below w.heap.size w w1 → Sl w1 w1.heap.size A P c (lf (l.take P)) from fun w1 hb => ((((hs.below (hb.mono (Nat.le_of_lt hX))).more (Nat.le_trans (Nat.le_of_lt hX) hb.size)).upto P hPl).congr fun i hi => (lf_take _ _ _ hi).symm))
 have HR := Lib.hid hr
 have HP := Lib.hid hP
 have HT := Lib.hid hT
 obtain ⟨n, hn⟩ : ∃ n, n = l.length := ⟨_, rfl⟩
 rw [← hn] at hr hl hle hPl hif hmn q0
 have HN := Lib.hid hn
 have r1 := zE b0 hr
 have hz0 : R < w0.heap.size := zL r0
 have HRR := Lib.hid hR
 clear hs hP hT hn b0 r0 hr
 go_enter Tryz.func114, Tryz.ntmps114
 go_upto_region 1 with fail
 rw [← hw0, ← hR]
 clear hw0 hR
 refine yF [] [0, 1, 2, 3, 4, 5, 6, 7, 8, 9, 10, 11] (by kernel_rfl) (by kernel_rfl) (fun _ _ _ _ _ h => h) fun Y => ?_
 have BY := Lib.hid (onto B0.out B0.out.size Y.below)
 have R1 := Lib.hid (zE Y.below R0.out)
 have r1 := zE Y.below r1
 have hz1 := Y.below.size
 obtain ⟨w1, hw1⟩ : ∃ w1, w1 = Y.val := ⟨_, rfl⟩
 rw [← hw1] at BY R1 r1 hz1 ⊢
 clear hw1 Y
 have a1 : w1.cell? ⟨X, 0, none⟩ = some (.slice A n c) := zG r1 0
 have H1 := Lib.hid (takerep_new P c A (lf (l.take P)) w1 (HS.out w1 BY.out) (by omega))
 simp only [wpFs, pk, List.getElem?_cons_zero, List.getElem?_cons_succ]
 have k1 := After.cell r1
 repeat (go_big_quiet_step (fail))
 refine wpQuiet_nil ?_
 go_wp2_with fail
 refine H1.out.mono ?_
 rintro e w2 (⟨hz, rfl, hb⟩ | ⟨hz, Ar, cr, A1, c1, rfl, hu, ho, hb, hoff⟩)
 ·have hN : NoF eRp rpG l := front_no HP.out (fun a ha => by have := eRp_le a ha; omega) fun a r ha => rep_no (by rw [HT.out]; exact hz) a ha r
  have HF := Lib.hid hN
  have B2 := Lib.hid (onto BY.out BY.out.size hb)
  obtain ⟨E, hE⟩ : ∃ E, E = trE P (lf (l.take P)) := ⟨_, rfl⟩
  rw [← hE] at hz ⊢
  have hzi : ((E : Nat) : Int) ≠ 0 := by omega
  have hb3 := (Below.refl w2.heap.size w2).alloc (Nat.le_refl _) (.cells #[.int .i64 0, .int .i64 0, .int .i64 0, zR] 33)
  obtain ⟨w3, hw3⟩ : ∃ w3, w3 = w2.alloc (.cells #[.int .i64 0, .int .i64 0, .int .i64 0, zR] 33) := ⟨_, rfl⟩
  rw [← hw3] at hb3
  have B3 := Lib.hid (onto B2.out B2.out.size hb3)
  clear hz hb H1 hE hN k1 a1 r1 q0 hb3
  go_upto_region 3 with fail
  rw [← hw3]
  clear hw3
  go_wp2_with fail
  refine (yH _ hzi _).mono ?_
  rintro e w4 ⟨rfl, rfl⟩
  go_wp2_with fail
  exact ⟨rfl, .inr ⟨HF.out, _, l, hzi, rfl, Rdd.of HI.out B3.out⟩⟩
 ·obtain ⟨e1, e2, e3⟩ := rep_ok (l := l.take P) (by rw [HT.out]; exact hz)
  have hd := front_drop e1
  have hel : (eRp (rpT (lf (l.take P)))).length = trO (lf (l.take P)) 2 := by
   have h1 := congrArg List.length e1
   rw [List.length_append, List.length_drop] at h1
   omega
  rw [hel] at hd
  rw [HT.out] at e3
  obtain ⟨r, hr⟩ : ∃ r, r = rpT (lf (l.take P)) := ⟨_, rfl⟩
  have ev : repV (puX (lf (l.take P)) 0 : Nat) (puX (lf (l.take P)) 1 : Nat) (puX (lf (l.take P)) 2 : Nat) (.slice Ar (trT (lf (l.take P))) cr) = .agg #[.int .i64 r.c, .int .i64 r.n, .int .i64 r.m, .slice Ar r.T cr] := by rw [hr]; rfl
  have hu : Sl w2 w2.heap.size Ar r.T cr r.f := by rw [hr]; exact hu
  have HO := Lib.hid (show ∀ k, k < w.heap.size → Off k r.T Ar by rw [hr]; exact fun k hk => hoff k (Nat.lt_of_lt_of_le hk BY.out.size))
  clear hoff
  rw [ev]
  rw [← hr] at hd e2
  obtain ⟨C, hC⟩ : ∃ C : Array Value, C = #[.int .i64 r.c, .int .i64 r.n, .int .i64 r.m, .slice Ar r.T cr] := ⟨_, rfl⟩
  have hb3 := (Below.refl w2.heap.size w2).alloc (Nat.le_refl _) (.cells C 33)
  obtain ⟨w3, hw3⟩ : ∃ w3, w3 = w2.alloc (.cells C 33) := ⟨_, rfl⟩
  rw [← hw3] at hb3
  have q3 : row w3 w2.heap.size = some C := by rw [hw3]; exact zA _ _ _ _ rfl
  have B3 := Lib.hid (onto BY.out BY.out.size (onto hb hb.size hb3))
  have r2 := zE hb3 (zE hb r1)
  have R3 := Lib.hid (zE hb3 (zE hb R1.out))
  have f2 := zN r2 0
  have a2 : w3.cell? ⟨X, 0, none⟩ = some (.slice A n c) := zG r2 0
  have RX := Lib.hid r2
  have Q3 := Lib.hid q3
  have HU := Lib.hid ((hu.below hb3).more hb3.size)
  have hz2 := hb.size
  have hz3 := hb3.size
  obtain ⟨L, hL⟩ : ∃ L, L = trO (lf (l.take P)) 2 := ⟨_, rfl⟩
  rw [← hL] at hd e3 ⊢
  have HD := Lib.hid (And.intro e2 hd)
  have s1 : IntKind.i64.wrap ((P : Int) - ((P - L : Nat) : Int)) = (L : Int) := by rw [show (P : Int) - ((P - L : Nat) : Int) = (L : Int) by omega, IntKind.wrap_i64]; omega
  have s2 : (P : Int) - ((P - L : Nat) : Int) = (L : Int) := by omega
  have q1 := fun w => yZ (P := Tryz.prog) zY u8_i A n c L (by omega) w
  have hcw := zJ r2 0 (.slice (cutA A c L) (n - L) (c - L))
  rw [show #[Value.slice A n c].setIfInBounds 0 (.slice (cutA A c L) (n - L) (c - L)) = #[.slice (cutA A c L) (n - L) (c - L)] from rfl] at hcw
  rw [hC] at hw3 q3
  clear hz hb H1 ho hL e1 e2 hd k1 a1 r1 q0 hu hr ev hel hb3 q3
  go_upto_region 3 with fail
  rw [← hw3]
  clear hw3
  go_wp2_with fail
  refine (yL _).mono ?_
  rintro e w4 ⟨rfl, rfl⟩
  go_upto_region 5 with fail
  have q5 : row (w4.setRow X #[.slice (cutA A c L) (n - L) (c - L)]) w2.heap.size = some C := by rw [zD _ _ _ _ (by omega)]; exact Q3.out
  have p5 : row (w4.setRow X #[.slice (cutA A c L) (n - L) (c - L)]) R = some #[.int .i64 0, .int .i64 0, .int .i64 0, zR] := by rw [zD _ _ _ _ (by omega)]; exact R3.out
  have PX := Lib.hid (show Rdd X (l.drop L) w (w4.setRow X #[.slice (cutA A c L) (n - L) (c - L)]) from by
   have hn := HN.out
   refine ⟨cutA A c L, c - L, ?_, ?_, by rw [List.length_drop]; omega⟩
   ·rw [List.length_drop, ← hn]; exact Put.of B3.out hX _
   ·rw [List.length_drop, ← hn]; exact rdd_cut HI.out B3.out RX.out hn (by omega) _)
  have UX := Lib.hid (vt_set HU.out RX.out (.slice (cutA A c L) (n - L) (c - L)))
  have hz5 : (w4.setRow X #[.slice (cutA A c L) (n - L) (c - L)]).heap.size = w4.heap.size := by simp
  obtain ⟨w5, hw5⟩ : ∃ w5, w5 = w4.setRow X #[.slice (cutA A c L) (n - L) (c - L)] := ⟨_, rfl⟩
  rw [← hw5] at q5 p5 PX UX hcw hz5 ⊢
  rw [hC] at q5
  have P5 := Lib.hid p5
  have HRw := Lib.hid (show w.heap.size ≤ R by rw [HRR.out]; exact Nat.le_refl _)
  have HC := Lib.hid hC
  clear f2 a2 r2 RX HU hw5
  go_wp2_with fail
  refine bodyPost_ret (v := rpV r Ar cr) (yK Tryz.results114 _ _ R _ _ rfl (zC P5.out _) Tryz.underlying33 rfl (by kernel_rfl)) rfl (.inl ⟨r, _, l.drop L, HD.out.1, HD.out.2, rfl, ⟨Ar, cr, rfl, ?_, HO.out⟩, Rdd.up PX.out HI.out HRw.out _⟩)
  have hz : (w5.setRow R #[.int .i64 r.c, .int .i64 r.n, .int .i64 r.m, .slice Ar r.T cr]).heap.size = w5.heap.size := by simp
  rw [hz]
  exact sl_off UX.out P5.out (rep_nob _ _ _ _ (fun v h => by cases h)) _
end Go.Proofs.YteffjpdcghlnlaaGreatDoor.Oct
