/- The statement KeyringOff: the law strongroomlaw13.KeyringOff answers true for every input, and leaves its arguments as they were. No further condition. -/
import Derived.Test.YtabchkcieddhpaaRows
import Derived.Test.YtabchkcieddhpaaLib
import Derived.Test.YtabchkcieddhpaaKrM
import Derived.Test.YtabchkcieddhpaaKrN
namespace Go.Proofs.Ytabchkcieddhpaa.keyringOff
open Go.ChangeShapes Go.WideShapes Go.ChangeAt Go.RowKit
open Go.Proofs.Ytabchkcieddhpaa.Oct
set_option linter.unusedVariables false

theorem own : ownKnob Try.prog.godebug = none := by kernel_rfl
theorem laidOut : laidOutB Try.prog = true := by kernel_rfl

/-- a keyring on a law's way -/
structure Sg (w wr : World) (T : Mk) (t B M : Nat) (K : Ks) : Prop where
  p : KpAt T wr t B K
  am : 1 ≤ t ∧ t + 10 ≤ M
  bd : ∀ k, T k < M
  old : ∀ k, k < w.heap.size → T k = 0
  bel : Below w.heap.size w wr
section
variable {w wr w2 : World} {T T' : Mk} {t B M : Nat} {K K' : Ks} {v : Value}
theorem Sg.step (h : Sg w wr T t B M K) (hp : KpAt T' w2 t B K') (f : Fk T T' t wr w2) : Sg w w2 T' t B M K' := by
  obtain ⟨a1, a2⟩ := h.am
  refine ⟨hp, h.am, fun k => ?_, fun k hk => ?_, h.bel.trans (f.fr.below h.bel.size fun k hk e => ?_)⟩
  · rcases f.mks k with e | e
    · rw [e]; exact h.bd k
    · have := e.2; omega
  · rw [f.fr.tag k (Nat.lt_of_lt_of_le hk h.bel.size)]; exact h.old k hk
  · rw [h.old k hk] at e; have := e.1; omega
theorem Sg.more (h : Sg w wr T t B M K) (hb : Below wr.heap.size wr w2) : Sg w w2 T t B M K :=
  h.step (h.p.fr (Fr.same (H := fun _ => False) hb) (fun _ _ e => e)) (.same (Fr.same hb))
theorem Sg.tell (h : Sg w wr T t B M K) (f : Nk T T' M wr w2) : Sg w w2 T' t B (M + 10) K := by
  obtain ⟨a1, a2⟩ := h.am
  refine ⟨h.p.fr (Fr.calm (H := fun _ => False) f.below f.tag) (fun _ _ e => e), ⟨a1, by omega⟩, fun k => ?_, fun k hk => ?_, onto h.bel h.bel.size f.below⟩
  · rcases f.mks k with e | e
    · rw [e]; have := h.bd k; omega
    · have := e.2; omega
  · rw [f.tag k (Nat.lt_of_lt_of_le hk h.bel.size)]; exact h.old k hk
theorem Sg.fresh (h : Sg w wr T t B M K) : ∀ k, k < wr.heap.size → ¬ Hk M (T k) := fun k _ e => by have := e.1; have := h.bd k; omega
theorem Sg.init (hb : Below w.heap.size w wr) (hp : KpAt T w2 10 B K) (f : Nk (fun _ => 0) T 10 wr w2) : Sg w w2 T 10 B 20 K := by
  refine ⟨hp, by omega, fun k => ?_, fun k hk => f.tag k (Nat.lt_of_lt_of_le hk hb.size), onto hb hb.size f.below⟩
  rcases f.mks k with e | e
  · rw [e]; omega
  · have := e.2; omega
end
/-- and rings that were told -/
structure Sr (w wr : World) (T : Mk) (t B M X : Nat) (K : Ks) (v : Value) (Kr : Ks) : Prop where
  s : Sg w wr T t B M K
  r : RsAt T wr X 48 50 v Kr
  ap : t + 10 ≤ X
section
variable {w wr w2 : World} {T T' : Mk} {t B M X : Nat} {K K' Kr : Ks} {v : Value}
theorem Sg.new (h : Sg w wr T t B M K) (hb : Below wr.heap.size wr w2) : Sg w w2 (paint T wr.heap.size 0) t B M K := by
  obtain ⟨a1, a2⟩ := h.am
  refine ⟨h.p.fr (Fr.new (H := fun _ => False) hb 0) (fun _ _ e => e), h.am, fun k => ?_, fun k hk => ?_, onto h.bel h.bel.size hb⟩
  · by_cases hk : k < wr.heap.size
    · rw [paint_old hk]; exact h.bd k
    · rw [paint_new (by omega)]; omega
  · rw [paint_old (Nat.lt_of_lt_of_le hk h.bel.size)]; exact h.old k hk
theorem Sg.told (h : Sg w wr T t B M K) (r : RsAt T' w2 M 48 50 v K) (f : Nk T T' M wr w2) : Sr w w2 T' t B (M + 10) M K v K := ⟨h.tell f, r, h.am.2⟩
theorem Sr.step (h : Sr w wr T t B M X K v Kr) (hp : KpAt T' w2 t B K') (f : Fk T T' t wr w2) : Sr w w2 T' t B M X K' v Kr :=
  ⟨h.s.step hp f, h.r.fr f.fr (fun c e1 _ e2 => by have := h.ap; have := e2.2; omega), h.ap⟩
theorem Sr.more (h : Sr w wr T t B M X K v Kr) (hb : Below wr.heap.size wr w2) : Sr w w2 T t B M X K v Kr :=
  ⟨h.s.more hb, h.r.fr (Fr.same (H := fun _ => False) hb) (fun _ _ _ e => e), h.ap⟩
theorem Sr.new (h : Sr w wr T t B M X K v Kr) (hb : Below wr.heap.size wr w2) : Sr w w2 (paint T wr.heap.size 0) t B M X K v Kr :=
  ⟨h.s.new hb, h.r.fr (Fr.new (H := fun _ => False) hb 0) (fun _ _ _ e => e), h.ap⟩
end
/-- the two rings on the way -/
def K2 (m n : Bf) (o : Bool) (u v : Int) : Ks := [⟨o, [⟨m, u, false⟩]⟩, ⟨false, [⟨n, v, false⟩]⟩]
theorem K2.mk (m n : Bf) : crK (crK [] m) n = K2 m n false 0 0 := rfl
theorem K2.has (m n : Bf) (o : Bool) (u v : Int) : hasK (K2 m n o u v) 1 = true ∧ hasK (K2 m n o u v) 2 = true ∧ hasV (K2 m n o u v) 1 1 = true := ⟨rfl, rfl, rfl⟩
theorem K2.us (m n : Bf) (u v : Int) (hu : 0 ≤ u ∧ u ≤ 16) : ∃ u', usK (K2 m n false u v) 1 = K2 m n false u' v ∧ 0 ≤ u' ∧ u' ≤ 16 := by
  by_cases h : 16 ≤ u
  · refine ⟨u, ?_, hu⟩
    have hE : usE (K2 m n false u v) 1 = 133 := by show (if 16 ≤ u then (133 : Int) else 0) = 133; rw [if_pos h]
    unfold usK; rw [hE]; rfl
  · refine ⟨u + 1, ?_, by omega, by omega⟩
    have hE : usE (K2 m n false u v) 1 = 0 := by show (if 16 ≤ u then (133 : Int) else 0) = 0; rw [if_neg h]
    unfold usK; rw [hE]; rfl
theorem K2.sw (m n : Bf) (o on : Bool) (u v : Int) : swK (K2 m n o u v) 1 on = K2 m n (!on) u v := rfl
theorem K2.swe (m n : Bf) (o : Bool) (u v : Int) : swE (K2 m n o u v) 1 = 0 := rfl
theorem K2.off (m n : Bf) (u v : Int) : usK (K2 m n true u v) 1 = K2 m n true u v ∧ usE (K2 m n true u v) 1 = 131 ∧ mtE (K2 m n true u v) 1 1 = 131 := ⟨rfl, rfl, rfl⟩
theorem K2.use2 (m n : Bf) (o : Bool) (u : Int) : usK (K2 m n o u 0) 2 = K2 m n o u 1 ∧ usE (K2 m n o u 0) 2 = 0 ∧ usM (K2 m n o u 0) 2 = n := ⟨rfl, rfl, rfl⟩
theorem K2.mat (m n : Bf) (u v : Int) : mtE (K2 m n false u v) 1 1 = 0 ∧ mtM (K2 m n false u v) 1 1 = m := ⟨rfl, rfl⟩
/-- a row's first -/
theorem RRd.one {w : World} {A : Option Addr} {n c : Nat} {r : Rg} {K : Ks} (h : RRd w (.slice A n c) (r :: K)) : RRd w (.slice A 1 c) [r] := by
  obtain ⟨A', c', e, hle, hmx, hc⟩ := h.at_
  simp only [Value.slice.injEq] at e
  obtain ⟨rfl, rfl, rfl⟩ := e
  refine ⟨A, c, rfl, by simp at hle ⊢; omega, hmx, fun _ => ?_⟩
  obtain ⟨g, o, rfl, hg, hat⟩ := hc (by simp)
  refine ⟨g, o, rfl, hg, fun i hi => ?_⟩
  obtain rfl : i = 0 := by simp at hi; omega
  exact hat 0 (by simp)
set_option maxRecDepth 20000 in
set_option maxHeartbeats 8000000 in
theorem walk (a0 : Nat → BitVec 8) (a1 : Int) (w : World) (w1 : (Lit.int .i64 a1).wf = true) :
    Calls Try.prog 7 #[.agg (ba 64 a0), .int .i64 a1] w fun e w' => e = .returned (.bool true) ∧ Below w.heap.size w w' := by
  have hq1 := wfK w1
  obtain ⟨w0, hw0⟩ : ∃ w0, w0 = w.alloc (.cells (ba 64 a0) 59) := ⟨_, rfl⟩
  have b0 : Below w.heap.size w w0 := by rw [hw0]; exact (Below.refl w.heap.size w).alloc (by simp) _
  have r0 : row w0 w.heap.size = some (ba 64 a0) := by rw [hw0]; exact row_alloc_at _ _ _ _ rfl
  obtain ⟨Z, hZ⟩ : ∃ Z, Z = w.heap.size := ⟨_, rfl⟩
  rw [← hZ] at r0
  have hZ0 : Z < w0.heap.size := row_lt r0
  have B0 := Lib.hid b0
  have R0 := Lib.hid r0
  obtain ⟨x, hx⟩ : ∃ x : Nat, (x : Int) = kdF a1 21 := ⟨(kdF a1 21).toNat, by have := kdF_nn a1 21 (by omega); omega⟩
  have hx21 : x < 21 := by have := kdF_nn a1 21 (by omega); omega
  have HX := Lib.hid hx
  clear b0 r0 hx w1
  go_enter Try.func7, Try.ntmps7
  go_wp2_with fail
  rw [← hw0, ← hZ]
  clear hw0 hZ
  refine (shown_any w0).mono ?_
  rintro e w1 ⟨rfl, hb1⟩
  go_wp2_with fail
  refine (pnew_any (fun _ => 0) 10 w1).mono ?_
  rintro e w2 ⟨B, T2, rfl, hp2, hn2⟩
  have S2 := Lib.hid (Sg.init hb1 hp2 hn2)
  have r2 := (row_heap (S2.out.bel.block Z hZ0)).trans R0.out
  clear hb1 hp2 hn2
  go_wp2_with fail
  refine (pcr_any T2 10 B [] a0 w2 S2.out.p).mono ?_
  rintro e w3 ⟨rfl, T3, hp3, f3⟩
  have S3 := Lib.hid (S2.out.step hp3 f3)
  have r3 := (row_heap (S3.out.bel.block Z hZ0)).trans R0.out
  clear hp3 f3 S2 r2
  go_wp2_with fail
  obtain ⟨m1, hm1⟩ : ∃ m, m = offF a0 32 := ⟨_, rfl⟩
  rw [← hm1]
  have HM1 := Lib.hid hm1
  refine (pcr_any T3 10 B _ m1 w3 S3.out.p).mono ?_
  rintro e w4 ⟨rfl, T4, hp4, f4⟩
  rw [K2.mk] at hp4
  have S4 := Lib.hid (S3.out.step hp4 f4)
  clear hp4 f4 S3 r3 hm1
  go_wp2_with fail
  go_loopw [7] (fun iv wr => ∃ (i : Nat) (T : Mk) (u : Int), i ≤ x ∧ iv = .int .i64 i ∧ Sg w0 wr T 10 B 20 (K2 a0 m1 false u 0) ∧ 0 ≤ u ∧ u ≤ 16) (fun iv _ => x - (intOf iv).toNat)
  case atStart => exact ⟨0, _, 0, by omega, rfl, S4.out, by omega, by omega⟩
  case round =>
    clear S4
    obtain ⟨i, T, u, hi, rfl, hS, hu⟩ := hrel
    obtain ⟨w5, rfl⟩ : ∃ w5 : World, w5 = wr := ⟨_, rfl⟩
    have HS := Lib.hid hS
    clear hS
    go_wp2_with fail
    refine (kind_any a1 21 hq1 (by omega) w5).mono ?_
    rintro e w6 ⟨rfl, rfl⟩
    rw [← HX.out]
    by_cases hlt : i < x
    · have hd1 : decide ((i : Int) < (x : Int)) = true := by simp; omega
      go_wp2_with fail
      refine (pus_any T 10 B _ 1 w5 HS.out.p).mono ?_
      rintro e w7 ⟨rfl, T7, hp7, f7⟩
      obtain ⟨u', e1, hu'⟩ := K2.us a0 m1 u 0 hu
      rw [e1] at hp7
      have S7 := Lib.hid (HS.out.step hp7 f7)
      clear hp7 f7 HS e1
      go_wp2_with fail
      go_roundw
      case rel => exact ⟨i + 1, _, u', by omega, by go_num, S7.out, hu'⟩
      case measure => simp [intOf]; omega
    · have hd1 : decide ((i : Int) < (x : Int)) = false := by simp; omega
      go_wp2_with fail
      refine (prs_any T 10 20 B _ w5 HS.out.p HS.out.fresh).mono ?_
      rintro e w6 ⟨v6, T6, rfl, r6, f6⟩
      obtain ⟨A6, c6, rfl, hle6, hmx6, -⟩ := r6.form
      rw [show (K2 a0 m1 false u 0).length = 2 from rfl] at r6 hle6 ⊢
      have S6 := Lib.hid (HS.out.told r6 f6)
      clear r6 f6 HS
      go_wp2_with fail
      refine (psw_any T6 10 B _ 1 false w6 S6.out.s.p).mono ?_
      rintro e w7 ⟨rfl, T7, hp7, f7⟩
      rw [K2.sw, Bool.not_false] at hp7
      rw [K2.swe]
      have S7 := Lib.hid (S6.out.step hp7 f7)
      clear hp7 f7 S6
      go_wp2_with fail
      refine (pus_any T7 10 B _ 1 w7 S7.out.s.p).mono ?_
      rintro e w8 ⟨rfl, T8, hp8, f8⟩
      rw [(K2.off a0 m1 u 0).1] at hp8
      rw [(K2.off a0 m1 u 0).2.1]
      have S8 := Lib.hid (S7.out.step hp8 f8)
      obtain ⟨z1, hz1⟩ : ∃ z, z = usV (K2 a0 m1 true u 0) 1 := ⟨_, rfl⟩
      obtain ⟨z2, hz2⟩ : ∃ z, z = usC (K2 a0 m1 true u 0) 1 := ⟨_, rfl⟩
      obtain ⟨z3, hz3⟩ : ∃ z, z = usM (K2 a0 m1 true u 0) 1 := ⟨_, rfl⟩
      rw [← hz1, ← hz2, ← hz3]
      clear hp8 f8 S7 hz1 hz2 hz3
      go_wp2_with fail
      obtain ⟨w9, hw9⟩ : ∃ w9, w9 = w8.alloc (.cells (ba 32 z3) 32) := ⟨_, rfl⟩
      have b9 : Below w8.heap.size w8 w9 := by rw [hw9]; exact (Below.refl _ _).alloc (Nat.le_refl _) _
      rw [← hw9]
      have S9 := Lib.hid (S8.out.more b9)
      clear b9 hw9 S8
      refine (pmt_any T8 10 B _ 1 1 w9 S9.out.s.p).mono ?_
      rintro e w10 ⟨rfl, hb10⟩
      rw [(K2.off a0 m1 u 0).2.2]
      have S10 := Lib.hid (S9.out.more hb10)
      obtain ⟨z4, hz4⟩ : ∃ z, z = mtM (K2 a0 m1 true u 0) 1 1 := ⟨_, rfl⟩
      rw [← hz4]
      clear hb10 S9 hz4
      go_wp2_with fail
      obtain ⟨w11, hw11⟩ : ∃ w9, w9 = w10.alloc (.cells (ba 32 z4) 32) := ⟨_, rfl⟩
      have b11 : Below w10.heap.size w10 w11 := by rw [hw11]; exact (Below.refl _ _).alloc (Nat.le_refl _) _
      rw [← hw11]
      have S11 := Lib.hid (S10.out.more b11)
      clear b11 hw11 S10
      refine (pus_any T8 10 B _ 2 w11 S11.out.s.p).mono ?_
      rintro e w12 ⟨rfl, T12, hp12, f12⟩
      rw [(K2.use2 a0 m1 true u).1] at hp12
      rw [(K2.use2 a0 m1 true u).2.1, (K2.use2 a0 m1 true u).2.2]
      have S12 := Lib.hid (S11.out.step hp12 f12)
      obtain ⟨z5, hz5⟩ : ∃ z, z = usV (K2 a0 m1 true u 0) 2 := ⟨_, rfl⟩
      obtain ⟨z6, hz6⟩ : ∃ z, z = usC (K2 a0 m1 true u 0) 2 := ⟨_, rfl⟩
      rw [← hz5, ← hz6]
      clear hp12 f12 S11 hz5 hz6
      go_wp2_with fail
      obtain ⟨w13, hw13⟩ : ∃ w9, w9 = w12.alloc (.cells (ba 32 m1) 32) := ⟨_, rfl⟩
      have b13 : Below w12.heap.size w12 w13 := by rw [hw13]; exact (Below.refl _ _).alloc (Nat.le_refl _) _
      have r13 : row w13 w12.heap.size = some (ba 32 m1) := by rw [hw13]; exact row_alloc_at _ _ _ _ rfl
      rw [← hw13]
      have S13 := Lib.hid (S12.out.new b13)
      obtain ⟨Y, hY⟩ : ∃ Y, Y = w12.heap.size := ⟨_, rfl⟩
      have tY : paint T12 w12.heap.size 0 Y = 0 := by rw [hY]; exact paint_new (Nat.le_refl _)
      rw [← hY] at r13 ⊢
      obtain ⟨T13, hT13⟩ : ∃ T, T = paint T12 w12.heap.size 0 := ⟨_, rfl⟩
      rw [← hT13] at S13 tY
      clear b13 hw13 S12 hY hT13
      refine (psw_any T13 10 B _ 1 true w13 S13.out.s.p).mono ?_
      rintro e w14 ⟨rfl, T14, hp14, f14⟩
      rw [K2.sw, Bool.not_true] at hp14
      rw [K2.swe]
      have S14 := Lib.hid (S13.out.step hp14 f14)
      have r14 := f14.fr.rowAt r13 (by rw [tY]; exact fun e => by have := e.1; omega)
      have t14 : T14 Y = 0 := by rw [f14.fr.tag Y (row_lt r13)]; exact tY
      have R14 := Lib.hid r14
      clear hp14 f14 S13 r13 tY r14
      go_wp2_with fail
      refine (pmt_any T14 10 B _ 1 1 w14 S14.out.s.p).mono ?_
      rintro e w15 ⟨rfl, hb15⟩
      rw [(K2.mat a0 m1 u 1).1, (K2.mat a0 m1 u 1).2]
      have S15 := Lib.hid (S14.out.more hb15)
      have R15 := Lib.hid ((row_heap (hb15.block Y (row_lt R14.out))).trans R14.out)
      clear hb15 S14 R14
      go_wp2_with fail
      obtain ⟨w16, hw16⟩ : ∃ w9, w9 = w15.alloc (.cells (ba 32 a0) 32) := ⟨_, rfl⟩
      have b16 : Below w15.heap.size w15 w16 := by rw [hw16]; exact (Below.refl _ _).alloc (Nat.le_refl _) _
      have r16 : row w16 w15.heap.size = some (ba 32 a0) := by rw [hw16]; exact row_alloc_at _ _ _ _ rfl
      rw [← hw16]
      have S16 := Lib.hid (S15.out.new b16)
      have R16 := Lib.hid ((row_heap (b16.block Y (row_lt R15.out))).trans R15.out)
      have t16 : paint T14 w15.heap.size 0 Y = 0 := by rw [paint_old (row_lt R15.out)]; exact t14
      obtain ⟨V, hV⟩ : ∃ Y, Y = w15.heap.size := ⟨_, rfl⟩
      have tV : paint T14 w15.heap.size 0 V = 0 := by rw [hV]; exact paint_new (Nat.le_refl _)
      rw [← hV] at r16 ⊢
      obtain ⟨T16, hT16⟩ : ∃ T, T = paint T14 w15.heap.size 0 := ⟨_, rfl⟩
      rw [← hT16] at S16 tV t16
      have RV := Lib.hid r16
      clear b16 hw16 S15 R15 hV hT16 t14 r16
      refine (prs_any T16 10 30 B _ w16 S16.out.s.p S16.out.s.fresh).mono ?_
      rintro e w17 ⟨v17, T17, rfl, r17, f17⟩
      obtain ⟨A17, c17, rfl, hle17, hmx17, -⟩ := r17.form
      rw [show (K2 a0 m1 false u 1).length = 2 from rfl] at r17 hle17 ⊢
      have RA := Lib.hid (RRd.one (S16.out.r.fr (Fr.calm (H := fun _ => False) f17.below f17.tag) (fun _ _ _ e => e)).rd)
      have RB := Lib.hid (RRd.one r17.rd)
      have R17 := Lib.hid ((row_heap (f17.below.block Y (row_lt R16.out))).trans R16.out)
      have RV17 := Lib.hid ((row_heap (f17.below.block V (row_lt RV.out))).trans RV.out)
      have B17 := Lib.hid ((S16.out.s.tell f17).bel)
      have HS17 := Lib.hid (rsame_any [⟨false, [⟨a0, u, false⟩]⟩] _ _ w17 RA.out RB.out (by simp) (by simp))
      clear r17 f17 S16 R16 RV tV t16
      have RZ17 := Lib.hid ((row_heap (B17.out.block Z hZ0)).trans R0.out)
      go_wp2_with fail
      refine flow_seen [([0, 1, 2, 3, 4, 5, 6, 7, 8, 9, 10, 11, 12, 13, 14, 15, 16, 17, 18, 19, 20, 21, 22, 23, 24, 25, 26, 27, 28, 29, 30], 31, false)] [32, 33] (by kernel_rfl) (by kernel_rfl) (fun _ _ _ _ _ h => h) fun X => ?_
      have uY := carry X.below R17.out
      have uV := carry X.below RV17.out
      have uZ := carry X.below RZ17.out
      have B8 := Lib.hid (onto B17.out B17.out.size X.below)
      have HS8 := Lib.hid (rsame_any [⟨false, [⟨a0, u, false⟩]⟩] _ _ X.val (RA.out.below X.below) (RB.out.below X.below) (by simp) (by simp))
      clear R17 RV17 RZ17 B17 HS17 RA RB
      generalize X.val = x8 at uY uV uZ B8 HS8 ⊢
      clear X
      have kY := After.row uY
      have kV := After.row uV
      have kZ := After.row uZ
      have hq3 : eqB 32 m1 (offF a0 32) = true := by rw [← HM1.out]; exact eqB_reflK 32 m1
      have hq4 : eqB 32 a0 a0 = true := eqB_reflK 32 a0
      simp only [wpFs, pk, List.getElem?_cons_zero, List.getElem?_cons_succ]
      repeat (go_big_quiet_step (fail))
      refine wpQuiet_nil ?_
      clear kY kV kZ uY uV uZ hq3 hq4
      go_wp2_with fail
      refine HS8.out.mono ?_
      rintro e w19 ⟨rfl, hb19⟩
      have B19 := Lib.hid (onto B0.out B0.out.size (onto B8.out B8.out.size hb19))
      have hb9' := Lib.hid hb19
      clear hb19 HS8 B8
      go_wp2_with fail
      refine ⟨.inr hb9'.out, ?_⟩
      clear hb9'
      show wpQuiet _ _ _ _ _ _
      repeat (go_big_quiet_step (fail))
      refine wpQuiet_nil ?_
      go_wp2
      go_ret
      exact ⟨rfl, B19.out⟩

set_option maxRecDepth 100000 in
theorem lifted (os : Os) (started : os.Started) (H : Type) (enc : TypeId × Value → H) :
    ReturnsInHanded {} Try.checked os 7 .any (Rows.keyringOffSpec.pre6 enc Try.prog Try.f7 Rows.keyringOffRow.domain false) (Rows.keyringOffSpec.post enc Try.prog Try.f7 false true false false) := by
  refine returnsInHanded_of_change (C := Try.checked) own started (by kernel_rfl) Try.func7
    (ChangeSpec.witness6 (enc := enc) (C := Try.checked) false ⟨#[], #[.agg (Array.replicate 64 (.int .u8 0)), .int .i64 0], []⟩ 8 (by kernel_rfl) (by kernel_rfl) (by kernel_rfl) (by kernel_rfl)) ?_
  intro W base args ds gs before hval0 hW hcnd _
  have hval : ∀ (j : Nat) t v, Try.f7.params[j]? = some t → args[j]? = some v → Value.okWide Try.prog W .any base t v := hval0
  have hW' := hW
  obtain ⟨p, q, hA0, hV, rfl, hfz, hnd⟩ := hW
  have hA : DataW.TrodAll enc Try.prog W 0 (fun _ => true) true Try.f7.params.toList args.toList ds p := hA0
  rw [Try.params7] at hA hval
  obtain ⟨v0, vs0, d0, ds0, p0, q0, hargs, rfl, rfl, h0, r0⟩ := trodAll_cons hA
  obtain ⟨v1, vs1, d1, ds1, p1, q1, rfl, rfl, rfl, h1, r1⟩ := trodAll_cons r0
  obtain ⟨rfl, rfl, rfl⟩ := trodAll_nil r1
  obtain rfl : args = #[v0, v1] := by cases args; simp_all
  obtain ⟨rfl, rfl⟩ := trodVars_none hV
  have k0 := h0
  have lt0 : ∀ x ∈ p0, x.block < W.heap.size := by obtain ⟨m, hm⟩ := k0; exact DataW.trod_lt m _ _ _ hm
  obtain ⟨a0, rfl⟩ := open_bytes2 Try.underlying59 Try.underlying32 Try.underlying5 (by decide : 2 * 32 = 64) (by kernel_rfl) (by kernel_rfl) (by kernel_rfl) (hval 0 59 v0 rfl rfl) h0
  obtain ⟨a1, rfl, rfl, rfl, w1⟩ := open_int Try.underlying3 (hval 1 3 v1 rfl rfl) h1
  clear hA0 hval0
  refine (walk a0 a1 W w1).mono fun e W' ⟨he, bel⟩ => ?_
  subst he
  exact ⟨_, rfl, _, _, _, [], _, [], hW', trodAll_mk1 (shut_bool Try.underlying4 _), (trodAll_cons_mk (Below.trod laidOut (by kernel_rfl) (of_decide_eq_true (by kernel_rfl)) k0 bel lt0) (trodAll_cons_mk (shut_int Try.underlying3 w1) trodAll_mk0)), rfl, bel.frame _, fun h => by cases h⟩

theorem over : Rows.keyringOffRow.holds Try.pinned (OpenSpec.ofChange Rows.keyringOffSpec) :=
  OpenClaim.holds_of_wide 7 Try.f7 rfl rfl rfl rfl rfl rfl rfl ⟨rfl, rfl, rfl, rfl, rfl⟩ rfl rfl rfl rfl rfl (by kernel_rfl) Try.func7 (by kernel_rfl)
    (of_decide_eq_true (by kernel_rfl)) (by unfold Func.isWrapper; first | (rw [if_pos (by decide +kernel)]; kernel_rfl) | (rw [if_neg (by decide +kernel)]; exact ⟨rfl, rfl⟩))
    (fun os started H enc _ => lifted os started H enc)

theorem proved : Rows.KeyringOffSaid := over
#print axioms proved
end Go.Proofs.Ytabchkcieddhpaa.keyringOff
