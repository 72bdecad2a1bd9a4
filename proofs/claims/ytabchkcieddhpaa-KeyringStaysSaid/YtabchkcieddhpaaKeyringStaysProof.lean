/- The statement KeyringStays: the law strongroomlaw13.KeyringStays answers true for every input, and leaves its arguments as they were. No further condition. -/
import Derived.Test.YtabchkcieddhpaaRows
import Derived.Test.YtabchkcieddhpaaLib
import Derived.Deep.CutBlock
import Derived.Test.YtabchkcieddhpaaKrM
import Derived.Test.YtabchkcieddhpaaKrN
import Derived.Test.YtabchkcieddhpaaKrP
import Derived.Test.YtabchkcieddhpaaKrQ
import Derived.Test.YtabchkcieddhpaaKpR
namespace Go.Proofs.Ytabchkcieddhpaa.keyringStays
open Go.ChangeShapes Go.WideShapes Go.ChangeAt Go.RowKit
open Go.Proofs.Ytabchkcieddhpaa.Oct
set_option linter.unusedVariables false

theorem own : ownKnob Try.prog.godebug = none := by kernel_rfl
theorem laidOut : laidOutB Try.prog = true := by kernel_rfl

/-- a keyring on a law's way -/
structure Sg (w wr : World) (T : Mk) (t B M : Nat) (K : Ks) : Prop where
  p : KpAt T wr t B K
  am : 1 ≤ t ∧ t + 10 ≤ M
  bd : ∀ k, T k < M
  old : ∀ k, k < w.heap.size → T k = 0
  bel : Below w.heap.size w wr
section
variable {w wr w2 : World} {T T' : Mk} {t B M : Nat} {K K' : Ks} {v : Value}
theorem Sg.step (h : Sg w wr T t B M K) (hp : KpAt T' w2 t B K') (f : Fk T T' t wr w2) : Sg w w2 T' t B M K' := by
  obtain ⟨a1, a2⟩ := h.am
  refine ⟨hp, h.am, fun k => ?_, fun k hk => ?_, h.bel.trans (f.fr.below h.bel.size fun k hk e => ?_)⟩
  · rcases f.mks k with e | e
    · rw [e]; exact h.bd k
    · have := e.2; omega
  · rw [f.fr.tag k (Nat.lt_of_lt_of_le hk h.bel.size)]; exact h.old k hk
  · rw [h.old k hk] at e; have := e.1; omega
theorem Sg.more (h : Sg w wr T t B M K) (hb : Below wr.heap.size wr w2) : Sg w w2 T t B M K :=
  h.step (h.p.fr (Fr.same (H := fun _ => False) hb) (fun _ _ e => e)) (.same (Fr.same hb))
theorem Sg.tell (h : Sg w wr T t B M K) (f : Nk T T' M wr w2) : Sg w w2 T' t B (M + 10) K := by
  obtain ⟨a1, a2⟩ := h.am
  refine ⟨h.p.fr (Fr.calm (H := fun _ => False) f.below f.tag) (fun _ _ e => e), ⟨a1, by omega⟩, fun k => ?_, fun k hk => ?_, onto h.bel h.bel.size f.below⟩
  · rcases f.mks k with e | e
    · rw [e]; have := h.bd k; omega
    · have := e.2; omega
  · rw [f.tag k (Nat.lt_of_lt_of_le hk h.bel.size)]; exact h.old k hk
theorem Sg.fresh (h : Sg w wr T t B M K) : ∀ k, k < wr.heap.size → ¬ Hk M (T k) := fun k _ e => by have := e.1; have := h.bd k; omega
theorem Sg.init (hb : Below w.heap.size w wr) (hp : KpAt T w2 10 B K) (f : Nk (fun _ => 0) T 10 wr w2) : Sg w w2 T 10 B 20 K := by
  refine ⟨hp, by omega, fun k => ?_, fun k hk => f.tag k (Nat.lt_of_lt_of_le hk hb.size), onto hb hb.size f.below⟩
  rcases f.mks k with e | e
  · rw [e]; omega
  · have := e.2; omega
end
/-- and rings that were told -/
structure Sr (w wr : World) (T : Mk) (t B M X : Nat) (K : Ks) (v : Value) (Kr : Ks) : Prop where
  s : Sg w wr T t B M K
  r : RsAt T wr X 48 50 v Kr
  ap : t + 10 ≤ X
section
variable {w wr w2 : World} {T T' : Mk} {t B M X : Nat} {K K' Kr : Ks} {v : Value}
theorem Sg.new (h : Sg w wr T t B M K) (hb : Below wr.heap.size wr w2) : Sg w w2 (paint T wr.heap.size 0) t B M K := by
  obtain ⟨a1, a2⟩ := h.am
  refine ⟨h.p.fr (Fr.new (H := fun _ => False) hb 0) (fun _ _ e => e), h.am, fun k => ?_, fun k hk => ?_, onto h.bel h.bel.size hb⟩
  · by_cases hk : k < wr.heap.size
    · rw [paint_old hk]; exact h.bd k
    · rw [paint_new (by omega)]; omega
  · rw [paint_old (Nat.lt_of_lt_of_le hk h.bel.size)]; exact h.old k hk
theorem Sg.told (h : Sg w wr T t B M K) (r : RsAt T' w2 M 48 50 v K) (f : Nk T T' M wr w2) : Sr w w2 T' t B (M + 10) M K v K := ⟨h.tell f, r, h.am.2⟩
theorem Sr.step (h : Sr w wr T t B M X K v Kr) (hp : KpAt T' w2 t B K') (f : Fk T T' t wr w2) : Sr w w2 T' t B M X K' v Kr :=
  ⟨h.s.step hp f, h.r.fr f.fr (fun c e1 _ e2 => by have := h.ap; have := e2.2; omega), h.ap⟩
theorem Sr.more (h : Sr w wr T t B M X K v Kr) (hb : Below wr.heap.size wr w2) : Sr w w2 T t B M X K v Kr :=
  ⟨h.s.more hb, h.r.fr (Fr.same (H := fun _ => False) hb) (fun _ _ _ e => e), h.ap⟩
theorem Sr.new (h : Sr w wr T t B M X K v Kr) (hb : Below wr.heap.size wr w2) : Sr w w2 (paint T wr.heap.size 0) t B M X K v Kr :=
  ⟨h.s.new hb, h.r.fr (Fr.new (H := fun _ => False) hb 0) (fun _ _ _ e => e), h.ap⟩
end
set_option maxRecDepth 20000 in
set_option maxHeartbeats 8000000 in
theorem walk (v0 : Value) (l0 : List OpK) (w : World) (hl0 : OpsK w v0 l0) :
    Calls Try.prog 5 #[v0] w fun e w' => e = .returned (.bool true) ∧ Below w.heap.size w w' := by
  have HL := Lib.hid hl0
  obtain ⟨A0, c0, rfl, hle0, hmx0, hat0⟩ := hl0.at_
  have HAT := Lib.hid hat0
  obtain ⟨n0, hn0⟩ : ∃ n, n = l0.length := ⟨_, rfl⟩
  have HN0 := Lib.hid hn0
  rw [← hn0] at hle0 ⊢
  clear hl0 hat0 hn0
  go_enter Try.func5, Try.ntmps5
  go_wp2_with fail
  refine (shown_any w).mono ?_
  rintro e w1 ⟨rfl, hb1⟩
  go_wp2_with fail
  refine (pnew_any (fun _ => 0) 10 w1).mono ?_
  rintro e w2 ⟨B, T2, rfl, hp2, hn2⟩
  have S2 := Lib.hid (Sg.init hb1 hp2 hn2)
  clear hb1 hp2 hn2
  go_wp2_with fail
  refine (prs_any T2 10 20 B [] w2 S2.out.p S2.out.fresh).mono ?_
  rintro e w3 ⟨v3, T3, rfl, r3, f3⟩
  have S3 := Lib.hid (S2.out.told r3 f3)
  clear r3 f3 S2
  go_wp2_with fail
  go_loopw [5, 6] (fun sv iv wr => ∃ (j : Nat) (T : Mk) (M X : Nat) (K : Ks), j ≤ n0 ∧ j ≤ 150 ∧ iv = .int .i64 j ∧ Sr w wr T 10 B M X K sv K ∧ X + 10 ≤ M) (fun _ iv _ => n0 - (intOf iv).toNat)
  case atStart => exact ⟨0, _, _, _, _, by omega, by omega, rfl, S3.out, by omega⟩
  case round =>
    clear S3
    obtain ⟨j, T, M, X, K, hj, hj2, rfl, hS, hXM⟩ := hrel
    obtain ⟨wo, rfl⟩ : ∃ wo : World, wo = wr := ⟨_, rfl⟩
    obtain ⟨As, cs, hv5, hles, hmxs, -⟩ := hS.r.form
    subst hv5
    have HOKK := Lib.hid hS.s.p.ok
    have SI := Lib.hid hS
    clear hS
    by_cases hlt : j < n0 ∧ j < 150
    · have hd1 : decide ((j : Int) < (n0 : Int)) = true := by simp; omega
      have hd2 : decide ((j : Int) < 150) = true := by simp; omega
      have hjl : j < l0.length := by have := HN0.out; omega
      obtain ⟨gl, ol, rfl, hgl, hcl⟩ := HAT.out (by omega)
      obtain ⟨x, hx⟩ : ∃ x, x = l0[j] := ⟨_, rfl⟩
      have hwf := HL.out.wf l0[j] (List.getElem_mem _)
      rw [← hx] at hwf
      have HWF := Lib.hid hwf
      have HCL := Lib.hid (show ∀ i, i < 35 → w.cell? ⟨gl, ol + j * 35 + i, none⟩ = (okC x)[i]? from fun i hi => by rw [hx]; exact hcl j i hjl hi)
      clear hcl hx hwf
      have q1 := op_cells wo gl (ol + j * 35) x (fun i hi => (SI.out.s.bel.cell (p := ⟨gl, ol + j * 35 + i, none⟩) hgl).trans (HCL.out i hi))
      go_wp2_with fail
      clear q1
      obtain ⟨w4, hw4⟩ : ∃ w9, w9 = wo.alloc (.cells (opA x) 34) := ⟨_, rfl⟩
      have b4 : Below wo.heap.size wo w4 := by rw [hw4]; exact (Below.refl _ _).alloc (Nat.le_refl _) _
      have r4 : row w4 wo.heap.size = some (opA x) := by rw [hw4]; exact row_alloc_at _ _ _ _ rfl
      rw [← hw4]
      have S4 := Lib.hid (SI.out.new b4)
      obtain ⟨Y, hY⟩ : ∃ Y, Y = wo.heap.size := ⟨_, rfl⟩
      have tY : paint T wo.heap.size 0 Y = 0 := by rw [hY]; exact paint_new (Nat.le_refl _)
      rw [← hY] at r4 ⊢
      obtain ⟨T4, hT4⟩ : ∃ T', T' = paint T wo.heap.size 0 := ⟨_, rfl⟩
      rw [← hT4] at S4 tY
      have TY := Lib.hid tY
      have R4 := Lib.hid r4
      clear b4 hw4 SI hY hT4 tY
      have c0' : w4.cell? ⟨Y, 0, none⟩ = some (.int .i64 x.k) := by rw [cell_row r4, opA_g0]
      refine (kind_any x.k 6 HWF.out.1 (by omega) w4).mono ?_
      rintro e w5 ⟨rfl, rfl⟩
      have hqr := kdF_nn x.k 6 (by omega)
      obtain ⟨q, hq⟩ : ∃ q, q = kdF x.k 6 := ⟨_, rfl⟩
      rw [← hq] at hqr ⊢
      clear hq c0' r4
      go_upto_block 2 with fail
      go_cut [8, 9, 10, 11] from 44 to 146 (fun _ _ _ _ wx => ∃ (T' : Mk) (K' : Ks), Sr w wx T' 10 B M X K' (.slice As K.length cs) K ∧ ksLe K K')
      case first =>
        by_cases hQQ : q = 0
        · subst hQQ
          have r4 := R4.out
          go_wp2_with fail
          refine (pcr_any T4 10 B K x.m w4 S4.out.s.p).mono ?_
          rintro e w6 ⟨rfl, T6, hp6, f6⟩
          have S6 := Lib.hid (S4.out.step hp6 f6)
          clear hp6 f6 S4
          go_wp2_with fail
          go_meet
          exact ⟨T6, _, S6.out, crK_le⟩
        have d0 : (q == 0) = false := by simpa using hQQ
        have e0 : decide (q = 0) = false := by simpa using hQQ
        have H0 := Lib.hid hQQ
        clear hQQ
        by_cases hQQ : q = 1
        · subst hQQ
          have r4 := R4.out
          have c1 : w4.cell? ⟨Y, 1, none⟩ = some (.int .i64 x.id) := by rw [cell_row R4.out, opA_g1]
          go_wp2_with fail
          refine (prt_any T4 10 B K x.id x.m w4 S4.out.s.p).mono ?_
          rintro e w6 ⟨rfl, T6, hp6, f6⟩
          have S6 := Lib.hid (S4.out.step hp6 f6)
          clear hp6 f6 S4
          go_wp2_with fail
          go_meet
          exact ⟨T6, _, S6.out, rtK_le⟩
        have d1 : (q == 1) = false := by simpa using hQQ
        have e1 : decide (q = 1) = false := by simpa using hQQ
        have H1 := Lib.hid hQQ
        clear hQQ
        by_cases hQQ : q = 2
        · subst hQQ
          have c1 : w4.cell? ⟨Y, 1, none⟩ = some (.int .i64 x.id) := by rw [cell_row R4.out, opA_g1]
          have c2 : w4.cell? ⟨Y, 2, none⟩ = some (.int .i64 x.n) := by rw [cell_row R4.out, opA_g2]
          go_wp2_with fail
          refine (psw_any T4 10 B K x.id _ w4 S4.out.s.p).mono ?_
          rintro e w6 ⟨rfl, T6, hp6, f6⟩
          have S6 := Lib.hid (S4.out.step hp6 f6)
          clear hp6 f6 S4
          go_wp2_with fail
          go_meet
          exact ⟨T6, _, S6.out, swK_le⟩
        have d2 : (q == 2) = false := by simpa using hQQ
        have e2 : decide (q = 2) = false := by simpa using hQQ
        have H2 := Lib.hid hQQ
        clear hQQ
        by_cases hQQ : q = 3
        · subst hQQ
          have c1 : w4.cell? ⟨Y, 1, none⟩ = some (.int .i64 x.id) := by rw [cell_row R4.out, opA_g1]
          have c2 : w4.cell? ⟨Y, 2, none⟩ = some (.int .i64 x.n) := by rw [cell_row R4.out, opA_g2]
          go_wp2_with fail
          refine (pds_any T4 10 B K x.id x.n w4 S4.out.s.p).mono ?_
          rintro e w6 ⟨rfl, T6, hp6, f6⟩
          have S6 := Lib.hid (S4.out.step hp6 f6)
          clear hp6 f6 S4
          go_wp2_with fail
          go_meet
          exact ⟨T6, _, S6.out, dsK_le⟩
        have d3 : (q == 3) = false := by simpa using hQQ
        have e3 : decide (q = 3) = false := by simpa using hQQ
        have H3 := Lib.hid hQQ
        clear hQQ
        have r4 := R4.out
        have c1 : w4.cell? ⟨Y, 1, none⟩ = some (.int .i64 x.id) := by rw [cell_row R4.out, opA_g1]
        go_wp2_with fail
        clear c1
        refine (pus_any T4 10 B K x.id w4 S4.out.s.p).mono ?_
        rintro e w6 ⟨rfl, T6, hp6, f6⟩
        have hok := S4.out.s.p.ok
        have S6 := Lib.hid (S4.out.step hp6 f6)
        have R6 := Lib.hid (f6.fr.rowAt R4.out (by rw [TY.out]; exact fun e => by have := e.1; omega))
        have L6 := Lib.hid (usK_le (id := x.id) hok)
        obtain ⟨K6, hK6⟩ : ∃ K6, K6 = usK K x.id := ⟨_, rfl⟩
        rw [← hK6] at S6 L6
        clear hp6 f6 hK6 r4 R4 S4
        by_cases hE : usE K x.id = 0
        · obtain ⟨a, b, ha, hb, e1, e2, e3, e4, e5, e6⟩ := us_tells hok hE
          obtain ⟨y, hy⟩ : ∃ y, y = (K[a]'ha).l[b]'hb := ⟨_, rfl⟩
          rw [hE, e2, e4, e5, ← hy]
          rw [← hy] at e6
          have HY := Lib.hid hy
          have HE1 := Lib.hid e1
          have HE3 := Lib.hid e3
          have h6 := e6
          clear e1 e2 e4 e5 e3 hy hE hok e6
          go_wp2_with fail
          obtain ⟨w7, hw7⟩ : ∃ w9, w9 = w6.alloc (.cells (ba 32 y.m) 32) := ⟨_, rfl⟩
          have b7 : Below w6.heap.size w6 w7 := by rw [hw7]; exact (Below.refl _ _).alloc (Nat.le_refl _) _
          have r7 : row w7 w6.heap.size = some (ba 32 y.m) := by rw [hw7]; exact row_alloc_at _ _ _ _ rfl
          rw [← hw7]
          have S7 := Lib.hid (S6.out.more b7)
          have R7 := Lib.hid ((row_heap (b7.block Y (row_lt R6.out))).trans R6.out)
          obtain ⟨Z, hZ⟩ : ∃ Z, Z = w6.heap.size := ⟨_, rfl⟩
          rw [← hZ] at r7 ⊢
          have RZ := Lib.hid r7
          clear b7 hw7 S6 hZ r7 R6
          obtain ⟨A', c', e', -, -, hform⟩ := S7.out.r.form
          simp only [Value.slice.injEq] at e'
          obtain ⟨rfl, -, rfl⟩ := e'
          obtain ⟨g, cur, rfl, hg, hgr, -, -, hgc⟩ := hform (by omega)
          obtain ⟨-, vi, k2, k3⟩ := hgc a ha
          obtain ⟨g2, c2, cur2, rfl, hle2, hm2, hg2, hr2, hfr2, hcells⟩ := k3.open_ (by omega)
          obtain ⟨k4, k5, -⟩ := hcells b hb
          rw [HE3.out] at k2
          have hYy : (K[a]'ha).l[b]'hb = y := HY.out.symm
          rw [hYy] at k4 k5
          have q1 : ∀ z : After w7, z.val.cell? ⟨Y, 1, none⟩ = some (.int .i64 ((a : Int) + 1)) := fun z => by rw [cell_row (carry z.below R7.out), opA_g1, HE1.out]
          have q2 : ∀ z : After w7, z.val.cell? ⟨g, a * 2 + 1, none⟩ = some (.slice (some ⟨g2, 0, none⟩) (b + 1) c2) := fun z => by rw [cell_row (carry z.below hgr)]; exact k2
          have q3 : ∀ z : After w7, z.val.cell? ⟨g2, b * 34 + 32, none⟩ = some (.int .i64 y.u) := fun z => (z.below.cell (p := ⟨g2, b * 34 + 32, none⟩) (row_lt hr2)).trans k5
          have q4 : ∀ z : After w7, ldR Try.prog 32 32 z.val g2 (b * 34) (row z.val g2) = .ok (.agg (ba 32 y.m)) z.val := fun z => mat_cells z.val g2 (b * 34) y fun i hi => (z.below.cell (p := ⟨g2, b * 34 + i, none⟩) (row_lt hr2)).trans (k4 i hi)
          have q5 := After.row RZ.out
          have ha8 : a < 8 := by have := HOKK.out.1; omega
          have hb4 : b < 4 := by have h1 := (HOKK.out.2 _ (List.getElem_mem ha)).1.2; have h2 := HE3.out; omega
          clear hcells k4 k5 k2 k3 hgc hform hYy hgr hr2 hfr2
          refine r12_yes ha ha8 hb4 h6 q1 q2 q3 q4 q5 ?_
          intro d53 d54 d55 d56 d57 d58 d59 d60 d61 d62 d63 d64 d65 d66 d67 d68 d69 d70 d71 d72 d73 d74 d75 d76 d77 d78 d79 d80 d81 d82 d83 d84 d85 d86 d87 d88 d89 d90 d91 d92 d93 d94 d95 d96 d97 d98 d99 d100 d101 d102 d103 d104 d105 d106 d107 d108 d109 d110 d111 d112 d113 z
          have S8 := Lib.hid (S7.out.more z.below)
          clear q1 q2 q3 q4 q5 S7
          go_wp2_with fail
          go_meet
          exact ⟨T6, _, S8.out, L6.out⟩
        · have d1 : (usE K x.id == 0) = false := by simpa using hE
          have d2 : decide (usE K x.id = 0) = false := by simpa using hE
          obtain ⟨E, hE2⟩ : ∃ E, E = usE K x.id := ⟨_, rfl⟩
          rw [← hE2] at d1 d2 ⊢
          clear hE hE2
          obtain ⟨z1, hz1⟩ : ∃ z, z = usV K x.id := ⟨_, rfl⟩
          obtain ⟨z2, hz2⟩ : ∃ z, z = usC K x.id := ⟨_, rfl⟩
          obtain ⟨z3, hz3⟩ : ∃ z, z = usM K x.id := ⟨_, rfl⟩
          rw [← hz1, ← hz2, ← hz3]
          clear hz1 hz2 hz3 hok
          go_wp2_with fail
          obtain ⟨w7, hw7⟩ : ∃ w9, w9 = w6.alloc (.cells (ba 32 z3) 32) := ⟨_, rfl⟩
          have b7 : Below w6.heap.size w6 w7 := by rw [hw7]; exact (Below.refl _ _).alloc (Nat.le_refl _) _
          rw [← hw7]
          have S7 := Lib.hid (S6.out.more b7)
          clear b7 hw7 S6 R6
          refine r12_no d1 d2 ?_
          intro d53 d54 d55 d56 d57 d58 d59 d60 d61 d62 d63 d64 d65 d66 d67 d68 d69 d70 d71 d72 d73 d74 d75 d76 d77 d78 d79 d80 d81 d82 d83 d84 d85 d86 d87 d88 d89 d90 d91 d92 d93 d94 d95 d96 d97 d98 d99 d100 d101 d102 d103 d104 d105 d106 d107 d108 d109 d110 d111 d112 d113 z
          have S8 := Lib.hid (S7.out.more z.below)
          clear S7
          go_wp2_with fail
          go_meet
          exact ⟨T6, _, S8.out, L6.out⟩
      obtain ⟨T7, K7, hS7, hL7⟩ := hcut
      have S7 := Lib.hid hS7
      have L7 := Lib.hid hL7
      have HOK7 := Lib.hid hS7.s.p.ok
      clear hS7 hL7
      go_wp2_with fail
      refine (prs_any T7 10 M B K7 wc S7.out.s.p S7.out.s.fresh).mono ?_
      rintro e w8 ⟨v8, T8, rfl, r8, f8⟩
      obtain ⟨A8, c8, hv8, hle8, hm8, -⟩ := r8.form
      subst hv8
      have S8 := Lib.hid (S7.out.s.told r8 f8)
      have RN := Lib.hid r8.rd
      have RS := Lib.hid (S7.out.r.rd.below f8.below)
      have hl7 := L7.out.1
      have hok7 := HOK7.out.1
      clear r8 f8 S7 hm8 hmxs
      have d1 : decide ((K7.length : Int) < (K.length : Int)) = false := by simp; omega
      have d2 : decide ((8 : Int) < (K7.length : Int)) = false := by simp; omega
      have d1' : decide (K7.length < K.length) = false := by simp; omega
      go_wp2_with fail
      clear d1 d2 d1'
      refine loopA_any RS.out RN.out L7.out HOKK.out HOK7.out hl7 hok7 (Below.refl _ _) ?_
      intro d2 d14 d15 d16 d159 d160 d161 d162 d163 d164 d165 d166 d167 d168 d169 d170 d171 d172 d173 d174 d175 d176 d177 d178 d179 d180 d181 d182 d183 d184 d185 d186 d187 d188 d189 d190 d191 d192 d193 d194 d195 d196 d197 d198 d199 d200 d201 d202 d203 d204 d205 d206 d207 d208 d209 d210 d211 d212 d213 d214 d215 d216 d217 d218 d219 d220 d221 d222 d223 d224 d225 d226 d227 d228 d229 d230 d231 d232 d233 d234 d235 d236 d237 d238 d239 d240 d241 d242 d243 d244 d245 d246 d247 d248 d249 d250 d251 w9 hb9
      have S9 := Lib.hid (S8.out.more hb9)
      clear hb9 S8
      go_wp2_with fail
      go_roundw
      case rel => exact ⟨j + 1, T8, M + 10, M, K7, by omega, by omega, by go_num, S9.out, by omega⟩
      case measure => simp [intOf]; omega
    · by_cases hl1 : j < n0
      · have hd1 : decide ((j : Int) < (n0 : Int)) = true := by simp; omega
        have hd2 : decide ((j : Int) < 150) = false := by simp; omega
        go_wp2_with fail
        go_ret
        exact ⟨rfl, SI.out.s.bel⟩
      · have hd1 : decide ((j : Int) < (n0 : Int)) = false := by simp; omega
        go_wp2_with fail
        go_ret
        exact ⟨rfl, SI.out.s.bel⟩

set_option maxRecDepth 100000 in
theorem lifted (os : Os) (started : os.Started) (H : Type) (enc : TypeId × Value → H) :
    ReturnsInHanded {} Try.checked os 5 .any (Rows.keyringStaysSpec.pre6 enc Try.prog Try.f5 Rows.keyringStaysRow.domain false) (Rows.keyringStaysSpec.post enc Try.prog Try.f5 false true false false) := by
  refine returnsInHanded_of_change (C := Try.checked) own started (by kernel_rfl) Try.func5
    (ChangeSpec.witness6 (enc := enc) (C := Try.checked) false ⟨#[], #[.slice none 0 0], []⟩ 8 (by kernel_rfl) (by kernel_rfl) (by kernel_rfl) (by kernel_rfl)) ?_
  intro W base args ds gs before hval0 hW hcnd _
  have hval : ∀ (j : Nat) t v, Try.f5.params[j]? = some t → args[j]? = some v → Value.okWide Try.prog W .any base t v := hval0
  have hW' := hW
  obtain ⟨p, q, hA0, hV, rfl, hfz, hnd⟩ := hW
  have hA : DataW.TrodAll enc Try.prog W 0 (fun _ => true) true Try.f5.params.toList args.toList ds p := hA0
  rw [Try.params5] at hA hval
  obtain ⟨v0, vs0, d0, ds0, p0, q0, hargs, rfl, rfl, h0, r0⟩ := trodAll_cons hA
  obtain ⟨rfl, rfl, rfl⟩ := trodAll_nil r0
  obtain rfl : args = #[v0] := by cases args; simp_all
  obtain ⟨rfl, rfl⟩ := trodVars_none hV
  have k0 := h0
  have lt0 : ∀ x ∈ p0, x.block < W.heap.size := by obtain ⟨m, hm⟩ := k0; exact DataW.trod_lt m _ _ _ hm
  obtain ⟨l0, hl0⟩ := open_opsK (hval 0 22 v0 rfl rfl) h0
  clear hA0 hval0
  refine (walk v0 l0 W hl0).mono fun e W' ⟨he, bel⟩ => ?_
  subst he
  exact ⟨_, rfl, _, _, _, [], _, [], hW', trodAll_mk1 (shut_bool Try.underlying4 _), (trodAll_cons_mk (Below.trod laidOut (by kernel_rfl) (of_decide_eq_true (by kernel_rfl)) k0 bel lt0) trodAll_mk0), rfl, bel.frame _, fun h => by cases h⟩

theorem over : Rows.keyringStaysRow.holds Try.pinned (OpenSpec.ofChange Rows.keyringStaysSpec) :=
  OpenClaim.holds_of_wide 5 Try.f5 rfl rfl rfl rfl rfl rfl rfl ⟨rfl, rfl, rfl, rfl, rfl⟩ rfl rfl rfl rfl rfl (by kernel_rfl) Try.func5 (by kernel_rfl)
    (of_decide_eq_true (by kernel_rfl)) (by unfold Func.isWrapper; first | (rw [if_pos (by decide +kernel)]; kernel_rfl) | (rw [if_neg (by decide +kernel)]; exact ⟨rfl, rfl⟩))
    (fun os started H enc _ => lifted os started H enc)

theorem proved : Rows.KeyringStaysSaid := over
#print axioms proved
end Go.Proofs.Ytabchkcieddhpaa.keyringStays
