/- The statement KeyringPlays: the law strongroomlaw13.KeyringPlays answers true for every input, and leaves its arguments as they were. No further condition. -/
import Derived.Test.YtabchkcieddhpaaRows
import Derived.Test.YtabchkcieddhpaaLib
import Derived.Test.YtabchkcieddhpaaKrM
import Derived.Test.YtabchkcieddhpaaKrN
namespace Go.Proofs.Ytabchkcieddhpaa.keyringPlays
open Go.ChangeShapes Go.WideShapes Go.ChangeAt Go.RowKit
open Go.Proofs.Ytabchkcieddhpaa.Oct
set_option linter.unusedVariables false

theorem own : ownKnob Try.prog.godebug = none := by kernel_rfl
theorem laidOut : laidOutB Try.prog = true := by kernel_rfl

/-- what is known on the way through the calls -/
structure PlI (w wr : World) (T : Mk) (t B B' M : Nat) (K : Ks) : Prop where
  bo : Bo T t 30 B B' K wr
  bd : ∀ k, T k < M
  tm : t + 10 ≤ M ∧ 40 ≤ M
  old : ∀ k, k < w.heap.size → T k = 0
  bel : Below w.heap.size w wr
section
variable {w wr w2 : World} {T T' : Mk} {t B B' M : Nat} {K K' : Ks}
/-- a call on the program's, or on both -/
theorem PlI.step (h : PlI w wr T t B B' M K) (hb : Bo T' t 30 B B' K' w2) (f : Tw T T' t 30 wr w2) : PlI w w2 T' t B B' M K' := by
  have hz := h.bo.zero
  refine ⟨hb, fun k => ?_, h.tm, fun k hk => ?_, h.bel.trans (f.fr.below h.bel.size fun k hk e => ?_)⟩
  · rcases f.mks k with e | e | e | e
    · rw [e]; exact h.bd k
    · rw [e]; have := h.tm; omega
    · have := e.2; have := h.tm; omega
    · have := e.2; have := h.tm; omega
  · rw [f.fr.tag k (Nat.lt_of_lt_of_le hk h.bel.size)]; exact h.old k hk
  · rw [h.old k hk] at e
    rcases e with e | e
    · exact hz.1 e
    · exact hz.2 e
/-- something else that is new -/
theorem PlI.more (h : PlI w wr T t B B' M K) (hb : Below wr.heap.size wr w2) : PlI w w2 (paint T wr.heap.size 0) t B B' M K :=
  h.step (h.bo.new hb) (Tw.new hb)
end
/-- rings were told: they are the caller's -/
structure Rn (w wr : World) (T : Mk) (t B B' M : Nat) (K : Ks) (v : Value) (Kn : Ks) : Prop where
  pl : PlI w wr T t B B' (M + 10) K
  am : t + 10 ≤ M ∧ 40 ≤ M
  rs : RsAt T wr M 48 50 v Kn
  ln : Kn.length = K.length
section
variable {w wr w2 : World} {T T' : Mk} {t B B' M X : Nat} {K Kn Kn' : Ks} {v : Value}
theorem PlI.calm (h : PlI w wr T t B B' X K) (hX : X ≤ M + 10) (am : t + 10 ≤ M ∧ 40 ≤ M) (f : Fr T T' (Hk M) wr w2) (hm : ∀ k, T' k = T k ∨ Hk M (T' k) ∨ T' k = 0) : PlI w w2 T' t B B' (M + 10) K := by
  obtain ⟨a1, a2⟩ := am
  have h1 := h.bo.p1
  refine ⟨⟨h.bo.p.fr f (fun c e1 e2 => ?_), h.bo.r.fr f (fun c e1 e2 => ?_), h.bo.ap, h.bo.p1, h.bo.r1⟩, fun k => ?_, by omega, fun k hk => ?_, h.bel.trans (f.below h.bel.size fun k hk e => ?_)⟩
  · have := e1.2; have := e2.1; omega
  · have := e1.2; have := e2.1; omega
  · rcases hm k with e | e | e
    · rw [e]; have := h.bd k; omega
    · have := e.2; omega
    · omega
  · rw [f.tag k (Nat.lt_of_lt_of_le hk h.bel.size)]; exact h.old k hk
  · rw [h.old k hk] at e; have := e.1; omega
theorem PlI.tell (h : PlI w wr T t B B' M K) (r : RsAt T' w2 M 48 50 v K) (f : Nk T T' M wr w2) : Rn w w2 T' t B B' M K v K :=
  ⟨h.calm (by omega) h.tm (Fr.calm f.below f.tag) (fun k => (f.mks k).imp_right .inl), h.tm, r, rfl⟩
theorem Rn.more (h : Rn w wr T t B B' M K v Kn) (hb : Below wr.heap.size wr w2) : Rn w w2 (paint T wr.heap.size 0) t B B' M K v Kn :=
  ⟨h.pl.calm (by omega) h.am (Fr.new hb 0) (fun k => by
    by_cases hk : k < wr.heap.size
    · exact .inl (paint_old hk)
    · exact .inr (.inr (paint_new (by omega)))), h.am, h.rs.fr (Fr.new (H := fun _ => False) hb 0) (fun _ _ _ e => e), h.ln⟩
theorem Rn.step (h : Rn w wr T t B B' M K v Kn) (f : Fr T T (Hk M) wr w2) (r : RsAt T w2 M 48 50 v Kn') (hl : Kn'.length = Kn.length) : Rn w w2 T t B B' M K v Kn' :=
  ⟨h.pl.calm (by omega) h.am f (fun k => .inl rfl), h.am, r, hl.trans h.ln⟩
theorem Rn.look {A : Option Addr} {n c i : Nat} (h : Rn w wr T t B B' M K (.slice A n c) Kn) (hi : i < Kn.length) : ∃ g vi, A = some ⟨g, 0, none⟩ ∧ T g = M ∧ n = Kn.length ∧ (∀ j, wr.frozen? ⟨g, j, none⟩ = false) ∧ wr.cell? ⟨g, i * 2, none⟩ = some (.bool Kn[i].off) ∧ wr.cell? ⟨g, i * 2 + 1, none⟩ = some vi ∧ VsAt T wr (M + 1 + i) 50 vi Kn[i].l := by
  obtain ⟨A', c', e', hle, hmx, hform⟩ := h.rs.form
  simp only [Value.slice.injEq] at e'
  obtain ⟨rfl, rfl, rfl⟩ := e'
  obtain ⟨g, cur, rfl, hg, hgr, hgh, hgs, hgc⟩ := hform (by omega)
  obtain ⟨k1, vi, k2, k3⟩ := hgc i hi
  exact ⟨g, vi, rfl, hg, rfl, fun j => froz_row hgr j, by rw [cell_row hgr]; exact k1, by rw [cell_row hgr]; exact k2, k3⟩
theorem Rn.off {g n c i : Nat} (h : Rn w wr T t B B' M K (.slice (some ⟨g, 0, none⟩) n c) Kn) (hg : T g = M) (hi : i < Kn.length) (b : Bool) : Rn w (wr.setCell ⟨g, i * 2, none⟩ (.bool b)) T t B B' M K (.slice (some ⟨g, 0, none⟩) n c) (Kn.set i ⟨b, Kn[i].l⟩) := by
  obtain ⟨A', c', e', -⟩ := h.rs.form
  simp only [Value.slice.injEq] at e'
  obtain ⟨-, rfl, rfl⟩ := e'
  exact h.step (Fr.cell (a := ⟨g, i * 2, none⟩) (by show Hk M (T g); rw [hg]; exact ⟨Nat.le_refl _, by omega⟩) _) (h.rs.setOff hi b) (by rw [List.length_set])
theorem Rn.ver {g n c i g2 k : Nat} {vi : Value} {cur : Array Value} {y : Ve} (h : Rn w wr T t B B' M K (.slice (some ⟨g, 0, none⟩) n c) Kn) (hi : i < Kn.length) (hi8 : i < 8) (hc : wr.cell? ⟨g, i * 2 + 1, none⟩ = some vi) (hg2 : T g2 = M + 1 + i)
    (hv : VsAt T (wr.setRow g2 (spl cur (k * 34) (veC y))) (M + 1 + i) 50 vi (Kn[i].l.set k y)) : Rn w (wr.setRow g2 (spl cur (k * 34) (veC y))) T t B B' M K (.slice (some ⟨g, 0, none⟩) n c) (Kn.set i ⟨Kn[i].off, Kn[i].l.set k y⟩) := by
  obtain ⟨A', c', e', -⟩ := h.rs.form
  simp only [Value.slice.injEq] at e'
  obtain ⟨-, rfl, rfl⟩ := e'
  have F : Fr T T (fun c => c = M + 1 + i) wr (wr.setRow g2 (spl cur (k * 34) (veC y))) := Fr.row (w := wr) (H := fun c => c = M + 1 + i) (B := g2) hg2 _
  exact h.step (F.mono fun c e => by rw [e]; exact ⟨by omega, by omega⟩) (h.rs.at_ hi hc F (fun c e => e) hv (by rw [List.length_set])) (by rw [List.length_set])
end
/-- a clone was made: the old one, the new one, the reference's -/
structure Cl (w wr : World) (T : Mk) (t tn B Bn B' M : Nat) (K Ko : Ks) : Prop where
  o : KpAt T wr t B Ko
  n : KpAt T wr tn Bn K
  r : KAt T wr 30 48 50 B' K
  ap : t + 10 ≤ tn ∧ (t + 10 ≤ 30 ∨ 40 ≤ t) ∧ 40 ≤ tn ∧ 1 ≤ t ∧ tn + 10 ≤ M
  bd : ∀ k, T k < M
  old : ∀ k, k < w.heap.size → T k = 0
  bel : Below w.heap.size w wr
section
variable {w wr w2 : World} {T T' : Mk} {t tn B Bn B' M : Nat} {K Ko Ko' : Ks}
theorem Cl.step (h : Cl w wr T t tn B Bn B' M K Ko) (hp : KpAt T' w2 t B Ko') (f : Fk T T' t wr w2) : Cl w w2 T' t tn B Bn B' M K Ko' := by
  obtain ⟨a1, a2, a3, a4, a5⟩ := h.ap
  refine ⟨hp, h.n.fr f.fr (fun c e1 e2 => ?_), h.r.fr f.fr (fun c e1 e2 => ?_), h.ap, fun k => ?_, fun k hk => ?_, h.bel.trans (f.fr.below h.bel.size fun k hk e => ?_)⟩
  · have := e1.1; have := e2.2; omega
  · have := e1.1; have := e1.2; have := e2.1; have := e2.2; omega
  · rcases f.mks k with e | e
    · rw [e]; exact h.bd k
    · have := e.2; omega
  · rw [f.fr.tag k (Nat.lt_of_lt_of_le hk h.bel.size)]; exact h.old k hk
  · rw [h.old k hk] at e; have := e.1; omega
theorem Cl.pl (h : Cl w wr T t tn B Bn B' M K Ko) : PlI w wr T tn Bn B' M K := by
  obtain ⟨a1, a2, a3, a4, a5⟩ := h.ap
  exact ⟨⟨h.n, h.r, .inr (by omega), by omega, by omega⟩, h.bd, by omega, h.old, h.bel⟩
theorem PlI.clone (h : PlI w wr T t B B' M K) (hp : KpAt T' w2 M Bn K) (f : Nk T T' M wr w2) : Cl w w2 T' t M B Bn B' (M + 10) K K := by
  have ha := h.bo.ap
  have h1 := h.bo.p1
  have hm := h.tm
  have hf : Fr T T' (fun _ => False) wr w2 := Fr.calm f.below f.tag
  refine ⟨h.bo.p.fr hf (fun _ _ e => e), hp, h.bo.r.fr hf (fun _ _ e => e), ⟨hm.1, by omega, hm.2, h1, Nat.le_refl _⟩, fun k => ?_, fun k hk => ?_, onto h.bel h.bel.size f.below⟩
  · rcases f.mks k with e | e
    · rw [e]; have := h.bd k; omega
    · have := e.2; omega
  · rw [f.tag k (Nat.lt_of_lt_of_le hk h.bel.size)]; exact h.old k hk
end
def f9 : Bf := upd (fun _ => 0#8) 0 9#8
@[go_sem] theorem nine_lit : (ba 32 fun _ => 0#8).setIfInBounds 0 (.int .u8 9) = ba 32 f9 := ba_set 32 (fun _ => 0#8) 0 9#8
set_option maxRecDepth 20000 in
set_option maxHeartbeats 8000000 in
theorem walk (v0 : Value) (l0 : List OpK) (w : World) (hl0 : OpsK w v0 l0) :
    Calls Try.prog 3 #[v0] w fun e w' => e = .returned (.bool true) ∧ Below w.heap.size w w' := by
  have HL := Lib.hid hl0
  obtain ⟨A0, c0, rfl, hle0, hmx0, hat0⟩ := hl0.at_
  have HAT := Lib.hid hat0
  obtain ⟨n0, hn0⟩ : ∃ n, n = l0.length := ⟨_, rfl⟩
  have HN0 := Lib.hid hn0
  rw [← hn0] at hle0 ⊢
  clear hl0 hat0 hn0
  go_enter Try.func3, Try.ntmps3
  go_wp2_with fail
  refine (shown_any w).mono ?_
  rintro e w1 ⟨rfl, hb1⟩
  have B1 := Lib.hid hb1
  clear hb1
  go_wp2_with fail
  refine (pnew_any (fun _ => 0) 10 w1).mono ?_
  rintro e w2 ⟨B, T2, rfl, hp2, hn2⟩
  have B2 := Lib.hid (onto B1.out B1.out.size hn2.below)
  obtain ⟨w3, hw3⟩ : ∃ w3, w3 = w2.alloc (.cells #[.slice none 0 0] 29) := ⟨_, rfl⟩
  have b3 : Below w2.heap.size w2 w3 := by rw [hw3]; exact (Below.refl _ _).alloc (Nat.le_refl _) _
  have r3 : row w3 w2.heap.size = some #[.slice none 0 0] := by rw [hw3]; exact row_alloc_at _ _ _ _ rfl
  have P3 := Lib.hid (show PlI w w3 (paint T2 w2.heap.size 30) 10 B w2.heap.size 100 [] from by
    refine ⟨⟨hp2.fr (Fr.new (H := fun _ => False) b3 30) (fun _ _ e => e), ⟨paint_new (Nat.le_refl _), ⟨_, r3, RsAt.nil⟩, ok_nil⟩, .inl (by omega), by omega, by omega⟩, fun k => ?_, by omega, fun k hk => ?_, onto B2.out B2.out.size b3⟩
    · by_cases hk : k < w2.heap.size
      · rw [paint_old hk]
        rcases hn2.mks k with e | e
        · rw [e]; omega
        · have := e.2; omega
      · rw [paint_new (by omega)]; omega
    · have h2 := B2.out.size
      rw [paint_old (by omega)]
      exact hn2.tag k (Nat.lt_of_lt_of_le hk B1.out.size))
  obtain ⟨B', hB'⟩ : ∃ b, b = w2.heap.size := ⟨_, rfl⟩
  rw [← hB'] at P3
  have HB' := Lib.hid hB'
  have HW3 := Lib.hid hw3
  clear hp2 hn2 b3 r3 hB' hw3 B2
  go_wp2_with fail
  rw [← HW3.out, ← HB'.out]
  clear HW3 HB'
  go_loopw [4, 6] (fun kv iv wr => ∃ (j : Nat) (T : Mk) (t B M : Nat) (K : Ks), j ≤ n0 ∧ j ≤ 150 ∧ iv = .int .i64 j ∧ kv = .pointer (some ⟨B, 0, none⟩) ∧ PlI w wr T t B B' M K) (fun _ iv _ => n0 - (intOf iv).toNat)
  case atStart => exact ⟨0, _, _, _, _, _, by omega, by omega, rfl, rfl, P3.out⟩
  case round =>
    clear P3
    obtain ⟨j, T, t, B, M, K, hj, hj2, rfl, rfl, hP⟩ := hrel
    obtain ⟨wo, rfl⟩ : ∃ wo : World, wo = wr := ⟨_, rfl⟩
    have PI := Lib.hid hP
    clear hP
    by_cases hlt : j < n0 ∧ j < 150
    · have hd1 : decide ((j : Int) < (n0 : Int)) = true := by simp; omega
      have hd2 : decide ((j : Int) < 150) = true := by simp; omega
      have hjl : j < l0.length := by have := HN0.out; omega
      obtain ⟨gl, ol, rfl, hgl, hcl⟩ := HAT.out (by omega)
      obtain ⟨x, hx⟩ : ∃ x, x = l0[j] := ⟨_, rfl⟩
      have hwf := HL.out.wf l0[j] (List.getElem_mem _)
      rw [← hx] at hwf
      have HWF := Lib.hid hwf
      have HCL := Lib.hid (show ∀ i, i < 35 → w.cell? ⟨gl, ol + j * 35 + i, none⟩ = (okC x)[i]? from fun i hi => by rw [hx]; exact hcl j i hjl hi)
      clear hcl hx hwf
      have q0 : wo.cell? ⟨gl, ol + j * 35, none⟩ = some (.int .i64 x.k) := by
        have h := (PI.out.bel.cell (p := ⟨gl, ol + j * 35 + 0, none⟩) hgl).trans (HCL.out 0 (by omega))
        rw [Nat.add_zero] at h
        rw [h, okC_0]
      have HK := Lib.hid (kind_any x.k 8 HWF.out.1 (by omega) wo)
      go_wp2_with fail
      refine HK.out.mono ?_
      rintro e w1' ⟨rfl, rfl⟩
      obtain ⟨q, hq⟩ : ∃ q, q = kdF x.k 8 := ⟨_, rfl⟩
      rw [← hq]
      clear hq HK q0
      go_upto_if 39 with fail
      go_cut [4, 7] from 40 to 56 (fun kv ov wx => ∃ (T : Mk) (t B M : Nat), kv = .pointer (some ⟨B, 0, none⟩) ∧ PlI w wx T t B B' M K)
      case first =>
        by_cases he : q = 7
        · have hd5 : (q == 7) = true := by simpa using he
          clear hd5
          subst he
          go_wp2_with fail
          refine (pcl_any T t M B K wo PI.out.bo.p (fun k hk e => by have := e.1; have := PI.out.bd k; omega)).mono ?_
          rintro e w4 ⟨Bn, T4, rfl, hp4, f4⟩
          have C4 := Lib.hid (PI.out.clone hp4 f4)
          clear hp4 f4 PI
          go_wp2_with fail
          refine (pcr_any T4 t B K f9 w4 C4.out.o).mono ?_
          rintro e w5 ⟨rfl, T5, hp5, f5⟩
          have C5 := Lib.hid (C4.out.step hp5 f5)
          obtain ⟨K5, hK5⟩ : ∃ K5, K5 = crK K f9 := ⟨_, rfl⟩
          rw [← hK5] at C5
          clear hp5 f5 C4 hK5
          go_wp2_with fail
          refine (prt_any T5 t B K5 1 f9 w5 C5.out.o).mono ?_
          rintro e w6 ⟨rfl, T6, hp6, f6⟩
          have C6 := Lib.hid (C5.out.step hp6 f6)
          obtain ⟨K6, hK6⟩ : ∃ K6, K6 = rtK K5 1 f9 := ⟨_, rfl⟩
          rw [← hK6] at C6
          clear hp6 f6 C5 hK6
          go_wp2_with fail
          refine (pus_any T6 t B K6 1 w6 C6.out.o).mono ?_
          rintro e w7 ⟨rfl, T7, hp7, f7⟩
          have C7 := Lib.hid (C6.out.step hp7 f7)
          obtain ⟨K7, hK7⟩ : ∃ K7, K7 = usK K6 1 := ⟨_, rfl⟩
          rw [← hK7] at C7
          clear hp7 f7 C6 hK7
          go_wp2_with fail
          refine (pds_any T7 t B K7 1 1 w7 C7.out.o).mono ?_
          rintro e w8 ⟨rfl, T8, hp8, f8⟩
          have C8 := Lib.hid (C7.out.step hp8 f8)
          obtain ⟨K8, hK8⟩ : ∃ K8, K8 = dsK K7 1 1 := ⟨_, rfl⟩
          rw [← hK8] at C8
          clear hp8 f8 C7 hK8
          go_wp2_with fail
          refine (psw_any T8 t B K8 1 false w8 C8.out.o).mono ?_
          rintro e w9 ⟨rfl, T9, hp9, f9'⟩
          have C9 := Lib.hid (C8.out.step hp9 f9').pl
          clear hp9 f9' C8
          go_wp2_with fail
          go_meet
          exact ⟨T9, M, Bn, M + 10, rfl, C9.out⟩
        · have hd5 : (q == 7) = false := by simpa using he
          have hd6 : decide (q = 7) = false := by simpa using he
          clear he
          go_wp2_with fail
          go_meet
          exact ⟨T, t, B, M, rfl, PI.out⟩
      obtain ⟨T5, t5, B5, M5, rfl, P5⟩ := hcut
      have HP5 := Lib.hid P5
      clear PI P5
      have q1 := op_cells wc gl (ol + j * 35) x (fun i hi => (HP5.out.bel.cell (p := ⟨gl, ol + j * 35 + i, none⟩) hgl).trans (HCL.out i hi))
      go_wp2_with fail
      clear q1
      refine (does_any T5 t5 30 B5 B' K x wc HP5.out.bo HWF.out.1 HWF.out.2.1 HWF.out.2.2).mono ?_
      rintro e w4 ⟨rfl, T6, K6, hb6, f6⟩
      have P6 := Lib.hid (HP5.out.step hb6 f6)
      clear hb6 f6 HP5
      go_wp2_with fail
      refine (prs_any T6 t5 M5 B5 K6 w4 P6.out.bo.p (fun k hk e => by have := e.1; have := P6.out.bd k; omega)).mono ?_
      rintro e w5 ⟨v5, T7, rfl, r7, f7⟩
      have R7 := Lib.hid (P6.out.tell r7 f7)
      clear r7 f7 P6
      obtain ⟨A5, c5, rfl, hle5, hmx5, -⟩ := R7.out.rs.form
      obtain ⟨A6, c6, hc6, -, hrs6⟩ := R7.out.pl.bo.r.open_
      have hok6 := R7.out.pl.bo.p.ok
      have HS := Lib.hid (rsame_any K6 _ _ w5 R7.out.rs.rd hrs6.rd (by have := hok6.1; omega) (fun r hr => by have := (hok6.2 r hr).1.2; omega))
      have h86 := hok6.1
      obtain ⟨N5, hN5⟩ : ∃ n, n = K6.length := ⟨_, rfl⟩
      rw [← hN5] at hle5 hc6 R7 HS h86 ⊢
      have HN5 := Lib.hid hN5
      clear hrs6 hok6 hN5
      go_wp2_with fail
      refine HS.out.mono ?_
      rintro e w6 ⟨rfl, hb6⟩
      clear hc6 HS
      have R8 := Lib.hid (R7.out.more hb6)
      obtain ⟨T8, hT8⟩ : ∃ T, T = paint T7 w5.heap.size 0 := ⟨_, rfl⟩
      rw [← hT8] at R8
      clear R7 hT8 hb6
      go_wp2_with fail
      go_loopw [11] (fun nv wr => ∃ (i : Nat) (Kn : Ks), i ≤ N5 ∧ nv = .int .i64 i ∧ Rn w wr T8 t5 B5 B' M5 K6 (.slice A5 N5 c5) Kn) (fun nv _ => N5 - (intOf nv).toNat)
      case atStart => exact ⟨0, K6, by omega, rfl, R8.out⟩
      case round =>
        clear R8
        obtain ⟨i, Kn, hi, rfl, hR⟩ := hrel
        obtain ⟨w7, rfl⟩ : ∃ w7 : World, w7 = wr := ⟨_, rfl⟩
        have HR := Lib.hid hR
        clear hR
        by_cases hlti : i < N5
        · have hdi : decide ((i : Int) < (N5 : Int)) = true := by simp; omega
          have hiK : i < Kn.length := by have := HR.out.ln; have := HN5.out; omega
          obtain ⟨g, vi, rfl, hg, -, hfr, hc0, -, -⟩ := HR.out.look hiK
          have HG := Lib.hid hg
          have hR2 := HR.out.off hg hiK (!Kn[i].off)
          have hf0 := hfr (i * 2)
          obtain ⟨of, hof⟩ : ∃ b, b = Kn[i].off := ⟨_, rfl⟩
          rw [← hof] at hc0 hR2
          have hl2 : (Kn.set i ⟨!of, Kn[i].l⟩).length = Kn.length := List.length_set
          obtain ⟨Kb, hKb⟩ : ∃ Kb, Kb = Kn.set i ⟨!of, Kn[i].l⟩ := ⟨_, rfl⟩
          rw [← hKb] at hR2 hl2
          have hiB : i < Kb.length := by omega
          generalize hW1 : w7.setCell ⟨g, i * 2, none⟩ (.bool !of) = w8 at hR2
          have HR2 := Lib.hid hR2
          have HIB := Lib.hid hiB
          clear hR2 hKb hof hg hfr hiK hiB hl2 HR
          go_wp2_with fail
          clear hf0 hc0 hW1
          obtain ⟨L, hL⟩ : ∃ L, L = (Kb[i]'HIB.out).l.length := ⟨_, rfl⟩
          have HL2 := Lib.hid (show (Kb[i]?).map (·.l.length) = some L from by rw [List.getElem?_eq_getElem HIB.out, hL]; rfl)
          clear hL HIB
          go_loopw [12] (fun kv wr => ∃ (k : Nat) (Kn : Ks), k ≤ L ∧ kv = .int .i64 k ∧ Rn w wr T8 t5 B5 B' M5 K6 (.slice (some ⟨g, 0, none⟩) N5 c5) Kn ∧ (Kn[i]?).map (·.l.length) = some L) (fun kv _ => L - (intOf kv).toNat)
          case atStart => exact ⟨0, Kb, by omega, rfl, HR2.out, HL2.out⟩
          case round =>
            clear HR2 HL2
            obtain ⟨k, Km, hk, rfl, hR, hL⟩ := hrel
            obtain ⟨w9, rfl⟩ : ∃ w9 : World, w9 = wr := ⟨_, rfl⟩
            obtain ⟨r, hr, hrl⟩ := Option.map_eq_some_iff.1 hL
            obtain ⟨him, hri⟩ := List.getElem?_eq_some_iff.1 hr
            obtain ⟨g', vi, hgg, -, -, hfr, -, hc1, hv⟩ := hR.look him
            simp only [Option.some.injEq, Addr.mk.injEq] at hgg
            obtain ⟨rfl, -⟩ := hgg
            obtain ⟨A9, c9, rfl, hle9, hmx9, hat9⟩ := hv.form
            have hll : (Km[i]'him).l.length = L := by rw [hri]; exact hrl
            by_cases hlk : k < L
            · have hdk : decide ((k : Int) < (L : Int)) = true := by simp; omega
              obtain ⟨g2, cur, rfl, hg2, hr2, -⟩ := hat9 (by omega)
              have i8 : i < 8 := by have := h86; omega
              obtain ⟨hst, hv2⟩ := hv.setAll (y := ⟨fun _ => 0#8, 77, false⟩) rfl (show k < _ by omega) hr2
              have hR3 := Lib.hid (hR.ver him i8 hc1 hg2 hv2)
              have hL3 := Lib.hid (show ((Km.set i ⟨(Km[i]'him).off, (Km[i]'him).l.set k ⟨fun _ => 0#8, 77, false⟩⟩)[i]?).map (·.l.length) = some L from by rw [List.getElem?_set_self him, Option.map_some, List.length_set, hll])
              have hst' := hst Try.prog 50
              have hfz : ∀ j, w9.frozen? ⟨g2, j, none⟩ = false := fun j => froz_row hr2 j
              have hfz1 := hfz (k * 34)
              obtain ⟨Kx, hKx⟩ : ∃ K, K = Km.set i ⟨(Km[i]'him).off, (Km[i]'him).l.set k ⟨fun _ => 0#8, 77, false⟩⟩ := ⟨_, rfl⟩
              rw [← hKx] at hR3 hL3
              rw [hll] at hc1 hle9
              generalize hW9 : w9.setRow g2 (spl cur (k * 34) (veC ⟨fun _ => 0#8, 77, false⟩)) = w10 at hR3 hst'
              clear hKx hst hv2 hfz hat9 hfr hv hll hri hrl hr hL hR hg2
              go_wp2_with fail
              have hLm : L ≤ 9223372036854775807 := by have := hmx9; unfold maxLen at this; omega
              go_roundw
              case rel =>
                rw [IntWalk.wrap64_in _ (show -9223372036854775808 ≤ (k : Int) + 1 ∧ (k : Int) + 1 ≤ 9223372036854775807 by omega)]
                exact ⟨k + 1, Kx, by omega, by push_cast; rfl, hR3.out, hL3.out⟩
              case measure =>
                rw [IntWalk.wrap64_in _ (show -9223372036854775808 ≤ (k : Int) + 1 ∧ (k : Int) + 1 ≤ 9223372036854775807 by omega)]
                simp [intOf]; omega
            · have hdk : decide ((k : Int) < (L : Int)) = false := by simp; omega
              rw [hll] at hc1 hle9
              have HR := Lib.hid hR
              clear hat9 hfr hv hll hri hrl hr hL hR him
              go_wp2_with fail
              go_roundw
              case rel => exact ⟨i + 1, Km, by omega, by go_num, HR.out⟩
              case measure => simp [intOf]; omega
        · have hdi : decide ((i : Int) < (N5 : Int)) = false := by simp; omega
          go_wp2_with fail
          go_roundw
          case rel => exact ⟨j + 1, T8, t5, B5, M5 + 10, K6, by omega, by omega, by go_num, rfl, HR.out.pl⟩
          case measure => simp [intOf]; omega
    · by_cases hl1 : j < n0
      · have hd1 : decide ((j : Int) < (n0 : Int)) = true := by simp; omega
        have hd2 : decide ((j : Int) < 150) = false := by simp; omega
        go_wp2_with fail
        go_ret
        exact ⟨rfl, PI.out.bel⟩
      · have hd1 : decide ((j : Int) < (n0 : Int)) = false := by simp; omega
        go_wp2_with fail
        go_ret
        exact ⟨rfl, PI.out.bel⟩

set_option maxRecDepth 100000 in
theorem lifted (os : Os) (started : os.Started) (H : Type) (enc : TypeId × Value → H) :
    ReturnsInHanded {} Try.checked os 3 .any (Rows.keyringPlaysSpec.pre6 enc Try.prog Try.f3 Rows.keyringPlaysRow.domain false) (Rows.keyringPlaysSpec.post enc Try.prog Try.f3 false true false false) := by
  refine returnsInHanded_of_change (C := Try.checked) own started (by kernel_rfl) Try.func3
    (ChangeSpec.witness6 (enc := enc) (C := Try.checked) false ⟨#[], #[.slice none 0 0], []⟩ 8 (by kernel_rfl) (by kernel_rfl) (by kernel_rfl) (by kernel_rfl)) ?_
  intro W base args ds gs before hval0 hW hcnd _
  have hval : ∀ (j : Nat) t v, Try.f3.params[j]? = some t → args[j]? = some v → Value.okWide Try.prog W .any base t v := hval0
  have hW' := hW
  obtain ⟨p, q, hA0, hV, rfl, hfz, hnd⟩ := hW
  have hA : DataW.TrodAll enc Try.prog W 0 (fun _ => true) true Try.f3.params.toList args.toList ds p := hA0
  rw [Try.params3] at hA hval
  obtain ⟨v0, vs0, d0, ds0, p0, q0, hargs, rfl, rfl, h0, r0⟩ := trodAll_cons hA
  obtain ⟨rfl, rfl, rfl⟩ := trodAll_nil r0
  obtain rfl : args = #[v0] := by cases args; simp_all
  obtain ⟨rfl, rfl⟩ := trodVars_none hV
  have k0 := h0
  have lt0 : ∀ x ∈ p0, x.block < W.heap.size := by obtain ⟨m, hm⟩ := k0; exact DataW.trod_lt m _ _ _ hm
  obtain ⟨l0, hl0⟩ := open_opsK (hval 0 22 v0 rfl rfl) h0
  clear hA0 hval0
  refine (walk v0 l0 W hl0).mono fun e W' ⟨he, bel⟩ => ?_
  subst he
  exact ⟨_, rfl, _, _, _, [], _, [], hW', trodAll_mk1 (shut_bool Try.underlying4 _), (trodAll_cons_mk (Below.trod laidOut (by kernel_rfl) (of_decide_eq_true (by kernel_rfl)) k0 bel lt0) trodAll_mk0), rfl, bel.frame _, fun h => by cases h⟩

theorem over : Rows.keyringPlaysRow.holds Try.pinned (OpenSpec.ofChange Rows.keyringPlaysSpec) :=
  OpenClaim.holds_of_wide 3 Try.f3 rfl rfl rfl rfl rfl rfl rfl ⟨rfl, rfl, rfl, rfl, rfl⟩ rfl rfl rfl rfl rfl (by kernel_rfl) Try.func3 (by kernel_rfl)
    (of_decide_eq_true (by kernel_rfl)) (by unfold Func.isWrapper; first | (rw [if_pos (by decide +kernel)]; kernel_rfl) | (rw [if_neg (by decide +kernel)]; exact ⟨rfl, rfl⟩))
    (fun os started H enc _ => lifted os started H enc)

theorem proved : Rows.KeyringPlaysSaid := over
#print axioms proved
end Go.Proofs.Ytabchkcieddhpaa.keyringPlays
