/- The statement KeyringOf: the law strongroomlaw13.KeyringOf answers true for every input, and leaves its arguments as they were. No further condition. -/
import Derived.Test.YtabchkcieddhpaaRows
import Derived.Test.YtabchkcieddhpaaLib
import Derived.Test.YtabchkcieddhpaaKrM
import Derived.Test.YtabchkcieddhpaaKrN
namespace Go.Proofs.Ytabchkcieddhpaa.keyringOf
open Go.ChangeShapes Go.WideShapes Go.ChangeAt Go.RowKit
open Go.Proofs.Ytabchkcieddhpaa.Oct
set_option linter.unusedVariables false

theorem own : ownKnob Try.prog.godebug = none := by kernel_rfl
theorem laidOut : laidOutB Try.prog = true := by kernel_rfl

/-- what was handed in, and what was made of it -/
structure Ow (w wr : World) (T : Mk) (v : Value) (Kn : Ks) (B : Nat) (K : Ks) (E : Int) : Prop where
  rs : RsAt T wr 20 48 50 v Kn
  ln : Kn.length ≤ 12
  kp : E = 0 → KpAt T wr 40 B K
  old : ∀ k, k < w.heap.size → T k = 0
  bd : ∀ k, T k < 50
  bel : Below w.heap.size w wr
/-- the marks of what was handed in -/
def Hw : Nat → Prop := fun c => 20 ≤ c ∧ c ≤ 32
section
variable {w wr w2 : World} {T T' : Mk} {v : Value} {Kn Kn' K : Ks} {B : Nat} {E : Int}
theorem Ow.step (h : Ow w wr T v Kn B K E) (f : Fr T T Hw wr w2) (r : RsAt T w2 20 48 50 v Kn') (hl : Kn'.length = Kn.length) : Ow w w2 T v Kn' B K E :=
  ⟨r, by rw [hl]; exact h.ln, fun e => (h.kp e).fr f (fun c e1 e2 => by have := e1.1; have := e2.2; omega), h.old, h.bd, h.bel.trans (f.below h.bel.size fun k hk e => by rw [h.old k hk] at e; have := e.1; omega)⟩
theorem Ow.more (h : Ow w wr T v Kn B K E) (hb : Below wr.heap.size wr w2) : Ow w w2 T v Kn B K E :=
  ⟨h.rs.fr (Fr.same (H := fun _ => False) hb) (fun _ _ _ e => e), h.ln, fun e => (h.kp e).fr (Fr.same (H := fun _ => False) hb) (fun _ _ e => e), h.old, h.bd, onto h.bel h.bel.size hb⟩
theorem Ow.look {A : Option Addr} {n c i : Nat} (h : Ow w wr T (.slice A n c) Kn B K E) (hi : i < Kn.length) : ∃ g vi, A = some ⟨g, 0, none⟩ ∧ T g = 20 ∧ n = Kn.length ∧ (∀ j, wr.frozen? ⟨g, j, none⟩ = false) ∧ wr.cell? ⟨g, i * 2, none⟩ = some (.bool Kn[i].off) ∧ wr.cell? ⟨g, i * 2 + 1, none⟩ = some vi ∧ VsAt T wr (20 + 1 + i) 50 vi Kn[i].l := by
  obtain ⟨A', c', e', hle, hmx, hform⟩ := h.rs.form
  simp only [Value.slice.injEq] at e'
  obtain ⟨rfl, rfl, rfl⟩ := e'
  obtain ⟨g, cur, rfl, hg, hgr, hgh, hgs, hgc⟩ := hform (by omega)
  obtain ⟨k1, vi, k2, k3⟩ := hgc i hi
  exact ⟨g, vi, rfl, hg, rfl, fun j => froz_row hgr j, by rw [cell_row hgr]; exact k1, by rw [cell_row hgr]; exact k2, k3⟩
theorem Ow.off {g n c i : Nat} (h : Ow w wr T (.slice (some ⟨g, 0, none⟩) n c) Kn B K E) (hg : T g = 20) (hi : i < Kn.length) (b : Bool) : Ow w (wr.setCell ⟨g, i * 2, none⟩ (.bool b)) T (.slice (some ⟨g, 0, none⟩) n c) (Kn.set i ⟨b, Kn[i].l⟩) B K E := by
  obtain ⟨A', c', e', -⟩ := h.rs.form
  simp only [Value.slice.injEq] at e'
  obtain ⟨-, rfl, rfl⟩ := e'
  exact h.step (Fr.cell (a := ⟨g, i * 2, none⟩) (by show Hw (T g); rw [hg]; exact ⟨Nat.le_refl _, by omega⟩) _) (h.rs.setOff hi b) (by rw [List.length_set])
theorem Ow.use {g n c i g2 m2 c2 k : Nat} {y : Int} (h : Ow w wr T (.slice (some ⟨g, 0, none⟩) n c) Kn B K E) (hi : i < Kn.length) (hc : wr.cell? ⟨g, i * 2 + 1, none⟩ = some (.slice (some ⟨g2, 0, none⟩) m2 c2)) (hg2 : T g2 = 20 + 1 + i)
    (hv : VsAt T wr (20 + 1 + i) 50 (.slice (some ⟨g2, 0, none⟩) m2 c2) Kn[i].l) (hk : k < Kn[i].l.length) :
    Ow w (wr.setCell ⟨g2, k * 34 + 32, none⟩ (.int .i64 y)) T (.slice (some ⟨g, 0, none⟩) n c) (Kn.set i ⟨Kn[i].off, Kn[i].l.set k ⟨Kn[i].l[k].m, y, Kn[i].l[k].g⟩⟩) B K E := by
  obtain ⟨A', c', e', -⟩ := h.rs.form
  simp only [Value.slice.injEq] at e'
  obtain ⟨-, rfl, rfl⟩ := e'
  have h12 := h.ln
  have F : Fr T T (fun c => c = 20 + 1 + i) wr (wr.setCell ⟨g2, k * 34 + 32, none⟩ (.int .i64 y)) := Fr.cell (a := ⟨g2, k * 34 + 32, none⟩) hg2 _
  have V := hv.setOne (u := .int .i64 y) rfl (List.getElem?_eq_getElem hk) (show 32 < 34 by omega) (veC_setU _ _)
  exact h.step (F.mono fun c e => by rw [e]; exact ⟨by omega, by omega⟩) (h.rs.at_ hi hc F (fun c e => e) V (by rw [List.length_set])) (by rw [List.length_set])
/-- a row's first ones -/
theorem cutRd {w : World} {A : Option Addr} {n c : Nat} {K : Ks} (m : Nat) (h : RRd w (.slice A n c) K) (hm : m ≤ n) : RRd w (.slice A m c) (K.take m) := by
  obtain ⟨A', c', e, hle, hmx, hc⟩ := h.at_
  simp only [Value.slice.injEq] at e
  obtain ⟨rfl, rfl, rfl⟩ := e
  refine ⟨A, c, by rw [List.length_take, Nat.min_eq_left hm], by rw [List.length_take]; omega, hmx, fun h0 => ?_⟩
  rw [List.length_take] at h0
  obtain ⟨g, o, rfl, hg, hat⟩ := hc (by omega)
  refine ⟨g, o, rfl, hg, fun i hi => ?_⟩
  rw [List.length_take] at hi
  rw [List.getElem_take]
  exact hat i (by omega)
end
set_option maxRecDepth 20000 in
set_option maxHeartbeats 8000000 in
theorem walk (v0 : Value) (K0 : Ks) (w : World) (hl0 : RRd w v0 K0) :
    Calls Try.prog 4 #[v0] w fun e w' => e = .returned (.bool true) ∧ Below w.heap.size w w' := by
  obtain ⟨A0, c0, rfl, hle0, hmx0, -⟩ := hl0.at_
  have HL := Lib.hid hl0
  obtain ⟨n0, hn0⟩ : ∃ n, n = K0.length := ⟨_, rfl⟩
  have HN := Lib.hid hn0
  rw [← hn0] at hle0 HL ⊢
  clear hl0 hn0
  go_enter Try.func4, Try.ntmps4
  go_wp2_with fail
  refine (shown_any w).mono ?_
  rintro e w1 ⟨rfl, hb1⟩
  have B1 := Lib.hid hb1
  clear hb1
  go_upto_if 15 with fail
  go_cut [0] from 16 to 17 (fun v wx => ∃ (A : Option Addr) (n c : Nat) (K : Ks), v = .slice A n c ∧ n = K.length ∧ n ≤ c ∧ c ≤ maxLen ∧ n ≤ 12 ∧ RRd wx v K ∧ Below w.heap.size w wx)
  case first =>
    by_cases h12 : 12 < n0
    · have hd : decide (12 < (n0 : Int)) = true := by simp; omega
      go_wp2_with fail
      go_meet
      exact ⟨A0, 12, c0, K0.take 12, rfl, by have := HN.out; rw [List.length_take]; omega, by omega, hmx0, by omega, cutRd 12 (HL.out.below B1.out) (by omega), B1.out⟩
    · have hd : decide (12 < (n0 : Int)) = false := by simp; omega
      go_wp2_with fail
      go_meet
      exact ⟨A0, n0, c0, K0, rfl, HN.out, hle0, hmx0, by omega, HL.out.below B1.out, B1.out⟩
  obtain ⟨A, n, c, K, rfl, hn, hle, hmx, h12, hl, hb⟩ := hcut
  have HB := Lib.hid hb
  have HK := Lib.hid hl
  have HN2 := Lib.hid hn
  clear hb hl hn B1 HL HN hle0 hmx0
  go_wp2_with fail
  go_loopw [4] (fun iv wr => ∃ i : Nat, i ≤ n ∧ iv = .int .i64 i ∧ (∀ j (hj : j < K.length), j < i → K[j].l.length ≤ 8) ∧ wr = wc) (fun iv _ => n - (intOf iv).toNat)
  case atStart => exact ⟨0, by omega, rfl, fun j _ h => absurd h (by omega), rfl⟩
  case round =>
    obtain ⟨i, hi, rfl, h8, rfl⟩ := hrel
    obtain ⟨wz, rfl⟩ : ∃ wz : World, wz = wr := ⟨_, rfl⟩
    have H8 := Lib.hid h8
    clear h8
    by_cases hlt : i < n
    · have hd1 : decide ((i : Int) < (n : Int)) = true := by simp; omega
      have hiK : i < K.length := by have := HN2.out; omega
      obtain ⟨A', c', e', -, -, hat⟩ := HK.out.at_
      simp only [Value.slice.injEq] at e'
      obtain ⟨rfl, -, rfl⟩ := e'
      obtain ⟨g, o, rfl, hg, hc⟩ := hat (by omega)
      obtain ⟨-, vi, q1, hvi⟩ := hc i hiK
      obtain ⟨A2, c2, rfl, hle2, -, -, -⟩ := hvi.at_
      obtain ⟨L, hL⟩ : ∃ L, L = K[i].l.length := ⟨_, rfl⟩
      rw [← hL] at q1 hle2
      have HL2 := Lib.hid hL
      clear hc hvi hat hL
      by_cases h9 : 8 < L
      · have hd2 : decide (8 < (L : Int)) = true := by simp; omega
        go_wp2_with fail
        go_ret
        exact ⟨rfl, HB.out⟩
      · have hd2 : decide (8 < (L : Int)) = false := by simp; omega
        go_wp2_with fail
        go_roundw
        case rel => exact ⟨i + 1, by omega, by go_num, fun j hj h => by
          by_cases hji : j = i
          · subst hji; have := HL2.out; omega
          · exact H8.out j hj (by omega), trivial⟩
        case measure => simp [intOf]; omega
    · have hd1 : decide ((i : Int) < (n : Int)) = false := by simp; omega
      have h8 : ∀ r ∈ K, r.l.length ≤ 1000 := fun r hr => by
        obtain ⟨j, hj, rfl⟩ := List.mem_iff_getElem.1 hr
        have := H8.out j hj (by have := HN2.out; omega)
        omega
      have H9 := Lib.hid h8
      clear h8 H8
      go_wp2_with fail
      refine (rcopy_any (fun _ => 0) 20 K _ wz HK.out (by have := HN2.out; omega) H9.out (fun k _ e => by cases e)).mono ?_
      rintro e w3 ⟨v3, T3, rfl, r3, t3, m3, b3⟩
      obtain ⟨A3, c3, rfl, hle3, hmx3, -⟩ := r3.form
      rw [← HN2.out] at r3 hle3 ⊢
      go_wp2_with fail
      refine (pof_any T3 40 K _ w3 r3.rd (by have := HN2.out; omega) H9.out (fun k _ e => by
        have e1 := e.1
        rcases m3 k with h | h
        · rw [h] at e1; omega
        · have := h.2; have := HN2.out; omega)).mono ?_
      rintro e w4 ⟨q, T4, rfl, hq0, hq1, f4⟩
      have hB : ∃ B, ofE K = 0 → q = some ⟨B, 0, none⟩ ∧ KpAt T4 w4 40 B K := by
        by_cases h : ofE K = 0
        · obtain ⟨B, h1, h2⟩ := hq1 h
          exact ⟨B, fun _ => ⟨h1, h2⟩⟩
        · exact ⟨0, fun e => absurd e h⟩
      obtain ⟨B, hB⟩ := hB
      have O4 := Lib.hid (show Ow wz w4 T4 (.slice A3 n c3) K B K (ofE K) from ⟨r3.fr (Fr.calm (H := fun _ => False) f4.below f4.tag) (fun _ _ _ e => e), by have := HN2.out; omega, fun e => (hB e).2, fun k hk => by rw [f4.tag k (Nat.lt_of_lt_of_le hk b3.size)]; exact t3 k hk, fun k => by
        rcases f4.mks k with h | h
        · rw [h]
          rcases m3 k with h' | h'
          · rw [h']; omega
          · have := h'.2; have := HN2.out; omega
        · have := h.2; omega, onto b3 b3.size f4.below⟩)
      obtain ⟨E, hE⟩ : ∃ E, E = ofE K := ⟨_, rfl⟩
      rw [← hE] at O4 hB hq0 ⊢
      have HE := Lib.hid hE
      have HQ := Lib.hid (And.intro hq0 (fun e => (hB e).1))
      clear hq0 hq1 hB r3 t3 m3 b3 f4 hE
      go_wp2_with fail
      refine (rof_any K _ w4 (HK.out.below O4.out.bel) (by have := HN2.out; omega) H9.out).mono ?_
      rintro e w5 ⟨q5, rfl, b5⟩
      rw [← HE.out]
      have O5 := Lib.hid (O4.out.more b5)
      clear b5 O4 HE
      go_wp2_with fail
      go_loopw [10] (fun iv wx => ∃ (i : Nat) (Kn : Ks), i ≤ n ∧ iv = .int .i64 i ∧ Kn.length = n ∧ Ow wz wx T4 (.slice A3 n c3) Kn B K E) (fun iv _ => n - (intOf iv).toNat)
      case atStart => exact ⟨0, K, by omega, rfl, HN2.out.symm, O5.out⟩
      case round =>
        clear O5
        obtain ⟨i, Kn, hi, rfl, hln, hO⟩ := hrel
        obtain ⟨w7, rfl⟩ : ∃ w7 : World, w7 = wr := ⟨_, rfl⟩
        have HO := Lib.hid hO
        clear hO
        by_cases hlti : i < n
        · have hdi : decide ((i : Int) < (n : Int)) = true := by simp; omega
          have hiK : i < Kn.length := by omega
          obtain ⟨g, vi, rfl, hg, -, hfr, hc0, -, -⟩ := HO.out.look hiK
          have HG := Lib.hid hg
          have hO2 := HO.out.off hg hiK (!Kn[i].off)
          have hf0 := hfr (i * 2)
          obtain ⟨of, hof⟩ : ∃ b, b = Kn[i].off := ⟨_, rfl⟩
          rw [← hof] at hc0 hO2
          have hl2 : (Kn.set i ⟨!of, Kn[i].l⟩).length = n := by rw [List.length_set, hln]
          obtain ⟨Kb, hKb⟩ : ∃ Kb, Kb = Kn.set i ⟨!of, Kn[i].l⟩ := ⟨_, rfl⟩
          rw [← hKb] at hO2 hl2
          have hiB : i < Kb.length := by omega
          generalize hW1 : w7.setCell ⟨g, i * 2, none⟩ (.bool !of) = w8 at hO2
          have HO2 := Lib.hid hO2
          have HIB := Lib.hid hiB
          have HLB := Lib.hid hl2
          clear hO2 hKb hof hg hfr hiK hiB hl2 HO hln
          go_wp2_with fail
          clear hf0 hc0 hW1
          obtain ⟨L, hL⟩ : ∃ L, L = (Kb[i]'HIB.out).l.length := ⟨_, rfl⟩
          have HL2 := Lib.hid (show (Kb[i]?).map (·.l.length) = some L from by rw [List.getElem?_eq_getElem HIB.out, hL]; rfl)
          clear hL HIB
          go_loopw [11] (fun kv wx => ∃ (k : Nat) (Kn : Ks), k ≤ L ∧ kv = .int .i64 k ∧ Kn.length = n ∧ Ow wz wx T4 (.slice (some ⟨g, 0, none⟩) n c3) Kn B K E ∧ (Kn[i]?).map (·.l.length) = some L) (fun kv _ => L - (intOf kv).toNat)
          case atStart => exact ⟨0, Kb, by omega, rfl, HLB.out, HO2.out, HL2.out⟩
          case round =>
            clear HO2 HL2 HLB
            obtain ⟨k, Km, hk, rfl, hln, hR, hL⟩ := hrel
            obtain ⟨w9, rfl⟩ : ∃ w9 : World, w9 = wr := ⟨_, rfl⟩
            obtain ⟨r, hr, hrl⟩ := Option.map_eq_some_iff.1 hL
            obtain ⟨him, hri⟩ := List.getElem?_eq_some_iff.1 hr
            obtain ⟨g', vi, hgg, -, -, hfr, -, hc1, hv⟩ := hR.look him
            simp only [Option.some.injEq, Addr.mk.injEq] at hgg
            obtain ⟨rfl, -⟩ := hgg
            obtain ⟨A9, c9, rfl, hle9, hmx9, hat9⟩ := hv.form
            have hll : (Km[i]'him).l.length = L := by rw [hri]; exact hrl
            by_cases hlk : k < L
            · have hdk : decide ((k : Int) < (L : Int)) = true := by simp; omega
              have hkl : k < (Km[i]'him).l.length := by omega
              obtain ⟨g2, cur, rfl, hg2, hr2, -, -, hcc⟩ := hat9 (by omega)
              have q32 : ∃ y, w9.cell? ⟨g2, k * 34 + 32, none⟩ = some (.int .i64 y) := ⟨((Km[i]'him).l[k]'hkl).u, by rw [cell_row hr2, hcc k 32 hkl (by omega), veC_u]⟩
              obtain ⟨uu, q32⟩ := q32
              clear hcc
              have hR3 := hR.use (y := 99) him hc1 hg2 hv hkl
              have hL3 := Lib.hid (show ((Km.set i ⟨(Km[i]'him).off, (Km[i]'him).l.set k ⟨((Km[i]'him).l[k]'hkl).m, 99, ((Km[i]'him).l[k]'hkl).g⟩⟩)[i]?).map (·.l.length) = some L from by rw [List.getElem?_set_self him, Option.map_some, List.length_set, hll])
              have hfz : ∀ j, w9.frozen? ⟨g2, j, none⟩ = false := fun j => froz_row hr2 j
              have hfz1 := hfz (k * 34 + 32)
              obtain ⟨Kx, hKx⟩ : ∃ Kx, Kx = Km.set i ⟨(Km[i]'him).off, (Km[i]'him).l.set k ⟨((Km[i]'him).l[k]'hkl).m, 99, ((Km[i]'him).l[k]'hkl).g⟩⟩ := ⟨_, rfl⟩
              have hlx := Lib.hid (show Kx.length = n by rw [hKx, List.length_set, hln])
              rw [← hKx] at hR3 hL3
              obtain ⟨L', hL'⟩ : ∃ L', L' = (Km[i]'him).l.length := ⟨_, rfl⟩
              rw [hll] at hL'
              rw [hll] at hc1 hle9
              have hLm := Lib.hid (show L ≤ 9223372036854775807 by have := hmx9; unfold maxLen at this; omega)
              generalize hW9 : w9.setCell ⟨g2, k * 34 + 32, none⟩ (.int .i64 99) = w10 at hR3
              have HR3 := Lib.hid hR3
              clear hR3 hKx hfz hat9 hfr hv hll hri hrl hr hL hR hg2 hr2 hL' hkl him hln hmx9
              go_wp2_with fail
              have hLm' := hLm.out
              go_roundw
              case rel =>
                rw [IntWalk.wrap64_in _ (show -9223372036854775808 ≤ (k : Int) + 1 ∧ (k : Int) + 1 ≤ 9223372036854775807 by omega)]
                exact ⟨k + 1, Kx, by omega, by push_cast; rfl, hlx.out, HR3.out, hL3.out⟩
              case measure =>
                rw [IntWalk.wrap64_in _ (show -9223372036854775808 ≤ (k : Int) + 1 ∧ (k : Int) + 1 ≤ 9223372036854775807 by omega)]
                simp [intOf]; omega
            · have hdk : decide ((k : Int) < (L : Int)) = false := by simp; omega
              rw [hll] at hc1 hle9
              have HR := Lib.hid hR
              have HLN := Lib.hid hln
              clear hat9 hfr hv hll hri hrl hr hL hR him hln
              go_wp2_with fail
              go_roundw
              case rel => exact ⟨i + 1, Km, by omega, by go_num, HLN.out, HR.out⟩
              case measure => simp [intOf]; omega
        · have hdi : decide ((i : Int) < (n : Int)) = false := by simp; omega
          obtain ⟨hq0, hq1⟩ := HQ.out
          by_cases hE : E = 0
          · obtain rfl := hq1 hE
            have hp := HO.out.kp hE
            subst hE
            have hfr := Lib.hid (show ∀ k, k < w7.heap.size → ¬ Hk 60 (T4 k) from fun k _ e => by have := HO.out.bd k; have := e.1; omega)
            have HP := Lib.hid hp
            clear hq0 hq1 HQ hln hp
            go_wp2_with fail
            refine (prs_any T4 40 60 B K w7 HP.out hfr.out).mono ?_
            rintro e w8 ⟨v8, T8, rfl, r8, f8⟩
            have HS := Lib.hid (rsame_any K v8 (.slice A n c) w8 r8.rd ((HK.out.below HO.out.bel).below f8.below) (by have := HN2.out; omega) H9.out)
            have B8 := Lib.hid (onto HB.out HB.out.size (onto HO.out.bel HO.out.bel.size f8.below))
            obtain ⟨A8, c8, rfl, -⟩ := r8.form
            clear r8 f8 HP hfr HO
            go_wp2_with fail
            refine HS.out.mono ?_
            rintro e w9 ⟨rfl, b9⟩
            have B9 := Lib.hid (onto B8.out B8.out.size b9)
            clear HS b9 B8
            go_wp2_with fail
            go_ret
            exact ⟨rfl, B9.out⟩
          · obtain rfl := hq0 hE
            have hE1 : (E == 0) = false := by simpa using hE
            have hE2 : decide (E = 0) = false := by simpa using hE
            have hE3 : (E != 0) = true := by simpa using hE
            have B8 := Lib.hid (onto HB.out HB.out.size HO.out.bel)
            clear hq0 hq1 HQ hln
            go_wp2_with fail
            go_ret
            exact ⟨rfl, B8.out⟩

set_option maxRecDepth 100000 in
theorem lifted (os : Os) (started : os.Started) (H : Type) (enc : TypeId × Value → H) :
    ReturnsInHanded {} Try.checked os 4 .any (Rows.keyringOfSpec.pre6 enc Try.prog Try.f4 Rows.keyringOfRow.domain false) (Rows.keyringOfSpec.post enc Try.prog Try.f4 false true false false) := by
  refine returnsInHanded_of_change (C := Try.checked) own started (by kernel_rfl) Try.func4
    (ChangeSpec.witness6 (enc := enc) (C := Try.checked) false ⟨#[], #[.slice none 0 0], []⟩ 8 (by kernel_rfl) (by kernel_rfl) (by kernel_rfl) (by kernel_rfl)) ?_
  intro W base args ds gs before hval0 hW hcnd _
  have hval : ∀ (j : Nat) t v, Try.f4.params[j]? = some t → args[j]? = some v → Value.okWide Try.prog W .any base t v := hval0
  have hW' := hW
  obtain ⟨p, q, hA0, hV, rfl, hfz, hnd⟩ := hW
  have hA : DataW.TrodAll enc Try.prog W 0 (fun _ => true) true Try.f4.params.toList args.toList ds p := hA0
  rw [Try.params4] at hA hval
  obtain ⟨v0, vs0, d0, ds0, p0, q0, hargs, rfl, rfl, h0, r0⟩ := trodAll_cons hA
  obtain ⟨rfl, rfl, rfl⟩ := trodAll_nil r0
  obtain rfl : args = #[v0] := by cases args; simp_all
  obtain ⟨rfl, rfl⟩ := trodVars_none hV
  have k0 := h0
  have lt0 : ∀ x ∈ p0, x.block < W.heap.size := by obtain ⟨m, hm⟩ := k0; exact DataW.trod_lt m _ _ _ hm
  obtain ⟨K0, hl0⟩ := open_rinsK (hval 0 27 v0 rfl rfl) h0
  clear hA0 hval0
  refine (walk v0 K0 W hl0).mono fun e W' ⟨he, bel⟩ => ?_
  subst he
  exact ⟨_, rfl, _, _, _, [], _, [], hW', trodAll_mk1 (shut_bool Try.underlying4 _), (trodAll_cons_mk (Below.trod laidOut (by kernel_rfl) (of_decide_eq_true (by kernel_rfl)) k0 bel lt0) trodAll_mk0), rfl, bel.frame _, fun h => by cases h⟩

theorem over : Rows.keyringOfRow.holds Try.pinned (OpenSpec.ofChange Rows.keyringOfSpec) :=
  OpenClaim.holds_of_wide 4 Try.f4 rfl rfl rfl rfl rfl rfl rfl ⟨rfl, rfl, rfl, rfl, rfl⟩ rfl rfl rfl rfl rfl (by kernel_rfl) Try.func4 (by kernel_rfl)
    (of_decide_eq_true (by kernel_rfl)) (by unfold Func.isWrapper; first | (rw [if_pos (by decide +kernel)]; kernel_rfl) | (rw [if_neg (by decide +kernel)]; exact ⟨rfl, rfl⟩))
    (fun os started H enc _ => lifted os started H enc)

theorem proved : Rows.KeyringOfSaid := over
#print axioms proved
end Go.Proofs.Ytabchkcieddhpaa.keyringOf
