/- Seats that are read; Contract: Same of the reference, where they are the same. -/
import Derived.Test.YthokiohdeclmhaaSsV
namespace Go.Proofs.Ythokiohdeclmhaa.Oct
open Go.ChangeShapes Go.WideShapes Go.ChangeAt Go.RowKit Go.Maps
set_option linter.unusedVariables false

/-- seats that are read -/
structure SeRd (w : World) (A : Option Addr) (c : Nat) (l : List Se) : Prop where
  le : l.length ≤ c
  at_ : ∀ i (hi : i < l.length), ∃ g o A' c', A = some ⟨g, o, none⟩ ∧ g < w.heap.size ∧ (∀ j, j < 6 → w.cell? ⟨g, o + i * 6 + j, none⟩ = ([.int .i64 (l[i]).id, .int .i64 (l[i]).q, .int .i64 (l[i]).c, .int .i64 (l[i]).n, .int .i64 (l[i]).m, .slice A' (l[i]).T c'] : List Value)[j]?) ∧ Sl w w.heap.size A' (l[i]).T c' (l[i]).f
theorem SeRd.below {w w' : World} {A : Option Addr} {c : Nat} {l : List Se} (h : SeRd w A c l) (hb : Below w.heap.size w w') : SeRd w' A c l :=
  ⟨h.le, fun i hi => by
    obtain ⟨g, o, A', c', e, hg, hc, hs⟩ := h.at_ i hi
    exact ⟨g, o, A', c', e, Nat.lt_of_lt_of_le hg hb.size, fun j hj => by rw [hb.cell (p := ⟨g, o + i * 6 + j, none⟩) hg]; exact hc j hj, (hs.below hb).more hb.size⟩⟩
theorem SeRd.upto {w : World} {A : Option Addr} {c : Nat} {l : List Se} (h : SeRd w A c l) (k : Nat) : SeRd w A c (l.take k) :=
  ⟨by rw [List.length_take]; have := h.le; omega, fun i hi => by
    have hi' : i < l.length := by rw [List.length_take] at hi; omega
    have e : (l.take k)[i] = l[i] := List.getElem_take
    rw [e]
    exact h.at_ i hi'⟩
theorem ElAt.serd {T : Mk} {w : World} {t : Nat} {A : Option Addr} {c : Nat} {l : List Se} (h : ElAt 6 seEl T w t A c l) : SeRd w A c l :=
  ⟨h.le, fun i hi => by
    have hle := h.le
    obtain ⟨g, o, cur, e, hr, hs, hT, hel⟩ := h.at_ (by omega)
    obtain ⟨vs, ⟨A', c', rfl, hrd⟩, hc⟩ := hel i hi
    exact ⟨g, o, A', c', e, row_lt hr, fun j hj => by rw [cell_row hr]; exact hc j hj, hrd.sl⟩⟩
theorem InS.serd {w : World} {v : Value} {l : List Se} (h : InS 6 seE w v l) : ∃ A c, v = .slice A l.length c ∧ SeRd w A c l ∧ c ≤ maxLen ∧ ∀ s ∈ l, i64B s.id ∧ i64B s.q ∧ i64B s.c ∧ i64B s.n ∧ i64B s.m ∧ s.T ≤ 140737488351232 := by
  obtain ⟨A, c, e, hl, hm, h2⟩ := h.at_
  refine ⟨A, c, e, ⟨hl, fun i hi => ?_⟩, hm, fun s hs => ?_⟩
  · obtain ⟨g, o, rfl, hg, hel⟩ := h2 (by omega)
    obtain ⟨vs, ⟨A', k, rfl, hsl, -⟩, hc⟩ := hel i hi
    exact ⟨g, o, A', k, rfl, hg, hc, hsl⟩
  · obtain ⟨i, hi, rfl⟩ := List.getElem_of_mem hs
    obtain ⟨g, o, rfl, hg, hel⟩ := h2 (by omega)
    obtain ⟨vs, ⟨A', k, rfl, -, hb⟩, -⟩ := hel i hi
    exact hb
theorem rp_cells (w : World) (g o : Nat) (c n m : Int) (V : Value) (h0 : w.cell? ⟨g, o, none⟩ = some (.int .i64 c)) (h1 : w.cell? ⟨g, o + 1, none⟩ = some (.int .i64 n)) (h2 : w.cell? ⟨g, o + 2, none⟩ = some (.int .i64 m)) (h3 : w.cell? ⟨g, o + 3, none⟩ = some V) :
    ldR Try.prog 31 4 w g o (row w g) = .ok (repV c n m V) w := by
  rw [← rp_ld]
  exact run_loadAt_mid (P := Try.prog) w g o 31 [.int .i64 c, .int .i64 n, .int .i64 m, V] _ (fun j y hy => by
    match j with
    | 0 => cases hy; exact h0
    | 1 => cases hy; exact h1
    | 2 => cases hy; exact h2
    | 3 => cases hy; exact h3
    | j + 4 => cases hy) Try.underlying31 rfl (by rw [rp_i]; rfl)
/-- one of them, in whatever later world -/
theorem SeRd.seat {w : World} {A : Option Addr} {c : Nat} {l : List Se} (h : SeRd w A c l) {i : Nat} (hi : i < l.length) :
    ∃ g o V k, A = some ⟨g, o, none⟩ ∧ ∀ w', Below w.heap.size w w' → w'.cell? ⟨g, o + i * 6, none⟩ = some (.int .i64 (l[i]).id) ∧ w'.cell? ⟨g, o + i * 6 + 1, none⟩ = some (.int .i64 (l[i]).q) ∧
      ldR Try.prog 31 4 w' g (o + i * 6 + 2) (row w' g) = .ok (repV (l[i]).c (l[i]).n (l[i]).m (.slice V (l[i]).T k)) w' ∧
      ldR Try.prog 50 6 w' g (o + i * 6) (row w' g) = .ok (seV l[i] (.slice V (l[i]).T k)) w' ∧ Sl w' w'.heap.size V (l[i]).T k (l[i]).f := by
  obtain ⟨g, o, V, k, e, hg, hc, hs⟩ := h.at_ i hi
  refine ⟨g, o, V, k, e, fun w' hb => ?_⟩
  have hc : ∀ j, j < 6 → w'.cell? ⟨g, o + i * 6 + j, none⟩ = ([.int .i64 (l[i]).id, .int .i64 (l[i]).q, .int .i64 (l[i]).c, .int .i64 (l[i]).n, .int .i64 (l[i]).m, .slice V (l[i]).T k] : List Value)[j]? := fun j hj => by rw [hb.cell (p := ⟨g, o + i * 6 + j, none⟩) hg]; exact hc j hj
  have g0 := hc 0 (by omega)
  rw [Nat.add_zero] at g0
  refine ⟨g0, hc 1 (by omega), rp_cells w' g (o + i * 6 + 2) _ _ _ _ (hc 2 (by omega)) (hc 3 (by omega)) (hc 4 (by omega)) (hc 5 (by omega)), ?_, (hs.below hb).more hb.size⟩
  rw [← se_ld]
  exact run_loadAt_mid (P := Try.prog) w' g (o + i * 6) 50 [.int .i64 (l[i]).id, .int .i64 (l[i]).q, .int .i64 (l[i]).c, .int .i64 (l[i]).n, .int .i64 (l[i]).m, .slice V (l[i]).T k] _ (fun j y hy => by
    by_cases hj : j < 6
    · rw [hc j hj]; exact hy
    · rw [List.getElem?_eq_none (by show 6 ≤ j; omega)] at hy; cases hy) Try.underlying50 rfl (by rw [se_i]; rfl)
set_option maxRecDepth 20000 in
set_option maxHeartbeats 8000000 in
theorem rsame15_any (A A' : Option Addr) (c c' : Nat) (l : List Se) (w : World) (h : SeRd w A c l) (h' : SeRd w A' c' l) (hl : l.length < 1000) :
    Calls Try.prog 24 #[.slice A l.length c, .slice A' l.length c'] w fun e w' => e = .returned (.bool true) ∧ Below w.heap.size w w' := by
  have H1 := Lib.hid h
  have H2' := Lib.hid h'
  have hle := h.le
  have hle' := h'.le
  have hx : ((l.length : Int) != (l.length : Int)) = false := by simp
  clear h h'
  go_enter Try.func24, Try.ntmps24
  go_wp2_with fail
  go_loopw [5] (fun iv wr => ∃ j : Nat, j ≤ l.length ∧ iv = .int .i64 (j : Int) ∧ Below w.heap.size w wr) (fun iv _ => l.length - (intOf iv).toNat)
  case atStart => exact ⟨0, by omega, rfl, Below.refl _ _⟩
  case round =>
    obtain ⟨j, hj, rfl, hb⟩ := hrel
    obtain ⟨wo, rfl⟩ : ∃ wo : World, wo = wr := ⟨_, rfl⟩
    have Bo := Lib.hid hb
    clear hb
    by_cases hlt : j < l.length
    · have hd : decide ((j : Int) < (l.length : Int)) = true := by simp; omega
      have hw : IntKind.i64.wrap ((j : Int) + 1) = (j : Int) + 1 := IntWalk.i64_in _ (by omega)
      go_upto_region 6 with fail
      refine flow_seen [([0, 1, 2, 3, 4, 5, 6, 7, 8, 9, 10, 11, 12, 13, 14, 15, 16, 17, 18, 19, 20, 21, 22, 23, 24, 25, 26, 27, 28, 29, 30, 31, 32, 33, 34], 35, true)] [36, 37] (by kernel_rfl) (by kernel_rfl) (fun _ _ _ _ _ h => h) fun Z => ?_
      have Bz := Lib.hid (onto Bo.out Bo.out.size Z.below)
      obtain ⟨wz, hwz⟩ : ∃ wz, wz = Z.val := ⟨_, rfl⟩
      rw [← hwz] at Bz ⊢
      clear hwz Z Bo
      obtain ⟨g1, o1, V1, k1, rfl, f1⟩ := H1.out.seat hlt
      obtain ⟨g2, o2, V2, k2, rfl, f2⟩ := H2'.out.seat hlt
      have B0 (y : After wz) : Below w.heap.size w y.val := onto Bz.out Bz.out.size y.below
      have c1 := fun y : After wz => (f1 y.val (B0 y)).1
      have c2 := fun y : After wz => (f1 y.val (B0 y)).2.1
      have c3 := fun y : After wz => (f1 y.val (B0 y)).2.2.1
      have d1 := fun y : After wz => (f2 y.val (B0 y)).1
      have d2 := fun y : After wz => (f2 y.val (B0 y)).2.1
      have d3 := fun y : After wz => (f2 y.val (B0 y)).2.2.1
      have H5 := samerep_any (l[j]).c (l[j]).n (l[j]).m (l[j]).c (l[j]).n (l[j]).m (l[j]).T (l[j]).T k1 k2 V1 V2 (l[j]).f (l[j]).f wz (f1 wz Bz.out).2.2.2.2 (f2 wz Bz.out).2.2.2.2
      rw [repS_refl] at H5
      have H5' := Lib.hid H5
      have n1 : ((l[j]).id != (l[j]).id) = false := by simp
      have n2 : ((l[j]).q != (l[j]).q) = false := by simp
      clear H5 f1 f2 B0
      simp only [wpFs, pk, List.getElem?_cons_zero, List.getElem?_cons_succ]
      repeat (go_big_quiet_step (fail))
      refine wpQuiet_nil ?_
      clear c1 c2 c3 d1 d2 d3
      go_wp2_with fail
      refine H5'.out.mono ?_
      rintro e w6 ⟨rfl, hb⟩
      have B6 := Lib.hid (onto Bz.out Bz.out.size hb)
      go_wp2_with fail
      refine ⟨.inl trivial, ?_⟩
      clear hb H5' Bz
      show wpQuiet _ _ _ _ _ _
      repeat (go_big_quiet_step (fail))
      refine wpQuiet_nil ?_
      go_wp2_with fail
      refine ⟨⟨j + 1, by omega, by rw [Int.natCast_succ], B6.out⟩, ?_⟩
      simp only [intOf]
      omega
    · have hd : decide ((j : Int) < (l.length : Int)) = false := by simp; omega
      go_wp2_with fail
      go_ret
      exact ⟨rfl, Bo.out⟩
end Go.Proofs.Ythokiohdeclmhaa.Oct
