import Derived.Test.YteffjpdcghlnlaaGreatDoorZbSsT
import Derived.Test.YteffjpdcghlnlaaGreatDoorZbMat
import Derived.Test.YteffjpdcghlnlaaGreatDoorZbLib
import Derived.Test.YteffjpdcghlnlaaGreatDoorZbWiAll
set_option linter.unusedVariables false
set_option linter.unusedSimpArgs false
set_option maxHeartbeats 8000000
set_option maxRecDepth 20000
namespace Go.Proofs.YteffjpdcghlnlaaGreatDoor.Oct
open Go.ChangeShapes Go.WideShapes Go.ChangeAt Go.RowKit Go.Maps
section
variable {α : Type} {k : Nat} {E : Mk → World → α → List Value → Prop} (hE : ElOk k E) {T T' T2 : Mk} {H : Nat → Prop} {w w' : World} {t : Nat} {A : Option Addr} {c : Nat} {l : List α}
include hE
end
theorem ElAt.seat {T : Mk} {w : World} {t : Nat} {A : Option Addr} {c : Nat} {l : List Se} (h : ElAt 6 seEl T w t A c l) {i : Nat} (hi : i < l.length) :
  ∃ g o cur A' c', A = some ⟨g, o, none⟩ ∧ Oct.row w g = some cur ∧ T g = t ∧ o + c * 6 ≤ cur.size ∧ RdS T w 0 A' (l[i]).T c' (l[i]).f ∧ w.cell? ⟨g, o + i * 6, none⟩ = some (.int .i64 (l[i]).id) ∧ w.cell? ⟨g, o + i * 6 + 1, none⟩ = some (.int .i64 (l[i]).q) ∧
   (∀ P t, ldR P t 4 w g (o + i * 6 + 2) (some cur) = .ok (repV (l[i]).c (l[i]).n (l[i]).m (.slice A' (l[i]).T c')) w) ∧ (∀ P t, ldR P t 6 w g (o + i * 6) (some cur) = .ok (seV l[i] (.slice A' (l[i]).T c')) w) := by
 have hle := h.le
 obtain ⟨g, o, cur, e, hr, hs, hT, hel⟩ := h.at_ (by omega)
 obtain ⟨vs, ⟨A', c', rfl, hrd⟩, hc⟩ := hel i hi
 have hm : (i + 1) * 6 ≤ c * 6 := Nat.mul_le_mul_right 6 (by omega)
 have g0 := hc 0 (by omega)
 have g1 := hc 1 (by omega)
 have g2 := hc 2 (by omega)
 have g3 := hc 3 (by omega)
 have g4 := hc 4 (by omega)
 have g5 := hc 5 (by omega)
 rw [Nat.add_zero] at g0
 refine ⟨g, o, cur, A', c', e, hr, hT, hs, hrd, by rw [zG hr]; exact g0, by rw [zG hr]; exact g1, fun P t => ?_, fun P t => ?_⟩
 ·unfold ldR
  simp only [if_pos (show o + i * 6 + 2 + 4 ≤ cur.size by omega)]
  congr 2
  apply Array.ext_getElem?
  intro j
  rw [Array.getElem?_extract]
  match j with
  | 0 => rw [if_pos (by omega)]; exact g2
  | 1 => rw [if_pos (by omega)]; exact g3
  | 2 => rw [if_pos (by omega)]; exact g4
  | 3 => rw [if_pos (by omega)]; exact g5
  | j + 4 => rw [if_neg (by omega)]; rfl
 ·unfold ldR
  simp only [if_pos (show o + i * 6 + 6 ≤ cur.size by omega)]
  congr 2
  apply Array.ext_getElem?
  intro j
  rw [Array.getElem?_extract]
  match j with
  | 0 => rw [if_pos (by omega)]; exact g0
  | 1 => rw [if_pos (by omega)]; exact g1
  | 2 => rw [if_pos (by omega)]; exact g2
  | 3 => rw [if_pos (by omega)]; exact g3
  | 4 => rw [if_pos (by omega)]; exact g4
  | 5 => rw [if_pos (by omega)]; exact g5
  | j + 6 => rw [if_neg (by omega)]; rfl
theorem weights_all {H : Type} {P : Program} {e : TypeId} : ∀ {ds : List (DataW H)} {d : DataW H}, d ∈ ds → ∀ n ∈ d.weights P e, n ∈ DataW.weightsAll P e ds
 | [], _, h, _, _ => by cases h
 | d0 :: ds, d, h, n, hn => by
  rw [DataW.weightsAll, List.mem_append]
  rcases List.mem_cons.1 h with rfl | h
  ·exact .inl hn
  ·exact .inr (weights_all h n hn)
section
variable {H : Type} {enc : TypeId × Value → H} {P : Program} {w : World} {base : Nat} {spare : Nat → Bool} {held : Bool}
theorem fldw_struct {t : TypeId} {fs : Array Field} {fuel : Nat} {cs : List Value} {x : DataW H × List MemPlace} {B : Nat} (ht : P.underlying t = some (.struct fs)) (h : DataW.trod enc P w base spare held fuel t cs = some x) (hz : ∀ n ∈ x.1.weights P t, n ≤ B) :
  ∃ m, ∀ (i : Nat) (f : Field), fs[i]? = some f → ∃ y, DataW.trod enc P w base spare held m f.type (fld cs f.offset (P.cellsOf f.type)) = some y ∧ ∀ n ∈ y.1.weights P f.type, n ≤ B := by
 obtain ⟨xs, m, _, hxe, _, hx, hall⟩ := DataW.trod_struct ht h
 refine ⟨m, fun i f hi => ?_⟩
 have hlt : i < xs.length := by rw [hx]; exact (Array.getElem?_eq_some_iff.1 hi).1
 refine ⟨xs[i], by have := hall i f hi; rw [List.getElem?_eq_getElem hlt] at this; exact this, fun n hn => hz n ?_⟩
 subst hxe
 simp only [DataW.weights, ht]
 exact DataW.weights_mem_each (j := i) (t := f.type) (d := xs[i].1) (by rw [List.getElem?_map, Array.getElem?_toList, hi]; rfl) (by rw [List.getElem?_map, List.getElem?_eq_getElem hlt]; rfl) n hn
end
section
variable {H : Type} {enc : TypeId × Value → H} {w : World} {base : Nat} {spare : Nat → Bool} {held : Bool}
theorem size7S {cs : List Value} (h : cs.length = 7) : ∃ a b c d e f g, cs = [a, b, c, d, e, f, g] := by
 rcases cs with _ | ⟨a, _ | ⟨b, _ | ⟨c, _ | ⟨d, _ | ⟨e, _ | ⟨f, _ | ⟨g, _ | ⟨x, r⟩⟩⟩⟩⟩⟩⟩⟩
 all_goals first | (simp at h; done) | skip
 exact ⟨a, b, c, d, e, f, g, rfl⟩
structure OpS where
 k : Int
 id : Int
 q : Int
 c : Int
 n : Int
 m : Int
 A : Option Addr
 T : Nat
 e : Nat
 f : Bf
theorem add_0S (a : Addr) : a.add 0 = a := by unfold Addr.add; simp
structure InS {α : Type} (k : Nat) (E : World → α → List Value → Prop) (w : World) (v : Value) (l : List α) : Prop where
 at_ : ∃ A c, v = .slice A l.length c ∧ l.length ≤ c ∧ c ≤ maxLen ∧ (0 < l.length → ∃ g o, A = some ⟨g, o, none⟩ ∧ g < w.heap.size ∧ ∀ i (hi : i < l.length), ∃ vs, E w l[i] vs ∧ ∀ j, j < k → w.cell? ⟨g, o + i * k + j, none⟩ = vs[j]?)
theorem open_ins {α : Type} [Inhabited α] {k : Nat} {E : World → α → List Value → Prop} {P : Program} {tt e : TypeId} (hu : P.underlying tt = some (.slice e)) (hk : P.cellsOf e = k) (hk0 : 0 < k)
  (hel : ∀ {fuel : Nat} {cs : List Value} {x : DataW H × List MemPlace}, cs.length = k → DataW.trod enc P w base spare held fuel e cs = some x → (∀ n ∈ x.1.weights P e, n ≤ 140737488351232) → ∃ o : α, E w o cs)
  {r : Reach} {b : Nat} {v : Value} {d : DataW H} {p : List MemPlace} (hv : Value.okWide P w r b tt v) (h : DataW.Trod enc P w base spare held tt v d p)
  {ts : List TypeId} {ds : List (DataW H)} (hz : (DataW.weightsEach P ts ds).all (· ≤ reachBytes) = true) {j : Nat} (htj : ts[j]? = some tt) (hdj : ds[j]? = some d) : ∃ l, InS k E w v l := by
 obtain ⟨a0, n0, c0, rfl⟩ := okWide_slice hu hv
 obtain ⟨fuel, hf⟩ := h
 rcases Deep.open_slice hu hf with ⟨hcs, _⟩ | ⟨a, len, cap, m, n, D, Pl, hcs, _, hl, hm, hmm, hxe, hx⟩
 ·have e0 : (.slice a0 n0 c0 : Value) = .slice none 0 0 := by simpa [Value.cells] using hcs
  injection e0 with e1 e2 e3
  subst e1; subst e2; subst e3
  exact ⟨[], none, 0, rfl, Nat.le_refl _, Nat.zero_le _, fun hn => absurd hn (Nat.lt_irrefl 0)⟩
 ·have e0 : (.slice a0 n0 c0 : Value) = .slice (some a) len cap := by simpa [Value.cells] using hcs
  injection e0 with e1 e2 e3
  subst e1; subst e2; subst e3
  have hlen : n0 ≤ m := by rw [hmm]; split <;> omega
  have hd : d = .slice ((List.range n0).map D) ((List.range (m - n0)).map fun j => D (n0 + j)) := congrArg Prod.fst hxe
  have er : reachBytes = 140737488351232 := by decide
  have hw : ∀ k ∈ d.weights P tt, k ≤ 140737488351232 := fun k hk => by
   have := List.all_eq_true.1 hz k (DataW.weights_mem_each htj hdj k hk)
   rw [← er]
   simpa using this
  have hwi : ∀ i, i < n0 → ∀ k ∈ (D i).weights P e, k ≤ 140737488351232 := fun i hi k hk => by
   refine hw k ?_
   rw [hd]
   simp only [DataW.weights, hu, List.mem_cons, List.mem_append]
   exact .inr (.inl (weights_all (List.mem_map.2 ⟨i, List.mem_range.2 hi, rfl⟩) k hk))
  have hsp : 0 < n0 → a.spot = none ∧ a.block < w.heap.size := fun hn => by
   obtain ⟨cs0, hcl0, _⟩ := hx 0 (by omega)
   rw [hk] at hcl0
   obtain ⟨_, hl0, hcell0⟩ := World.cells?_some hcl0
   have hc0 := hcell0 0 (by omega)
   rw [List.getElem?_eq_getElem (by omega)] at hc0
   rw [Nat.zero_mul, add_0S, add_0S] at hc0
   have h1 := World.cell?_spot hc0
   obtain ⟨g, o, s⟩ := a
   have hs' : s = none := h1
   subst hs'
   have h2 := World.block_lt_of_cell? w _ hc0
   exact ⟨rfl, h2⟩
  have hb : ∀ i : Nat, ∃ O : α, i < n0 → ∃ vs, E w O vs ∧ ∀ j, j < k → w.cell? ⟨a.block, a.off + i * k + j, none⟩ = vs[j]? := fun i => by
   by_cases hi : i < n0
   ·obtain ⟨cs', hcl, htr⟩ := hx i (by omega)
    rw [hk] at hcl
    obtain ⟨hb', hl5, hcell⟩ := World.cells?_some hcl
    obtain ⟨O, e⟩ := hel hl5 htr (hwi i hi)
    refine ⟨O, fun _ => ⟨cs', e, fun j hj => ?_⟩⟩
    have h1 := hcell j (by omega)
    have h2 := (hsp (by omega)).1
    obtain ⟨g, o, s⟩ := a
    have hs' : s = none := h2
    subst hs'
    simp only [yI] at h1
    exact h1
   ·exact ⟨default, fun e => absurd e hi⟩
  obtain ⟨X, hX⟩ := Classical.axiomOfChoice hb
  have hlr : ((List.range n0).map X).length = n0 := by simp
  refine ⟨(List.range n0).map X, some a, c0, by rw [hlr], by rw [hlr]; exact hl, hm, fun hn => ?_⟩
  rw [hlr] at hn
  obtain ⟨h1, h2⟩ := hsp hn
  refine ⟨a.block, a.off, by obtain ⟨g, o, s⟩ := a; have hs' : s = none := h1; subst hs'; rfl, h2, fun i hi => ?_⟩
  have hi' : i < n0 := by rw [hlr] at hi; exact hi
  obtain ⟨vs, e, hc⟩ := hX i hi'
  exact ⟨vs, by rw [List.getElem_map, List.getElem_range]; exact e, hc⟩
end
instance : Inhabited Se := ⟨.new 0⟩
instance : Inhabited OpS := ⟨⟨0, 0, 0, 0, 0, 0, none, 0, 0, nF⟩⟩
theorem teq_refl (T : Nat) (d : Bf) : teqB T T d d = true := teq_iff.2 ⟨rfl, fun _ _ => rfl⟩
theorem repS_refl (x n m : Int) (T : Nat) (d : Bf) : repS x n m x n m T T d d = true := by unfold repS; simp [teq_refl]
theorem repN_bd {c n m : Int} (h0 : i64B c) (h1 : i64B n) (h2 : i64B m) : ∀ j, -9223372036854775808 ≤ repN c n m j ∧ repN c n m j < 9223372036854775808 := fun j => by
 unfold repN
 repeat' split
 all_goals assumption
structure SeRd (w : World) (A : Option Addr) (c : Nat) (l : List Se) : Prop where
 le : l.length ≤ c
 at_ : ∀ i (hi : i < l.length), ∃ g o A' c', A = some ⟨g, o, none⟩ ∧ g < w.heap.size ∧ (∀ j, j < 6 → w.cell? ⟨g, o + i * 6 + j, none⟩ = ([.int .i64 (l[i]).id, .int .i64 (l[i]).q, .int .i64 (l[i]).c, .int .i64 (l[i]).n, .int .i64 (l[i]).m, .slice A' (l[i]).T c'] : List Value)[j]?) ∧ Sl w w.heap.size A' (l[i]).T c' (l[i]).f
theorem SeRd.below {w w' : World} {A : Option Addr} {c : Nat} {l : List Se} (h : SeRd w A c l) (hb : Below w.heap.size w w') : SeRd w' A c l :=
 ⟨h.le, fun i hi => by
  obtain ⟨g, o, A', c', e, hg, hc, hs⟩ := h.at_ i hi
  exact ⟨g, o, A', c', e, Nat.lt_of_lt_of_le hg hb.size, fun j hj => by rw [hb.cell (p := ⟨g, o + i * 6 + j, none⟩) hg]; exact hc j hj, (hs.below hb).more hb.size⟩⟩
theorem ElAt.serd {T : Mk} {w : World} {t : Nat} {A : Option Addr} {c : Nat} {l : List Se} (h : ElAt 6 seEl T w t A c l) : SeRd w A c l :=
 ⟨h.le, fun i hi => by
  have hle := h.le
  obtain ⟨g, o, cur, e, hr, hs, hT, hel⟩ := h.at_ (by omega)
  obtain ⟨vs, ⟨A', c', rfl, hrd⟩, hc⟩ := hel i hi
  exact ⟨g, o, A', c', e, zL hr, fun j hj => by rw [zG hr]; exact hc j hj, hrd.sl⟩⟩
theorem rp_cells (w : World) (g o : Nat) (c n m : Int) (V : Value) (h0 : w.cell? ⟨g, o, none⟩ = some (.int .i64 c)) (h1 : w.cell? ⟨g, o + 1, none⟩ = some (.int .i64 n)) (h2 : w.cell? ⟨g, o + 2, none⟩ = some (.int .i64 m)) (h3 : w.cell? ⟨g, o + 3, none⟩ = some V) :
  ldR Tryz.prog 33 4 w g o (row w g) = .ok (repV c n m V) w := by
 rw [← rp_ld]
 exact run_loadAt_mid (P := Tryz.prog) w g o 33 [.int .i64 c, .int .i64 n, .int .i64 m, V] _ (fun j y hy => by
  match j with
  | 0 => cases hy; exact h0
  | 1 => cases hy; exact h1
  | 2 => cases hy; exact h2
  | 3 => cases hy; exact h3
  | j + 4 => cases hy) Tryz.underlying33 rfl (by rw [rp_i]; rfl)
theorem SeRd.seat {w : World} {A : Option Addr} {c : Nat} {l : List Se} (h : SeRd w A c l) {i : Nat} (hi : i < l.length) :
  ∃ g o V k, A = some ⟨g, o, none⟩ ∧ ∀ w', Below w.heap.size w w' → w'.cell? ⟨g, o + i * 6, none⟩ = some (.int .i64 (l[i]).id) ∧ w'.cell? ⟨g, o + i * 6 + 1, none⟩ = some (.int .i64 (l[i]).q) ∧
   ldR Tryz.prog 33 4 w' g (o + i * 6 + 2) (row w' g) = .ok (repV (l[i]).c (l[i]).n (l[i]).m (.slice V (l[i]).T k)) w' ∧
   ldR Tryz.prog 121 6 w' g (o + i * 6) (row w' g) = .ok (seV l[i] (.slice V (l[i]).T k)) w' ∧ Sl w' w'.heap.size V (l[i]).T k (l[i]).f := by
 obtain ⟨g, o, V, k, e, hg, hc, hs⟩ := h.at_ i hi
 refine ⟨g, o, V, k, e, fun w' hb => ?_⟩
 have hc : ∀ j, j < 6 → w'.cell? ⟨g, o + i * 6 + j, none⟩ = ([.int .i64 (l[i]).id, .int .i64 (l[i]).q, .int .i64 (l[i]).c, .int .i64 (l[i]).n, .int .i64 (l[i]).m, .slice V (l[i]).T k] : List Value)[j]? := fun j hj => by rw [hb.cell (p := ⟨g, o + i * 6 + j, none⟩) hg]; exact hc j hj
 have g0 := hc 0 (by omega)
 rw [Nat.add_zero] at g0
 refine ⟨g0, hc 1 (by omega), rp_cells w' g (o + i * 6 + 2) _ _ _ _ (hc 2 (by omega)) (hc 3 (by omega)) (hc 4 (by omega)) (hc 5 (by omega)), ?_, (hs.below hb).more hb.size⟩
 rw [← se_ld]
 exact run_loadAt_mid (P := Tryz.prog) w' g (o + i * 6) 121 [.int .i64 (l[i]).id, .int .i64 (l[i]).q, .int .i64 (l[i]).c, .int .i64 (l[i]).n, .int .i64 (l[i]).m, .slice V (l[i]).T k] _ (fun j y hy => by
  by_cases hj : j < 6
  ·rw [hc j hj]; exact hy
  ·rw [List.getElem?_eq_none (by show 6 ≤ j; omega)] at hy; cases hy) Tryz.underlying121 rfl (by rw [se_i]; rfl)
def zB (c n m : Int) (T : Nat) : Bool := (c == 0) && ((n == 0) && ((m == 0) && ((T : Int) == 0)))
def noB (s : Se) : Bool := decide (s.q < 0) || (decide (1099511627776 < s.q) || ((((repE s.c s.n s.m s.T : Nat) : Int) != 0) || ((s.q == 0) && !zB s.c s.n s.m s.T)))
theorem pzero_any (c n m : Int) (T k : Nat) (A : Option Addr) (w : World) : Calls Tryz.prog 205 #[repV c n m (.slice A T k)] w fun e w' => e = .returned (.bool (zB c n m T)) ∧ Below w.heap.size w w' := by
 have HB := Lib.hid (show ∀ z, Below w.heap.size w (w.alloc z) from fun z => (Below.refl w.heap.size w).alloc (by simp) z)
 have hV : zB c n m T = ((c == 0) && ((n == 0) && ((m == 0) && ((T : Int) == 0)))) := rfl
 cases h0 : (c == 0) <;> cases h1 : (n == 0) <;> cases h2 : (m == 0) <;> cases h3 : ((T : Int) == 0) <;> rw [h0, h1, h2, h3] at hV <;> rw [hV] <;> clear hV <;>
 ·go_enter Tryz.func205, Tryz.ntmps205
  go_wp2_with fail
  go_ret
  exact ⟨rfl, HB.out _⟩
theorem pnone_any (s : Se) (c : Nat) (A : Option Addr) (w : World) (hs : Sl w w.heap.size A s.T c s.f) (hb : ∀ j, -9223372036854775808 ≤ repN s.c s.n s.m j ∧ repN s.c s.n s.m j < 9223372036854775808) :
  Calls Tryz.prog 166 #[seV s (.slice A s.T c)] w fun e w' => e = .returned (.bool (noB s)) ∧ Below w.heap.size w w' := by
 obtain ⟨w1, hw1⟩ : ∃ w1, w1 = w.alloc (.cells #[.int .i64 s.id, .int .i64 s.q, .int .i64 s.c, .int .i64 s.n, .int .i64 s.m, .slice A s.T c] 121) := ⟨_, rfl⟩
 have bw : Below w.heap.size w w1 := by rw [hw1]; exact (Below.refl _ _).alloc (by simp) _
 have B1 := Lib.hid bw
 have R1 := Lib.hid (show row w1 w.heap.size = some #[.int .i64 s.id, .int .i64 s.q, .int .i64 s.c, .int .i64 s.n, .int .i64 s.m, .slice A s.T c] by rw [hw1]; exact zA _ _ _ _ rfl)
 have H1 := Lib.hid (reply_any s.c s.n s.m s.T c A s.f w1 ((hs.below bw).more bw.size) hb)
 have HN := Lib.hid (show noB s = (decide (s.q < 0) || (decide (1099511627776 < s.q) || ((((repE s.c s.n s.m s.T : Nat) : Int) != 0) || ((s.q == 0) && !zB s.c s.n s.m s.T)))) from rfl)
 obtain ⟨N, hN⟩ : ∃ N, N = noB s := ⟨_, rfl⟩
 obtain ⟨E, hE⟩ : ∃ E, E = repE s.c s.n s.m s.T := ⟨_, rfl⟩
 rw [← hE, ← hN] at HN
 rw [← hE] at H1
 rw [← hN]
 clear hs hb bw hE hN
 go_enter Tryz.func166, Tryz.ntmps166
 go_upto_region 1 with fail
 rw [← hw1]
 clear hw1
 have r1 := R1.out
 obtain ⟨a0, a1, a2, a3, a4, a5⟩ := cells6 r1
 go_wp2_with fail
 refine H1.out.mono ?_
 intro e w2 hp
 obtain ⟨V, rfl, hb2⟩ : ∃ V, e = .returned (.tuple #[V, .int .i64 ((E : Nat) : Int)]) ∧ Below w1.heap.size w1 w2 := by
  rcases hp with ⟨-, rfl, hb⟩ | ⟨rfl, v, rfl, -, hb⟩
  ·exact ⟨_, rfl, hb⟩
  ·exact ⟨v, rfl, hb⟩
 have R2 := Lib.hid (zE hb2 r1)
 have B2 := Lib.hid (onto B1.out B1.out.size hb2)
 clear hp hb2 a0 a1 a2 a3 a4 a5 r1 H1 R1 B1
 obtain ⟨b1, hb1⟩ : ∃ b, b = decide (s.q < 0) := ⟨_, rfl⟩
 obtain ⟨b2, hb2⟩ : ∃ b, b = decide (1099511627776 < s.q) := ⟨_, rfl⟩
 obtain ⟨b3, hb3⟩ : ∃ b, b = ((E : Int) != 0) := ⟨_, rfl⟩
 obtain ⟨b4, hb4⟩ : ∃ b, b = (s.q == 0) := ⟨_, rfl⟩
 obtain ⟨b5, hb5⟩ : ∃ b, b = zB s.c s.n s.m s.T := ⟨_, rfl⟩
 rw [← hb1, ← hb2, ← hb3, ← hb4, ← hb5] at HN
 have d1 := hb1.symm
 have d2 := hb2.symm
 have d3 := hb3.symm
 have d4 := hb4.symm
 have H5 := fun w => pzero_any s.c s.n s.m s.T c A w
 rw [← hb5] at H5
 have H5' := Lib.hid H5
 clear hb1 hb2 hb3 hb4 hb5 H5
 have r2 := R2.out
 obtain ⟨a0, a1, a2, a3, a4, a5⟩ := cells6 r2
 cases b1 with
 | true =>
  have HN2 := Lib.hid (show N = true by rw [HN.out]; simp)
  clear HN
  go_wp2_with fail
  go_ret
  exact ⟨by rw [HN2.out] <;> rfl, B2.out⟩
 | false =>
  cases b2 with
  | true =>
   have HN2 := Lib.hid (show N = true by rw [HN.out]; simp)
   clear HN
   go_wp2_with fail
   go_ret
   exact ⟨by rw [HN2.out] <;> rfl, B2.out⟩
  | false =>
   cases b3 with
   | true =>
    have HN2 := Lib.hid (show N = true by rw [HN.out]; simp)
    clear HN
    go_wp2_with fail
    go_ret
    exact ⟨by rw [HN2.out] <;> rfl, B2.out⟩
   | false =>
    cases b4 with
    | false =>
     have HN2 := Lib.hid (show N = false by rw [HN.out]; simp)
     clear HN
     go_wp2_with fail
     go_ret
     exact ⟨by rw [HN2.out] <;> rfl, B2.out⟩
    | true =>
     have HN2 := Lib.hid (show N = !b5 by rw [HN.out]; simp)
     clear HN
     go_wp2_with fail
     refine (H5'.out w2).mono ?_
     rintro e w4 ⟨rfl, hb⟩
     have B4 := Lib.hid (onto B2.out B2.out.size hb)
     clear hb
     go_wp2_with fail
     go_ret
     exact ⟨by rw [HN2.out] <;> rfl, B4.out⟩
theorem pixs_any (l : List Se) (A : Option Addr) (c : Nat) (w : World) (h : SeRd w A c l) (hl : l.length ≤ 1000000) (hb : ∀ s ∈ l, ∀ j, -9223372036854775808 ≤ repN s.c s.n s.m j ∧ repN s.c s.n s.m j < 9223372036854775808) :
  Calls Tryz.prog 204 #[.slice A l.length c, .func (.func 166) #[] #[]] w fun e w' => ∃ r : Int, e = .returned (.int .i64 r) ∧ (((∀ s ∈ l, noB s = false) ∧ r = -1) ∨ ((∃ s ∈ l, noB s = true) ∧ 0 ≤ r)) ∧ Below w.heap.size w w' := by
 have H1 := Lib.hid h
 have HB := Lib.hid hb
 have hle := h.le
 obtain ⟨n, hn⟩ : ∃ n, n = l.length := ⟨_, rfl⟩
 have HN := Lib.hid hn
 rw [← hn] at hle hl ⊢
 clear h hb hn
 go_enter Tryz.func204, Tryz.ntmps204
 go_wp2_with fail
 go_loopw [8] (fun iv wr => ∃ i : Nat, i ≤ n ∧ iv = .int .i64 i ∧ Below w.heap.size w wr ∧ ∀ j (hj : j < l.length), j < i → noB l[j] = false) (fun iv _ => n - (intOf iv).toNat)
 case atStart => exact ⟨0, by omega, rfl, Below.refl _ _, fun j _ hj => absurd hj (by omega)⟩
 case round =>
  obtain ⟨k, hk, rfl, hb, hall⟩ := hrel
  obtain ⟨w1, rfl⟩ : ∃ w1 : World, w1 = wr := ⟨_, rfl⟩
  have Bo := Lib.hid hb
  have HALL := Lib.hid hall
  clear hb hall
  by_cases hlk : k < n
  ·have hkl : k < l.length := by have := HN.out; omega
   have hd : decide ((k : Int) < (n : Int)) = true := by simp; omega
   obtain ⟨g2, o2, V, kk, rfl, f2⟩ := H1.out.seat hkl
   obtain ⟨x, hx⟩ : ∃ x, x = l[k] := ⟨_, rfl⟩
   have f3 := f2 w1 Bo.out
   have hbx := HB.out l[k] (List.getElem_mem hkl)
   rw [← hx] at f3 hbx
   have q2 := f3.2.2.2.1
   have HC := Lib.hid (pnone_any x kk V w1 f3.2.2.2.2 hbx)
   have HX := Lib.hid hx
   obtain ⟨b, hbv⟩ : ∃ b, b = noB x := ⟨_, rfl⟩
   rw [← hbv] at HC
   have HV := Lib.hid hbv
   clear hx hbv f2 f3 hbx
   go_wp2_with fail
   refine HC.out.mono ?_
   rintro e w2 ⟨rfl, hb2⟩
   have B2 := Lib.hid (onto Bo.out Bo.out.size hb2)
   clear HC hb2 q2
   cases b with
   | false =>
    go_wp2_with fail
    go_roundw
    case rel => exact ⟨k + 1, by omega, by go_num, B2.out, fun j hj hjk => by
     by_cases hjk2 : j < k
     ·exact HALL.out j hj hjk2
     ·obtain rfl : j = k := by omega
      rw [← HX.out]; exact HV.out.symm⟩
    case measure => simp [intOf]; omega
   | true =>
    go_wp2_with fail
    go_ret
    exact ⟨_, rfl, .inr ⟨⟨l[k], List.getElem_mem hkl, by rw [← HX.out]; exact HV.out.symm⟩, by omega⟩, B2.out⟩
  ·obtain rfl : k = n := by omega
   have hd : decide ((k : Int) < (k : Int)) = false := by simp
   go_wp2_with fail
   go_ret
   exact ⟨_, rfl, .inl ⟨fun s hs => by
    obtain ⟨i, hi, rfl⟩ := List.getElem_of_mem hs
    exact HALL.out i hi (by have := HN.out; omega), rfl⟩, Bo.out⟩
theorem pcts_any (l : List Se) (A : Option Addr) (c : Nat) (w : World) (h : SeRd w A c l) (hl : l.length ≤ 1000000) (hb : ∀ s ∈ l, ∀ j, -9223372036854775808 ≤ repN s.c s.n s.m j ∧ repN s.c s.n s.m j < 9223372036854775808) :
  Calls Tryz.prog 165 #[.slice A l.length c, .func (.func 166) #[] #[]] w fun e w' => ∃ b : Bool, e = .returned (.bool b) ∧ (b = true ↔ ∃ s ∈ l, noB s = true) ∧ Below w.heap.size w w' := by
 have H1 := Lib.hid (pixs_any l A c w h hl hb)
 clear h hb
 go_enter Tryz.func165, Tryz.ntmps165
 go_wp2_with fail
 refine H1.out.mono ?_
 rintro e w1 ⟨r, rfl, h, hb1⟩
 have B1 := Lib.hid hb1
 clear H1 hb1
 rcases h with ⟨h1, rfl⟩ | ⟨h1, h2⟩
 ·have HQ := Lib.hid h1
  clear h1
  go_wp2_with fail
  go_ret
  exact ⟨_, rfl, ⟨fun h => (by simp at h), fun ⟨s, hs, e⟩ => (by rw [HQ.out s hs] at e; cases e)⟩, B1.out⟩
 ·have hd : decide (0 ≤ r) = true := by simp; omega
  have HQ := Lib.hid h1
  clear h1 h2
  go_wp2_with fail
  go_ret
  exact ⟨_, rfl, ⟨fun _ => HQ.out, fun _ => rfl⟩, B1.out⟩
def lst (l : List Se) (i : Nat) : Int := if h : 0 < i ∧ i - 1 < l.length then (l[i - 1]).id else 0
theorem lst_0 (l : List Se) : lst l 0 = 0 := by unfold lst; rw [dif_neg (by omega)]
theorem lst_s (l : List Se) (i : Nat) (h : i < l.length) : lst l (i + 1) = (l[i]).id := by unfold lst; rw [dif_pos ⟨by omega, by omega⟩]; rfl
theorem pord_any (l : List Se) (A : Option Addr) (c : Nat) (next : Int) (w : World) (h : SeRd w A c l) (hl : l.length ≤ 1000000) :
  Calls Tryz.prog 164 #[.slice A l.length c, .int .i64 next] w fun e w' => ∃ b : Bool, e = .returned (.bool b) ∧ (b = true ↔ (∀ i, i < l.length → lst l i < lst l (i + 1)) ∧ lst l l.length < next) ∧ Below w.heap.size w w' := by
 have H1 := Lib.hid h
 have hle := h.le
 obtain ⟨n, hn⟩ : ∃ n, n = l.length := ⟨_, rfl⟩
 have HN := Lib.hid hn
 rw [← hn] at hle hl ⊢
 clear h hn
 go_enter Tryz.func164, Tryz.ntmps164
 go_wp2_with fail
 go_loopw [5, 10] (fun lv iv wr => ∃ i : Nat, i ≤ n ∧ iv = .int .i64 i ∧ lv = .int .i64 (lst l i) ∧ Below w.heap.size w wr ∧ ∀ j, j < i → lst l j < lst l (j + 1)) (fun _ iv _ => n - (intOf iv).toNat)
 case atStart => exact ⟨0, by omega, rfl, by rw [lst_0], Below.refl _ _, fun j hj => absurd hj (by omega)⟩
 case round =>
  obtain ⟨k, hk, rfl, rfl, hb, hall⟩ := hrel
  obtain ⟨w1, rfl⟩ : ∃ w1 : World, w1 = wr := ⟨_, rfl⟩
  have Bo := Lib.hid hb
  have HALL := Lib.hid hall
  clear hb hall
  obtain ⟨la, hla⟩ : ∃ la, la = lst l k := ⟨_, rfl⟩
  rw [← hla]
  have HLA := Lib.hid hla
  clear hla
  by_cases hlk : k < n
  ·have hkl : k < l.length := by have := HN.out; omega
   have hd : decide ((k : Int) < (n : Int)) = true := by simp; omega
   have hw : IntKind.i64.wrap ((k : Int) + 1) = (k : Int) + 1 := IntWalk.i64_in _ (by omega)
   obtain ⟨g2, o2, V, kk, rfl, f2⟩ := H1.out.seat hkl
   obtain ⟨x, hx⟩ : ∃ x, x = l[k] := ⟨_, rfl⟩
   have f3 := f2 w1 Bo.out
   rw [← hx] at f3
   have q2 := f3.2.2.2.1
   have HX := Lib.hid (show lst l (k + 1) = x.id by rw [lst_s l k hkl, hx])
   obtain ⟨w2, hw2⟩ : ∃ w2, w2 = w1.alloc (.cells #[.int .i64 x.id, .int .i64 x.q, .int .i64 x.c, .int .i64 x.n, .int .i64 x.m, .slice V x.T kk] 121) := ⟨_, rfl⟩
   have B2 := Lib.hid (show Below w.heap.size w w2 by rw [hw2]; exact Bo.out.alloc Bo.out.size _)
   have R2 := Lib.hid (show row w2 w1.heap.size = some #[.int .i64 x.id, .int .i64 x.q, .int .i64 x.c, .int .i64 x.n, .int .i64 x.m, .slice V x.T kk] by rw [hw2]; exact zA _ _ _ _ rfl)
   clear hx f2 f3
   go_upto_region 5 with fail
   rw [← hw2]
   clear hw2 q2
   obtain ⟨a0, a1, a2, a3, a4, a5⟩ := cells6 R2.out
   by_cases hlt : x.id ≤ la
   ·have d2 : decide (x.id ≤ la) = true := decide_eq_true hlt
    have HF := Lib.hid (show ¬ (∀ i, i < n → lst l i < lst l (i + 1)) from fun h => by have := h k hlk; rw [HX.out, ← HLA.out] at this; omega)
    clear hlt
    go_wp2_with fail
    go_ret
    exact ⟨_, rfl, ⟨fun h => (by cases h), fun h => absurd h.1 HF.out⟩, B2.out⟩
   ·have d2 : decide (x.id ≤ la) = false := decide_eq_false hlt
    have HF := Lib.hid (show lst l k < lst l (k + 1) by rw [HX.out, ← HLA.out]; omega)
    clear hlt
    go_wp2_with fail
    refine ⟨⟨k + 1, by omega, by rw [Int.natCast_succ], by rw [HX.out], B2.out, fun j hj => ?_⟩, ?_⟩
    ·by_cases hjk : j < k
     ·exact HALL.out j hjk
     ·obtain rfl : j = k := by omega
      exact HF.out
    ·simp only [intOf]
     omega
  ·obtain rfl : k = n := by omega
   have hd : decide ((k : Int) < (k : Int)) = false := by simp
   go_wp2_with fail
   go_ret
   exact ⟨_, rfl, ⟨fun h => ⟨HALL.out, by rw [← HLA.out]; exact of_decide_eq_true h⟩, fun h => decide_eq_true (by rw [HLA.out]; exact h.2)⟩, Bo.out⟩
structure OfOk (l : List Se) (n : Int) : Prop where
 n0 : 1 ≤ n
 n1 : n ≤ 1099511627776
 len : l.length ≤ 8
 up : ∀ i, i < l.length → lst l i < lst l (i + 1)
 last : lst l l.length < n
 no : ∀ s ∈ l, noB s = false
theorem lst_mono {l : List Se} (h : ∀ i, i < l.length → lst l i < lst l (i + 1)) : ∀ d i, i + d ≤ l.length → lst l i ≤ lst l (i + d)
 | 0, i, _ => Int.le_refl _
 | d + 1, i, hd => by
  have := lst_mono h d i (by omega)
  have := h (i + d) (by omega)
  rw [show i + (d + 1) = i + d + 1 by omega]
  omega
theorem OfOk.ok {l : List Se} {n : Int} (h : OfOk l n) (ht : ∀ s ∈ l, s.T ≤ 140737488355328) : SsOk l (n - 1) := by
 have := h.n0
 have := h.n1
 refine ⟨List.pairwise_iff_getElem.2 fun i j hi hj hij => ?_, fun s hs => ?_, h.len, by omega, by omega, ht⟩
 ·have a := lst_mono h.up (j - (i + 1)) (i + 1) (by omega)
  have b := h.up j hj
  rw [show i + 1 + (j - (i + 1)) = j by omega, lst_s l i hi] at a
  rw [lst_s l j hj] at b
  omega
 ·obtain ⟨i, hi, rfl⟩ := List.getElem_of_mem hs
  have a := lst_mono h.up i 0 (by omega)
  have b := h.up i hi
  have c := lst_mono h.up (l.length - (i + 1)) (i + 1) (by omega)
  have d := h.last
  rw [show i + 1 + (l.length - (i + 1)) = l.length by omega] at c
  rw [Nat.zero_add, lst_0] at a
  rw [lst_s l i hi] at b c
  omega
abbrev SeB (l : List Se) : Prop := ∀ s ∈ l, i64B s.id ∧ i64B s.q ∧ i64B s.c ∧ i64B s.n ∧ i64B s.m ∧ s.T ≤ 140737488351232
theorem st_b1 (x : Int) (w : World) : (Instr.build 81 #[(1, .int .i64 x)]).run Tryz.prog w = .ok (.agg #[.map none, .int .i64 x]) w := by kernel_rfl
theorem pof15_any (T : Mk) (t tg : Nat) (A : Option Addr) (c : Nat) (l : List Se) (n : Int) (w : World) (hE : ElAt 6 seEl T w tg A c l) (ht : 0 < t) (h1 : tg ≠ t) (h2 : tg ≠ t + 1) (hl : l.length < 1000) (hb : SeB l) :
  Calls Tryz.prog 117 #[.slice A l.length c, .int .i64 n] w fun e w' => ∃ T', Fr T T' (H2 t) w w' ∧ ((OfOk l n ∧ ∃ B mv, e = .returned (.tuple #[.pointer (some ⟨B, 0, none⟩), .int .i64 0]) ∧ PtAt T' w' t B 0 #[] mv l (n - 1)) ∨ (¬ OfOk l n ∧ e = .returned (.tuple #[.pointer none, .int .i64 1]))) := by
 have HE := Lib.hid hE
 have HB := Lib.hid hb
 have hle := hE.le
 have HR := Lib.hid (show ∀ s ∈ l, ∀ j, -9223372036854775808 ≤ repN s.c s.n s.m j ∧ repN s.c s.n s.m j < 9223372036854775808 from fun s hs => repN_bd (hb s hs).2.2.1 (hb s hs).2.2.2.1 (hb s hs).2.2.2.2.1)
 have S0 := hE.serd
 obtain ⟨P, hP⟩ : ∃ P : Ending → World → Prop, P = fun e w' => ∃ T', Fr T T' (H2 t) w w' ∧ ((OfOk l n ∧ ∃ B mv, e = .returned (.tuple #[.pointer (some ⟨B, 0, none⟩), .int .i64 0]) ∧ PtAt T' w' t B 0 #[] mv l (n - 1)) ∨ (¬ OfOk l n ∧ e = .returned (.tuple #[.pointer none, .int .i64 1]))) := ⟨_, rfl⟩
 have HNO := Lib.hid (show ¬ OfOk l n → ∀ w2, Below w.heap.size w w2 → P (.returned (.tuple #[.pointer none, .int .i64 1])) w2 from fun hk w2 hb2 => by rw [hP]; exact ⟨paint T w.heap.size 0, Fr.new hb2 0, .inr ⟨hk, rfl⟩⟩)
 rw [← hP]
 have HP := Lib.hid hP
 clear hE hb hP
 go_enter Tryz.func117, Tryz.ntmps117
 go_upto_region 1 with fail
 have B1 := Lib.hid (Below.refl w.heap.size w)
 have S1 := Lib.hid S0
 clear S0
 have HO := Lib.hid (pord_any l A c n w S1.out (by omega))
 by_cases d1 : n < 1
 ·have e1 : decide (n < 1) = true := decide_eq_true d1
  have HF := Lib.hid (HNO.out (fun h => by have := h.n0; omega))
  clear d1
  go_wp2_with fail
  exact HF.out _ B1.out
 have e1 : decide (n < 1) = false := decide_eq_false d1
 by_cases d2 : 1099511627776 < n
 ·have e2 : decide (1099511627776 < n) = true := decide_eq_true d2
  have HF := Lib.hid (HNO.out (fun h => by have := h.n1; omega))
  clear d1 d2
  go_wp2_with fail
  exact HF.out _ B1.out
 have e2 : decide (1099511627776 < n) = false := decide_eq_false d2
 by_cases d3 : 8 < l.length
 ·have e3 : decide (8 < (l.length : Int)) = true := decide_eq_true (by omega)
  have HF := Lib.hid (HNO.out (fun h => by have := h.len; omega))
  clear d1 d2 d3
  go_wp2_with fail
  exact HF.out _ B1.out
 have e3 : decide (8 < (l.length : Int)) = false := decide_eq_false (by omega)
 have HL := Lib.hid (show 1 ≤ n ∧ n ≤ 1099511627776 ∧ l.length ≤ 8 from ⟨by omega, by omega, by omega⟩)
 clear d1 d2 d3
 go_wp2_with fail
 refine HO.out.mono ?_
 rintro e w2 ⟨b, rfl, hbo, hb2⟩
 have B2 := Lib.hid (onto B1.out B1.out.size hb2)
 have S2 := Lib.hid (S1.out.below hb2)
 have HBO := Lib.hid hbo
 have HC := Lib.hid (pcts_any l A c w2 S2.out (by omega) HR.out)
 clear hbo HO S1 B1
 cases b with
 | false =>
  have HF := Lib.hid (HNO.out (fun h => by have := HBO.out.2 ⟨h.up, h.last⟩; cases this))
  clear hb2
  go_wp2_with fail
  exact HF.out _ B2.out
 | true =>
  clear hb2
  go_wp2_with fail
  refine HC.out.mono ?_
  rintro e w3 ⟨b, rfl, hbc, hb3⟩
  have B3 := Lib.hid (onto B2.out B2.out.size hb3)
  have HBC := Lib.hid hbc
  clear hbc HC S2 B2
  cases b with
  | true =>
   have HF := Lib.hid (HNO.out (fun h => by obtain ⟨s, hs, e⟩ := HBC.out.1 rfl; rw [h.no s hs] at e; cases e))
   clear hb3
   go_wp2_with fail
   exact HF.out _ B3.out
  | false =>
   have HK := Lib.hid (show OfOk l n from ⟨HL.out.1, HL.out.2.1, HL.out.2.2, (HBO.out.1 (by simp)).1, (HBO.out.1 (by simp)).2, fun s hs => by
    cases e : noB s with
    | false => rfl
    | true => have := HBC.out.2 ⟨s, hs, e⟩; cases this⟩)
   have hn0 := HL.out.1
   have hn1 := HL.out.2.1
   have hwn : IntKind.i64.wrap (n - 1) = n - 1 := IntWalk.i64_in _ (by omega)
   have bd1 := fun w => st_b1 (n - 1) w
   obtain ⟨w4, hw4⟩ : ∃ w4, w4 = w3.alloc (.cells #[.map none, .int .i64 (n - 1)] 81) := ⟨_, rfl⟩
   have b4 : Below w3.heap.size w3 w4 := by rw [hw4]; exact (Below.refl _ _).alloc (Nat.le_refl _) _
   have r4 : row w4 w3.heap.size = some #[.map none, .int .i64 (n - 1)] := by rw [hw4]; exact zA _ _ _ _ rfl
   have E3 := HE.out.fr xC (Fr.new (T := T) (H := fun _ => False) B3.out 0) (fun h => h) (fun h => h)
   have F3 := Fr.new (T := T) (H := H2 t) B3.out 0
   obtain ⟨T3, hT3⟩ : ∃ T3, T3 = paint T w.heap.size 0 := ⟨_, rfl⟩
   rw [← hT3] at E3 F3
   have E4 := Lib.hid (E3.fr xC (Fr.new (H := fun _ => False) b4 t) (fun h => h) (fun h => h))
   have F4 := Lib.hid (F3.trans (Fr.new (T := T3) (H := H2 t) b4 t))
   have P4 := Lib.hid (show PtAt (paint T3 w3.heap.size t) w4 t w3.heap.size 0 #[] none [] (n - 1) from ⟨by rw [mtC_nil]; exact r4, zP (Nat.le_refl _), .inl ⟨rfl, rfl⟩, rfl⟩)
   obtain ⟨T4, hT4⟩ : ∃ T4, T4 = paint T3 w3.heap.size t := ⟨_, rfl⟩
   rw [← hT4] at E4 F4 P4
   obtain ⟨B, hBe⟩ : ∃ B, B = w3.heap.size := ⟨_, rfl⟩
   rw [← hBe] at P4
   have HBE := Lib.hid hBe
   clear b4 r4 E3 F3 hT3 hT4 hBe HE HNO HBO HBC B3
   clear hb3
   go_upto_region 4 with fail
   rw [← hw4, ← HBE.out]
   clear hw4
   go_wp2_with fail
   go_loopw [36] (fun iv wr => ∃ (j : Nat) (T1 : Mk) (mv : Option Nat), j ≤ l.length ∧ iv = .int .i64 (j : Int) ∧ Fr T4 T1 (H2 t) w4 wr ∧ PtAt T1 wr t B 0 #[] mv (l.take j) (n - 1)) (fun iv _ => l.length - (intOf iv).toNat)
   case atStart => exact ⟨0, T4, none, by omega, rfl, Fr.refl _ _ _, P4.out⟩
   case round =>
    obtain ⟨j, T1, mv, hj, rfl, hf, hp⟩ := hrel
    obtain ⟨wo, rfl⟩ : ∃ wo : World, wo = wr := ⟨_, rfl⟩
    have HF := Lib.hid hf
    have HPT := Lib.hid hp
    have E5 := Lib.hid (E4.out.fr xC hf (by unfold H2; omega) (by unfold H2; omega))
    clear hf hp
    by_cases hlt : j < l.length
    ·have hd : decide ((j : Int) < (l.length : Int)) = true := by simp; omega
     have hw : IntKind.i64.wrap ((j : Int) + 1) = (j : Int) + 1 := IntWalk.i64_in _ (by omega)
     obtain ⟨gk, ok, cur, V, kk, rfl, hr, -, -, hrd, -, -, -, q⟩ := E5.out.seat hlt
     have q2 := q Tryz.prog 121
     rw [← hr] at q2
     obtain ⟨x, hx⟩ : ∃ x, x = l[j] := ⟨_, rfl⟩
     rw [← hx] at q2 hrd
     have hmem : x ∈ l := by rw [hx]; exact List.getElem_mem hlt
     have hxb := HB.out x hmem
     obtain ⟨w5, hw5⟩ : ∃ w5, w5 = wo.alloc (.cells #[.int .i64 x.id, .int .i64 x.q, .int .i64 x.c, .int .i64 x.n, .int .i64 x.m, .slice V x.T kk] 121) := ⟨_, rfl⟩
     have b5 : Below wo.heap.size wo w5 := by rw [hw5]; exact (Below.refl _ _).alloc (Nat.le_refl _) _
     have R5 := Lib.hid (show row w5 wo.heap.size = some #[.int .i64 x.id, .int .i64 x.q, .int .i64 x.c, .int .i64 x.n, .int .i64 x.m, .slice V x.T kk] by rw [hw5]; exact zA _ _ _ _ rfl)
     have F5 := Lib.hid (HF.out.trans (Fr.new (T := T1) (H := H2 t) b5 0))
     have P5 := HPT.out.fr (Fr.new (H := fun _ => False) b5 0) (fun h => h) (fun h => h) (fun h => h)
     have D5 := hrd.fr (Fr.new (H := fun _ => False) b5 0) (fun h => h)
     have hno : ssH (l.take j) x.id = false := by
      have hpw := (HK.out.ok fun s hs => by have := (HB.out s hs).2.2.2.2.2; omega).up
      cases e : ssH (l.take j) x.id with
      | false => rfl
      | true =>
       unfold ssH at e
       obtain ⟨y, hy, he⟩ := List.any_eq_true.1 e
       obtain ⟨i, hi, rfl⟩ := List.getElem_of_mem hy
       have hij : i < j := by rw [List.length_take] at hi; omega
       have h5 := List.pairwise_iff_getElem.1 hpw i j (by omega) hlt hij
       rw [List.getElem_take] at he
       have h6 : (l[i]).id = x.id := by simpa using he
       rw [← hx] at h5
       omega
     have htk : l.take (j + 1) = l.take j ++ [x] := by rw [hx]; exact (List.take_append_getElem hlt).symm
     have HC := Lib.hid (keep_any (paint T1 wo.heap.size 0) t B mv (l.take j) (l.take (j + 1)) (n - 1) x V kk w5 P5 ht hxb.1 D5 (by unfold H2; omega) (by omega) (by rw [List.length_take]; omega)
      (fun j2 => by rw [htk]; exact ssH_app _ _ _) (fun j2 s2 hs2 => by rw [htk] at hs2; exact ssG_app hno hs2) (by rw [hno, htk]; simp))
     clear hx hmem hxb b5 P5 D5 hno htk hrd hr q HPT HF
     go_upto_region 7 with fail
     rw [← hw5]
     clear hw5 q2
     have r5 := R5.out
     obtain ⟨a0, a1, a2, a3, a4, a5⟩ := cells6 r5
     go_wp2_with fail
     refine HC.out.mono ?_
     rintro e w6 ⟨rfl, T6, mv6, hF6, hP6⟩
     have F6 := Lib.hid (F5.out.trans hF6)
     have P6 := Lib.hid hP6
     clear hF6 hP6 F5 HC a0 a1 a2 a3 a4 a5 r5 R5
     go_wp2_with fail
     refine ⟨⟨j + 1, T6, mv6, by omega, by rw [Int.natCast_succ], F6.out, P6.out⟩, ?_⟩
     simp only [intOf]
     omega
    ·obtain rfl : j = l.length := by omega
     have hd : decide ((l.length : Int) < (l.length : Int)) = false := by simp
     have P9 := HPT.out
     rw [List.take_length] at P9
     have HP9 := Lib.hid P9
     clear P9 HPT
     go_wp2_with fail
     rw [HP.out]
     exact ⟨T1, F4.out.trans HF.out, .inl ⟨HK.out, B, mv, rfl, HP9.out⟩⟩
end Go.Proofs.YteffjpdcghlnlaaGreatDoor.Oct
