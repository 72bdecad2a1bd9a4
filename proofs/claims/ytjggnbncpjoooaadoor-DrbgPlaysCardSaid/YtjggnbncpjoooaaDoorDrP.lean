/- What DrbgPlays wants beside: like, and the form of the calls that came in. -/
import Derived.Test.YtjggnbncpjoooaaDoorDrQ
import Derived.Test.YtjggnbncpjoooaaDoorDrO
namespace Go.Proofs.YtjggnbncpjoooaaDoor.Oct
open Go.ChangeShapes Go.WideShapes Go.ChangeAt Go.RowKit
set_option linter.unusedVariables false

set_option maxHeartbeats 2000000 in
theorem like_any (s : St) (c : Int) (T : Value) (B1 B2 : Nat) (w : World) (h1 : row w B1 = some (srcC s.1 s.2 c)) (h2 : row w B2 = some (rscC T s.1 s.2 c)) :
    Calls Tryd.prog 18 #[.pointer (some ⟨B1, 0, none⟩), .pointer (some ⟨B2, 0, none⟩)] w fun e w' => e = .returned (.bool true) ∧ Below w.heap.size w w' := by
  have R2 := Lib.hid h2
  have HD := Lib.hid (dstate_any s c B1 w h1)
  clear h1 h2
  go_enter Tryd.func18, Tryd.ntmps18
  go_wp2_with fail
  refine HD.out.mono ?_
  rintro e w1 ⟨rfl, hb1⟩
  have B1 := Lib.hid hb1
  have R1 := Lib.hid (carry hb1 R2.out)
  clear hb1 HD R2
  go_wp2_with fail
  have b2 : Below w1.heap.size w1 ((w1.alloc (.cells (ba 32 s.1) 41)).alloc (.cells (ba 32 s.2) 41)) := ((Below.refl _ _).alloc (Nat.le_refl _) _).alloc (by simp) _
  have rk : row ((w1.alloc (.cells (ba 32 s.1) 41)).alloc (.cells (ba 32 s.2) 41)) w1.heap.size = some (ba 32 s.1) := row_alloc (row_alloc_at _ _ _ _ rfl) _
  have rv : row ((w1.alloc (.cells (ba 32 s.1) 41)).alloc (.cells (ba 32 s.2) 41)) (w1.heap.size + 1) = some (ba 32 s.2) := row_alloc_at _ _ _ _ (by simp)
  obtain ⟨w2, hw2⟩ : ∃ w2, w2 = (w1.alloc (.cells (ba 32 s.1) 41)).alloc (.cells (ba 32 s.2) 41) := ⟨_, rfl⟩
  rw [← hw2] at b2 rk rv ⊢
  clear hw2
  have r2 := carry b2 R1.out
  have B2 := Lib.hid (onto B1.out B1.out.size b2)
  refine flow_seen [] [0, 1, 2, 3, 4, 5, 6, 7, 8, 9, 10, 11, 12, 13, 14, 15, 16, 17, 18, 19, 20, 21, 22] (by kernel_rfl) (by kernel_rfl) (fun _ _ _ _ _ h => h) fun X => ?_
  have B3 := Lib.hid (onto B2.out B2.out.size X.below)
  have r3 := carry X.below r2
  have rk3 := carry X.below rk
  have rv3 := carry X.below rv
  obtain ⟨w3, hw3⟩ : ∃ w3, w3 = X.val := ⟨_, rfl⟩
  rw [← hw3] at B3 r3 rk3 rv3 ⊢
  clear hw3 X B1 R1 b2 rk rv r2 B2
  have q1 := After.row r3
  have q2 := After.row rk3
  have q3 := After.row rv3
  have q4 : ∀ x : After w3, x.val.cell? ⟨B2, 73, none⟩ = some (.int .i64 c) := fun x => rsc_cell (After.row r3 x)
  have e1 := eqB_refl 32 s.1
  have e2 := eqB_refl 32 s.2
  simp only [wpFs, pk, List.getElem?_cons_zero, List.getElem?_cons_succ]
  repeat (go_big_quiet_step (fail))
  refine wpQuiet_nil ?_
  go_wp2_with fail
  go_ret
  exact ⟨rfl, B3.out⟩

/-- a slice of calls: each has its kind, its number, and bytes -/
structure OpsSl (w : World) (B : Nat) (A : Option Addr) (n c : Nat) : Prop where
  le : n ≤ c
  big : c ≤ maxLen
  at_ : ∀ i, i < n → ∃ g o k x A' m c' f, A = some ⟨g, o, none⟩ ∧ g < B ∧ w.cell? ⟨g, o + i * 3, none⟩ = some (.int .i64 k) ∧ w.cell? ⟨g, o + i * 3 + 1, none⟩ = some (.int .i64 x) ∧ w.cell? ⟨g, o + i * 3 + 2, none⟩ = some (.slice A' m c') ∧
    Sl w B A' m c' f ∧ c' ≤ maxLen ∧ (Lit.int .i64 k).wf = true ∧ (Lit.int .i64 x).wf = true
section
variable {H : Type} {enc : TypeId × Value → H} {w : World} {base : Nat} {spare : Nat → Bool} {held : Bool}
theorem fld_struct {P : Program} {t : TypeId} {fs : Array Field} {fuel : Nat} {cs : List Value} {x : DataW H × List MemPlace} (ht : P.underlying t = some (.struct fs)) (h : DataW.trod enc P w base spare held fuel t cs = some x) :
    ∃ m, ∀ (i : Nat) (f : Field), fs[i]? = some f → ∃ y, DataW.trod enc P w base spare held m f.type (fld cs f.offset (P.cellsOf f.type)) = some y := by
  obtain ⟨xs, m, _, _, _, hx, hall⟩ := DataW.trod_struct ht h
  refine ⟨m, fun i f hi => ?_⟩
  have hlt : i < xs.length := by rw [hx]; exact (Array.getElem?_eq_some_iff.1 hi).1
  exact ⟨xs[i], by have := hall i f hi; rw [List.getElem?_eq_getElem hlt] at this; exact this⟩
theorem open_ops {r : Reach} {b : Nat} {v : Value} {d : DataW H} {p : List MemPlace} (hv : Value.okWide Tryd.prog w r b 23 v) (h : DataW.Trod enc Tryd.prog w base spare held 23 v d p) :
    ∃ A n c, v = .slice A n c ∧ OpsSl w w.heap.size A n c := by
  obtain ⟨a0, n0, c0, rfl⟩ := okWide_slice Tryd.underlying23 hv
  obtain ⟨fuel, hf⟩ := h
  have hc3 : Tryd.prog.cellsOf 31 = 3 := by kernel_rfl
  have h1 : Tryd.prog.cellsOf 5 = 1 := by kernel_rfl
  rcases Deep.open_slice Tryd.underlying23 hf with ⟨hcs, _⟩ | ⟨a, len, cap, m, n, D, Pl, hcs, _, hl, hm, hmm, _, hx⟩
  · have e0 : (.slice a0 n0 c0 : Value) = .slice none 0 0 := by simpa [Value.cells] using hcs
    injection e0 with e1 e2 e3
    subst e1; subst e2; subst e3
    exact ⟨none, 0, 0, rfl, Nat.le_refl _, Nat.zero_le _, fun i hi => absurd hi (by omega)⟩
  · have e0 : (.slice a0 n0 c0 : Value) = .slice (some a) len cap := by simpa [Value.cells] using hcs
    injection e0 with e1 e2 e3
    subst e1; subst e2; subst e3
    have hlen : n0 ≤ m := by rw [hmm]; split <;> omega
    refine ⟨some a, n0, c0, rfl, hl, hm, fun i hi => ?_⟩
    obtain ⟨cs', hcl, htr⟩ := hx i (by omega)
    rw [hc3] at hcl
    obtain ⟨hb', hl3, hcell⟩ := World.cells?_some hcl
    obtain ⟨m', hall⟩ := fld_struct Tryd.underlying31 htr
    obtain ⟨y0, f0⟩ := hall 0 _ rfl
    obtain ⟨y1, f1⟩ := hall 1 _ rfl
    obtain ⟨y2, f2⟩ := hall 2 _ rfl
    obtain ⟨k, ek, _, hk⟩ := DataW.trod_int (k := .i64) (by kernel_rfl) f0
    obtain ⟨x, ex, _, hwx⟩ := DataW.trod_int (k := .i64) (by kernel_rfl) f1
    obtain ⟨A', m1, c', f, es, hsl, hm'⟩ := fld_sl sli_u u8_u h1 f2
    have e3 : cs' = [.int .i64 k, .int .i64 x, .slice A' m1 c'] := by
      rw [fld_three (cs := cs') (a := 1) (b := 1) (c := 1) hl3]
      rw [show fld cs' 0 1 = [.int .i64 k] from ek, show fld cs' 1 1 = [.int .i64 x] from ex, show fld cs' (1 + 1) 1 = [.slice A' m1 c'] from es]
      rfl
    subst e3
    obtain ⟨cs0, hcl0, _⟩ := hx 0 (by omega)
    rw [hc3] at hcl0
    obtain ⟨_, hl0, hcell0⟩ := World.cells?_some hcl0
    have hc0 := hcell0 0 (by omega)
    rw [List.getElem?_eq_getElem (by omega)] at hc0
    have hs := World.cell?_spot hc0
    obtain ⟨g, o, s⟩ := a
    have hs' : s = none := hs
    subst hs'
    simp only [add_mid] at hcell
    have g0 := hcell 0 (by simp)
    have g1 := hcell 1 (by simp)
    have g2 := hcell 2 (by simp)
    exact ⟨g, o, k, x, A', m1, c', f, rfl, World.block_lt_of_cell? w _ g0, g0, g1, g2, hsl, hm', hk, hwx⟩
end
theorem OpsSl.below {w w' : World} {B n c : Nat} {A : Option Addr} (h : OpsSl w B A n c) (hb : Below B w w') : OpsSl w' B A n c :=
  ⟨h.le, h.big, fun i hi => by
    obtain ⟨g, o, k, x, A', m, c', f, e, hg, h0, h1, h2, hs, hm, hk, hx⟩ := h.at_ i hi
    have key : ∀ q, w'.cell? ⟨g, q, none⟩ = w.cell? ⟨g, q, none⟩ := fun q => hb.cell (p := ⟨g, q, none⟩) hg
    exact ⟨g, o, k, x, A', m, c', f, e, hg, by rw [key]; exact h0, by rw [key]; exact h1, by rw [key]; exact h2, hs.below hb, hm, hk, hx⟩⟩

/- blocks that are not one -/
theorem src_rsc {w : World} {g h : Nat} {k v k' v' : Bf} {c c' : Int} {T : Value} (hg : row w g = some (srcC k v c)) (hh : row w h = some (rscC T k' v' c')) : g ≠ h := fun e => by
  subst e
  rw [hg] at hh
  have := congrArg Array.size (Option.some.inj hh)
  rw [src_size, rsc_size] at this
  omega
theorem slG_src {w : World} {D g cK : Nat} {AK : Option Addr} {k v : Bf} {c : Int} (hK : SlG w D AK 64 cK kV) (hg : row w g = some (srcC k v c)) : ∀ a, AK = some a → a.block ≠ g := fun a ha e => by
  obtain ⟨b, o, e2, _, hc⟩ := hK.at_ (by omega)
  rw [ha] at e2
  obtain rfl := Option.some.inj e2
  simp only at e
  subst e
  have h0 := hc 0 (by omega)
  rw [cell_row hg, Nat.add_zero] at h0
  by_cases h1 : o < 32
  · have e1 := src_cellk hg o h1
    rw [cell_row hg, h0] at e1
    simp [kV] at e1
  · by_cases h2 : o < 64
    · have e1 := src_cellv hg (o - 32) (by omega)
      rw [cell_row hg, show 32 + (o - 32) = o by omega, h0] at e1
      simp [kV] at e1
    · by_cases h3 : o = 64
      · subst h3
        have e1 := src_cell hg
        rw [cell_row hg, h0] at e1
        simp [kV] at e1
      · rw [Array.getElem?_eq_none (by rw [src_size]; omega)] at h0
        cases h0
theorem Put.slG {B : Nat} {x : Array Value} {w w' : World} {A : Option Addr} {n m D : Nat} {V : Nat → Value} (h : Put B x w w') (hs : SlG w D A n m V) (hD : D ≤ w.heap.size) (ho : ∀ a, A = some a → a.block ≠ B) : SlG w' D A n m V :=
  ⟨hs.le, fun hn => by
    obtain ⟨g, o, e, hg, hc⟩ := hs.at_ hn
    refine ⟨g, o, e, hg, fun i hi => ?_⟩
    have hb := h.block g (by omega) (ho _ e)
    rw [show w'.cell? ⟨g, o + i, none⟩ = w.cell? ⟨g, o + i, none⟩ by unfold World.cell?; rw [hb]]
    exact hc i hi⟩

/-- a row of the caller's own that may be written over -/
structure Ownd (w : World) (base : Nat) (A : Option Addr) (n c : Nat) : Prop where
  le : n ≤ c
  row : 0 < n → ∃ go cur, A = some ⟨go, 0, none⟩ ∧ base ≤ go ∧ Oct.row w go = some cur ∧ n ≤ cur.size
theorem Own.ownd {w : World} {base n c : Nat} {u : TypeId} {A : Option Addr} {f : Bf} (h : Own w base u (.slice A n c) n f) : Ownd w base A n c := by
  obtain ⟨A', c', e, hs, _, _⟩ := h.sl
  cases e
  refine ⟨hs.le, fun hn => ?_⟩
  unfold Own at h
  rcases h.2 with ⟨e, h0⟩ | ⟨g, cap, cur, e, hb, hh, hc, hm, hcs, htk⟩
  · omega
  · cases e
    exact ⟨g, cur, rfl, hb, row_of hh, by rw [hcs]; simpa using hc⟩
theorem Ownd.below {w w' : World} {base n c : Nat} {A : Option Addr} (h : Ownd w base A n c) (hb : Below w.heap.size w w') : Ownd w' base A n c :=
  ⟨h.le, fun hn => by obtain ⟨go, cur, e, h1, h2, h3⟩ := h.row hn; exact ⟨go, cur, e, h1, carry hb h2, h3⟩⟩
theorem Ownd.put {w w' : World} {base n c B : Nat} {A : Option Addr} {x : Array Value} (h : Ownd w base A n c) (hp : Put B x w w') (hB : B < base) : Ownd w' base A n c :=
  ⟨h.le, fun hn => by obtain ⟨go, cur, e, h1, h2, h3⟩ := h.row hn; exact ⟨go, cur, e, h1, hp.other (by omega) h2, h3⟩⟩
/-- written over, and nothing else -/
def Scr (A : Option Addr) (n : Nat) (w w' : World) : Prop := w' = w ∨ ∃ go cur, 0 < n ∧ A = some ⟨go, 0, none⟩ ∧ n ≤ cur.size ∧ Put go cur w w'
theorem Scr.row {A : Option Addr} {n k : Nat} {w w' : World} {x : Array Value} (h : Scr A n w w') (hr : Oct.row w k = some x) (hk : 0 < n → ∀ a, A = some a → a.block ≠ k) : Oct.row w' k = some x := by
  rcases h with rfl | ⟨go, cur, hn, e, _, hp⟩
  · exact hr
  · exact hp.other (fun e2 => hk hn _ e e2.symm) hr
theorem Scr.size {A : Option Addr} {n : Nat} {w w' : World} (h : Scr A n w w') : w.heap.size ≤ w'.heap.size := by
  rcases h with rfl | ⟨go, cur, hn, e, _, hp⟩
  · exact Nat.le_refl _
  · exact hp.size
theorem Scr.low {A : Option Addr} {n D : Nat} {w w' : World} (h : Scr A n w w') (hA : 0 < n → ∀ a, A = some a → D ≤ a.block) (hD : D ≤ w.heap.size) : Below D w w' := by
  rcases h with rfl | ⟨go, cur, hn, e, _, hp⟩
  · exact Below.refl _ _
  · exact hp.low (hA hn _ e) hD
/-- where one writes next -/
theorem Scr.at_ {A : Option Addr} {n c base : Nat} {w w' : World} (h : Scr A n w w') (ho : Ownd w base A n c) (hn : 0 < n) : ∃ go cur, A = some ⟨go, 0, none⟩ ∧ base ≤ go ∧ Oct.row w' go = some cur ∧ n ≤ cur.size ∧ ∀ x : Array Value, n ≤ x.size → Scr A n w (w'.setRow go x) := by
  obtain ⟨go, cur, e, hb, hr, hs⟩ := ho.row hn
  rcases h with rfl | ⟨go', cur', _, e', hs', hp⟩
  · exact ⟨go, cur, e, hb, hr, hs, fun x hx => .inr ⟨go, x, hn, e, hx, Put.of (Below.refl _ _) (row_lt hr) _⟩⟩
  · rw [e] at e'
    obtain rfl : go = go' := by cases e'; rfl
    have hr' := hp.row hr
    exact ⟨go, cur', e, hb, hr', hs', fun x hx => .inr ⟨go, x, hn, e, hx, hp.then hr (Put.of (Below.refl _ _) (row_lt hr') _)⟩⟩

/-- what DrbgPlays knows on its way: the source in block g, the reference's in block h -/
structure PlI (w : World) (g h : Nat) (AK : Option Addr) (cK : Nat) (S : St) (c : Int) (S' : St) (c' : Int) (wr : World) : Prop where
  b : Below w.heap.size w wr
  g0 : w.heap.size ≤ g
  h0 : w.heap.size ≤ h
  rg : row wr g = some (srcC S.1 S.2 c)
  rh : row wr h = some (rscC (.slice AK 64 cK) S'.1 S'.2 c')
  k : SlG wr h AK 64 cK kV
section
variable {w : World} {g h : Nat} {AK : Option Addr} {cK : Nat} {S : St} {c : Int} {S' : St} {c' : Int} {wr w' : World} (H : PlI w g h AK cK S c S' c' wr)
include H
theorem PlI.ne : g ≠ h := src_rsc H.rg H.rh
theorem PlI.calm (hb : Below wr.heap.size wr w') : PlI w g h AK cK S c S' c' w' :=
  ⟨onto H.b H.b.size hb, H.g0, H.h0, carry hb H.rg, carry hb H.rh, H.k.below (hb.mono (Nat.le_of_lt (row_lt H.rh)))⟩
theorem PlI.putS {S2 : St} {c2 : Int} (hp : Put g (srcC S2.1 S2.2 c2) wr w') : PlI w g h AK cK S2 c2 S' c' w' :=
  ⟨H.b.trans (hp.low H.g0 H.b.size), H.g0, H.h0, hp.row H.rg, hp.other (fun e => H.ne e.symm) H.rh, hp.slG H.k (Nat.le_of_lt (row_lt H.rh)) (slG_src H.k H.rg)⟩
theorem PlI.putY {S2 : St} {c2 : Int} (hp : Put h (rscC (.slice AK 64 cK) S2.1 S2.2 c2) wr w') : PlI w g h AK cK S c S2 c2 w' :=
  ⟨H.b.trans (hp.low H.h0 H.b.size), H.g0, H.h0, hp.other H.ne H.rg, hp.row H.rh, slG_put H.k hp (Nat.le_refl _) (row_lt H.rh)⟩
theorem PlI.scr {A : Option Addr} {n : Nat} (hs : Scr A n wr w') (hA : 0 < n → ∀ a, A = some a → h < a.block ∧ a.block ≠ g) : PlI w g h AK cK S c S' c' w' :=
  ⟨H.b.trans (hs.low (fun hn a ha => by have := (hA hn a ha).1; have := H.h0; omega) H.b.size), H.g0, H.h0, hs.row H.rg (fun hn a ha => (hA hn a ha).2), hs.row H.rh (fun hn a ha e => by have := (hA hn a ha).1; omega), H.k.below (hs.low (fun hn a ha => by have := (hA hn a ha).1; omega) (Nat.le_of_lt (row_lt H.rh)))⟩
/-- a clone in its place, made behind -/
theorem PlI.clone {g2 : Nat} (hb : Below wr.heap.size wr w') (hg : wr.heap.size ≤ g2) (hr : row w' g2 = some (srcC S.1 S.2 c)) : PlI w g2 h AK cK S c S' c' w' :=
  ⟨onto H.b H.b.size hb, Nat.le_trans H.b.size hg, H.h0, hr, carry hb H.rh, H.k.below (hb.mono (Nat.le_of_lt (row_lt H.rh)))⟩
/-- the old one goes another way -/
theorem PlI.old {g2 : Nat} {k v : Bf} {c3 : Int} {x : Array Value} (hr : row wr g2 = some (srcC k v c3)) (hp : Put g2 x wr w') (hne : g2 ≠ g) (hg2 : w.heap.size ≤ g2) : PlI w g h AK cK S c S' c' w' :=
  ⟨H.b.trans (hp.low hg2 H.b.size), H.g0, H.h0, hp.other (fun e => hne e.symm) H.rg, hp.other (fun e => src_rsc hr H.rh e.symm) H.rh, hp.slG H.k (Nat.le_of_lt (row_lt H.rh)) (slG_src H.k hr)⟩
end
theorem Ownd.scr {w w' : World} {base n c n2 : Nat} {A A2 : Option Addr} (h : Ownd w base A n c) (hs : Scr A2 n2 w w') (hne : 0 < n → 0 < n2 → ∀ a a2, A = some a → A2 = some a2 → a2.block ≠ a.block) : Ownd w' base A n c :=
  ⟨h.le, fun hn => by
    obtain ⟨go, cur, e, h1, h2, h3⟩ := h.row hn
    exact ⟨go, cur, e, h1, hs.row h2 (fun hn2 a2 ha2 => hne hn hn2 _ a2 e ha2), h3⟩⟩
theorem Ownd.far {w : World} {base n c : Nat} {A : Option Addr} (h : Ownd w base A n c) (hn : 0 < n) : ∀ a, A = some a → base ≤ a.block ∧ a.block < w.heap.size := fun a ha => by
  obtain ⟨go, cur, e, h1, h2, h3⟩ := h.row hn
  rw [e] at ha
  cases ha
  exact ⟨h1, row_lt h2⟩
theorem Ownd.nil (w : World) (base : Nat) : Ownd w base none 0 0 := ⟨Nat.le_refl _, fun h => absurd h (by omega)⟩
theorem Ownd.of_row {w : World} {base x n : Nat} {f : Bf} (h : Oct.row w x = some (ba n f)) (hx : base ≤ x) : Ownd w base (some ⟨x, 0, none⟩) n n := ⟨Nat.le_refl _, fun _ => ⟨x, _, rfl, hx, h, by rw [ba_size]; exact Nat.le_refl _⟩⟩
def awF : Bf := fun i => ([97#8, 110#8, 111#8, 116#8, 104#8, 101#8, 114#8, 32#8, 119#8, 97#8, 121#8] : List (BitVec 8)).getD i 0#8
theorem aw_lit : (#[.int .u8 97, .int .u8 110, .int .u8 111, .int .u8 116, .int .u8 104, .int .u8 101, .int .u8 114, .int .u8 32, .int .u8 119, .int .u8 97, .int .u8 121] : Array Value) = ba 11 awF := by unfold ba; kernel_rfl
/-- a draw of both: the bytes are the same, and the code; and what is known behind -/
theorem draw_both {w w5 : World} {g h base M co cb cK : Nat} {AK Ao Ab : Option Addr} {S : St} {c x : Int} {fb : Bf} (hT : Tab w) (I5 : PlI w g h AK cK S c S c w5) (hc0 : 0 ≤ c) (hc1 : c ≤ 1048577)
    (OS : Sl w5 w5.heap.size Ao M co fb) (OF : Off g M Ao) (O5 : Ownd w5 base Ao M co) (hgb : g < base) (hhb : h < base) (S5 : Sl w5 w.heap.size Ab M cb fb) (hM : M ≤ 300) :
    ∃ (er : Int) (S2 : St) (c2 : Int) (na : Nat) (D : Bf), 0 ≤ c2 ∧ c2 ≤ 1048577 ∧ na ≤ 256 ∧ Calls Tryd.prog 13 #[.pointer (some ⟨g, 0, none⟩), .int .i64 x, .slice Ao M co] w5 fun e w6 => ∃ va ca, e = .returned (.tuple #[.slice va na ca, .int .i64 er]) ∧ PlI w g h AK cK S2 c2 S c w6 ∧ Ownd w6 w5.heap.size va na ca ∧ w5.heap.size ≤ w6.heap.size ∧
      ∀ w7, Below w6.heap.size w6 w7 → Calls Tryd.prog 14 #[.pointer (some ⟨h, 0, none⟩), .int .i64 x, .slice Ab M cb] w7 fun e w8 => ∃ A9 c9, e = .returned (.tuple #[.slice A9 na c9, .int .i64 er]) ∧ Sl w8 w8.heap.size A9 na c9 D ∧ PlI w g h AK cK S2 c2 S2 c2 w8 ∧ Ownd w8 w5.heap.size va na ca ∧ Sl w8 w8.heap.size va na ca D ∧ Ownd w8 base Ao M co ∧ w7.heap.size ≤ w8.heap.size := by
  have hpos := hT.pos
  have hg0 := I5.g0
  have hh0 := I5.h0
  have zg := row_lt I5.rg
  have zh := row_lt I5.rh
  by_cases hx : x < 0 ∨ 256 < x
  · refine ⟨1, S, c, 0, nF, hc0, hc1, by omega, (ddraw_arg g M co Ao x w5 hx).mono ?_⟩
    rintro e w6 ⟨rfl, rfl⟩
    refine ⟨none, 0, rfl, I5, Ownd.nil _ _, Nat.le_refl _, fun w7 hb7 => (rdraw_arg h M cb Ab x w7 hx).mono ?_⟩
    rintro e w8 ⟨rfl, rfl⟩
    exact ⟨none, 0, rfl, Sl.nothing _ _ _ _ _, I5.calm hb7, Ownd.nil _ _, Sl.nothing _ _ _ _ _, O5.below hb7, Nat.le_refl _⟩
  · obtain ⟨n, rfl⟩ : ∃ n : Nat, x = (n : Int) := ⟨x.toNat, by omega⟩
    have hn : n ≤ 256 := by omega
    by_cases hk : 1048576 < c
    · refine ⟨70, S, c, 0, nF, hc0, hc1, by omega, (ddraw_seed S g n M co Ao c w5 I5.rg hn hk).mono ?_⟩
      rintro e w6 ⟨rfl, rfl⟩
      refine ⟨none, 0, rfl, I5, Ownd.nil _ _, Nat.le_refl _, fun w7 hb7 => (rdraw_seed S h n M cb Ab _ c w7 (I5.calm hb7).rh hn hk).mono ?_⟩
      rintro e w8 ⟨rfl, rfl⟩
      exact ⟨none, 0, rfl, Sl.nothing _ _ _ _ _, I5.calm hb7, Ownd.nil _ _, Sl.nothing _ _ _ _ _, O5.below hb7, Nat.le_refl _⟩
    · refine ⟨0, drwS S n fb M, c + 1, n, drwF S fb M, by omega, by omega, hn, (ddraw_any S g n M co Ao fb c w5 (hT.below I5.b hpos) I5.rg (by omega) OS (by omega) OF hn (by omega) (by omega)).mono ?_⟩
      rintro e w6 ⟨x0, rfl, hx0, rx0, hp6⟩
      have I6 := I5.putS hp6
      have z6 := hp6.size
      refine ⟨_, _, rfl, I6, Ownd.of_row rx0 hx0, z6, fun w7 hb7 => ?_⟩
      have I7 := I6.calm hb7
      have z7 := hb7.size
      have S7 := S5.below ((hp6.low hg0 (by omega)).trans (hb7.mono (by omega)))
      refine (rdraw_any S h n M cb cK Ab AK fb c w7 I7.rh I7.k (S7.more (by omega)) (by omega) (S7.off hh0) hn (by omega) (by omega)).mono ?_
      rintro e w8 ⟨A9, c9, rfl, hs8, -, hp8⟩
      have rx8 := hp8.other (by omega) (carry hb7 rx0)
      exact ⟨A9, c9, rfl, hs8, I7.putY hp8, Ownd.of_row rx8 hx0, Sl.of_row rx8 _ (row_lt rx8), ((O5.put hp6 hgb).below hb7).put hp8 hhb, hp8.size⟩
end Go.Proofs.YtjggnbncpjoooaaDoor.Oct
