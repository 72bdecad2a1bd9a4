/- Contracts: journal's encode, Frame, Put. -/
import Derived.Test.YtdfcldomjjcidaaGreatDoorJrB
namespace Go.Proofs.YtdfcldomjjcidaaGreatDoor.Oct
open Go.ChangeShapes Go.WideShapes Go.ChangeAt Go.RowKit
set_option linter.unusedVariables false

/-- an entry's slices: they read as its text and its members -/
structure EnR (w : World) (e : En) (A : Option Addr) (c : Nat) (A' : Option Addr) (c' : Nat) : Prop where
  d : Sl w w.heap.size A e.T c e.f
  m : SlG w w.heap.size A' e.n c' (iV e.x)
theorem EnR.below {w w' : World} {e : En} {A A' : Option Addr} {c c' : Nat} (h : EnR w e A c A' c') (hb : Below w.heap.size w w') : EnR w' e A c A' c' := ⟨(h.d.below hb).more hb.size, (h.m.below hb).more hb.size⟩
/-- its numbers are ints -/
structure EnB (e : En) : Prop where
  t : -9223372036854775808 ≤ e.t ∧ e.t < 9223372036854775808
  k : -9223372036854775808 ≤ e.k ∧ e.k < 9223372036854775808
  x : ∀ i, i < e.n → -9223372036854775808 ≤ e.x i ∧ e.x i < 9223372036854775808
  n : e.n ≤ 9223372036854775807
/-- an entry's error, length, bytes -/
def eneE (e : En) : Nat := enE e.t e.k e.x e.T e.n
def enL (e : En) : Nat := entL e.t e.k e.x e.T e.n
def enF (e : En) : Bf := entF e.t e.k e.x e.T e.n e.f
/-- a record's numbers, the kind ahead -/
def rcX (r : Rc) : Nat → Int := fun j => if j = 0 then r.k else nVl r (j - 1)
/-- what the encoding of a record's entry is refused with -/
def rcE (r : Rc) : Nat := if r.k = 2 then (if eneE r.e ≠ 0 then eneE r.e else if 4096 < enL r.e then 2 else 0) else 0
def rcL (r : Rc) : Nat := if r.k = 2 then nuL (rcX r) (nCn r.k + 1) + txL (enL r.e) else nuL (rcX r) (nCn r.k + 1)
def rcF (r : Rc) : Bf := if r.k = 2 then catF (nuL (rcX r) (nCn r.k + 1)) (nuF (rcX r) (nCn r.k + 1)) (txF (enL r.e) (enF r.e)) else nuF (rcX r) (nCn r.k + 1)
theorem rc_at (r : Rc) (hk : kd r.k) (j : Nat) (hj : j < nCn r.k) (D M : Value) : (rcC r D M)[nOf r.k j]? = some (.int .i64 (nVl r j)) := by
  obtain ⟨k, i, t, n, a, b, e⟩ := r
  unfold kd at hk
  simp only at hk hj ⊢
  unfold rcC
  rcases hk with rfl | rfl | rfl
  · have : j = 0 ∨ j = 1 := by have : j < 2 := hj; omega
    rcases this with rfl | rfl <;> rfl
  · obtain rfl : j = 0 := by have : j < 1 := hj; omega
    rfl
  · rcases ahead3 j hj with rfl | rfl | rfl <;> rfl
theorem nuL_1 (x : Nat → Int) : nuL x 1 = encL (x 0).toNat := by simp [nuL, cuL]
theorem nuF_1 (x : Nat → Int) : nuF x 1 = encF (x 0).toNat := by show catF 0 nF _ = _; rw [catF_zero]
theorem nCn_le (k : Int) : nCn k ≤ 3 := by unfold nCn; split <;> (try split) <;> omega
def ecP (r : Rc) (w : World) (e : Ending) (w' : World) : Prop := Below w.heap.size w w' ∧
  ((rcE r = 0 ∧ ∃ v, e = .returned v ∧ Own w' w.heap.size 5 v (rcL r) (rcF r)) ∨ (rcE r ≠ 0 ∧ e = .panicked (pnE (rcE r : Nat))))
set_option maxRecDepth 20000 in
set_option maxHeartbeats 4000000 in
theorem encode_rec (r : Rc) (A A' : Option Addr) (c c' : Nat) (w : World) (hk : kd r.k) (hn : ∀ j, j < nCn r.k → nIn (nVl r j)) (hr : EnR w r.e A c A' c') (hb : r.k = 2 → EnB r.e) :
    Calls Tryz.prog 26 #[.agg (rcC r (.slice A r.e.T c) (.slice A' r.e.n c'))] w (ecP r w) := by
  obtain ⟨w1, hw1⟩ : ∃ w1, w1 = w.alloc (.cells (rcC r (.slice A r.e.T c) (.slice A' r.e.n c')) 29) := ⟨_, rfl⟩
  have bw : Below w.heap.size w w1 := by rw [hw1]; exact (Below.refl _ _).alloc (Nat.le_refl _) _
  have B1 := Lib.hid bw
  have R1 := Lib.hid (show row w1 w.heap.size = some (rcC r (.slice A r.e.T c) (.slice A' r.e.n c')) by rw [hw1]; exact row_alloc_at _ _ _ _ rfl)
  have E1 := Lib.hid (hr.below bw)
  have HB := Lib.hid hb
  have HK := Lib.hid hk
  have HN := Lib.hid hn
  clear bw hr hb
  have hX0 : rcX r 0 = r.k := rfl
  have hXs : ∀ j, rcX r (j + 1) = nVl r j := fun j => rfl
  have HX := Lib.hid (And.intro hX0 hXs)
  clear hX0 hXs hn
  obtain ⟨kn, hkn⟩ : ∃ kn : Nat, r.k = (kn : Int) := ⟨r.k.toNat, by unfold kd at hk; omega⟩
  have hkn9 : kn < 9223372036854775808 := by unfold kd at hk; omega
  have H1 := Lib.hid (put_nil kn w1 hkn9)
  have HKN := Lib.hid hkn
  clear hkn hk
  obtain ⟨c0, -, -, -, -, -, -, -, -, -⟩ := rc_cells R1.out
  rw [HKN.out] at c0
  go_enter Tryz.func26, Tryz.ntmps26
  go_upto_region 1 with fail
  simp only [← hw1]
  clear hw1
  go_wp2_with fail
  refine H1.out.mono ?_
  rintro e w2 ⟨v2, rfl, ho2, hb2⟩
  have O2 := Lib.hid (show Own w2 w1.heap.size 5 v2 (nuL (rcX r) 1) (nuF (rcX r) 1) by rw [nuL_1, nuF_1, HX.out.1, HKN.out, Int.toNat_natCast]; exact ho2)
  have R2 := Lib.hid (carry hb2 R1.out)
  have E2 := Lib.hid (E1.out.below hb2)
  have B2 := Lib.hid (onto B1.out B1.out.size hb2)
  have hs1 : w.heap.size < w1.heap.size := row_lt R1.out
  have hs2 := hb2.size
  clear ho2 hb2 H1 E1 c0 R1 B1
  go_wp2_with fail
  refine (mustb_ok v2 w2).mono ?_
  rintro e w2' ⟨rfl, rfl⟩
  have HN2 := Lib.hid (nums_of w.heap.size r.k _ w2' R2.out (by unfold rcC; rfl) (by rw [rc_size]))
  go_wp2_with fail
  refine HN2.out.mono ?_
  rintro e w3 ⟨hb3, ⟨hk, X, rfl, hX, hX2, hp⟩ | ⟨hk, rfl⟩⟩
  · have HP := Lib.hid hp
    have O3 := Lib.hid (O2.out.below hb3 (Nat.le_refl _))
    have R3 := Lib.hid (carry hb3 R2.out)
    have E3 := Lib.hid (E2.out.below hb3)
    have B3 := Lib.hid (onto B2.out B2.out.size hb3)
    have hs3 := hb3.size
    clear hk hp hb3 HN2 O2 R2 E2 B2 hX
    obtain ⟨N, hN⟩ : ∃ N, N = nCn r.k := ⟨_, rfl⟩
    have hN3 : N ≤ 3 := by rw [hN]; exact nCn_le _
    rw [← hN] at HP ⊢
    have HNN := Lib.hid hN
    clear hN
    go_wp2_with fail
    go_loopw [3, 14] (fun bv iv wr => ∃ j : Nat, j ≤ N ∧ iv = .int .i64 (j : Int) ∧ Own wr w1.heap.size 5 bv (nuL (rcX r) (j + 1)) (nuF (rcX r) (j + 1)) ∧ Below w3.heap.size w3 wr) (fun _ iv _ => N - (intOf iv).toNat)
    case atStart => exact ⟨0, by omega, rfl, O3.out, Below.refl _ _⟩
    case round =>
      obtain ⟨j, hj, rfl, ho, hb⟩ := hrel
      obtain ⟨wo, rfl⟩ : ∃ wo : World, wo = wr := ⟨_, rfl⟩
      obtain ⟨Ab, cb, hv, hsl, -, -⟩ := ho.sl
      subst hv
      have HS := Lib.hid hsl
      have HO := Lib.hid ho
      have HW := Lib.hid hb
      have hbB := Lib.hid (onto B3.out B3.out.size hb)
      have RO := Lib.hid (carry hb R3.out)
      have EO := Lib.hid (E3.out.below hb)
      clear ho hb hsl
      by_cases hlt : j < N
      · have hd : decide ((j : Int) < (N : Int)) = true := by simp; omega
        have hd' : 0 ≤ (j : Int) ∧ (j : Int) < (N : Int) := by omega
        have hjn : j < nCn r.k := by rw [← HNN.out]; exact hlt
        have q1 : wo.cell? ⟨X, j, none⟩ = some (.pointer (some ⟨w.heap.size, nOf r.k j, none⟩)) := by rw [HW.out.cell (p := ⟨X, j, none⟩) hX2]; exact HP.out j hlt
        have q2 : wo.cell? ⟨w.heap.size, nOf r.k j, none⟩ = some (.int .i64 (nVl r j)) := by rw [cell_row RO.out]; exact rc_at r HK.out j hjn _ _
        obtain ⟨x, hx⟩ : ∃ x : Nat, nVl r j = (x : Int) := ⟨(nVl r j).toNat, by have := (HN.out j hjn).1; omega⟩
        have hx9 : x < 9223372036854775808 := by have := (HN.out j hjn).2; omega
        rw [hx] at q2
        have HXX := Lib.hid hx
        have h9 := nuL_le (rcX r) (j + 1)
        have hL : nuL (rcX r) (j + 1) ≤ 140737488355000 := by omega
        have H4 := Lib.hid (put_any x _ cb Ab _ wo HS.out hL hx9)
        obtain ⟨o, ho⟩ : ∃ o, o = nOf r.k j := ⟨_, rfl⟩
        rw [← ho] at q1 q2
        clear hx ho h9 hL hjn
        go_wp2_with fail
        refine H4.out.mono ?_
        rintro e w4 ⟨v4, rfl, ho4, hb4⟩
        have O4 := Lib.hid (show Own w4 w1.heap.size 5 v4 (nuL (rcX r) (j + 1 + 1)) (nuF (rcX r) (j + 1 + 1)) by
          have h := (ho4.base (b' := w1.heap.size) (by have := HW.out.size; omega))
          have e1 : encL x = encL (rcX r (j + 1)).toNat := by rw [HX.out.2, HXX.out, Int.toNat_natCast]
          have e2 : encF x = encF (rcX r (j + 1)).toNat := by rw [HX.out.2, HXX.out, Int.toNat_natCast]
          rw [e1, e2] at h
          exact h)
        have B4 := Lib.hid (onto HW.out HW.out.size hb4)
        clear ho4 hb4 H4 q1 q2 HS HO
        go_wp2_with fail
        refine (mustb_ok v4 w4).mono ?_
        rintro e w4' ⟨rfl, rfl⟩
        go_wp2_with fail
        go_roundw
        case rel => exact ⟨j + 1, by omega, rfl, O4.out, B4.out⟩
        case measure => simp [intOf]; omega
      · have hd : decide ((j : Int) < (N : Int)) = false := by simp; omega
        obtain rfl : j = N := by omega
        have R5 := RO
        obtain ⟨c0, -, -, -, -, -, c6, c7, c8, c9⟩ := rc_cells R5.out
        by_cases h2 : r.k = 2
        · have e2 : (kn == 2) = true := by have := HKN.out; simp; omega
          have e2' : ((kn : Int) == 2) = true := by have := HKN.out; simp; omega
          rw [HKN.out] at c0
          have H2 := Lib.hid h2
          have HEB := HB.out h2
          have hbt : ∀ j, -9223372036854775808 ≤ th2 r.e.t r.e.k j ∧ th2 r.e.t r.e.k j < 9223372036854775808 := fun j => by unfold th2; split; exact HEB.t; exact HEB.k
          have H5 := Lib.hid (entry_any r.e.t r.e.k r.e.x r.e.T r.e.n c c' A A' r.e.f wo EO.out.d EO.out.m hbt HEB.x HEB.n)
          clear h2 HEB hbt
          go_wp2_with fail
          refine H5.out.mono ?_
          rintro e w5 (⟨hz, rfl, hb5⟩ | ⟨hz, v5, rfl, ho5, hb5⟩)
          · have hE : rcE r = enE r.e.t r.e.k r.e.x r.e.T r.e.n := by unfold rcE eneE; rw [if_pos H2.out, if_pos hz]
            rw [← hE] at hz ⊢
            have HZ := Lib.hid hz
            have hzi : ((rcE r : Nat) : Int) ≠ 0 := by omega
            have B5 := Lib.hid (onto hbB.out hbB.out.size hb5)
            clear hz hb5 H5 hE
            go_wp2_with fail
            refine (mustb_bad _ _ hzi _).mono ?_
            rintro e w5' ⟨rfl, rfl⟩
            go_wp2_with fail
            exact ⟨rfl, B5.out, .inr ⟨HZ.out, rfl⟩⟩
          · obtain ⟨A5, c5, hv5, hs5, -, -⟩ := ho5.sl
            subst hv5
            have S5 := Lib.hid hs5
            have B5 := Lib.hid (onto hbB.out hbB.out.size hb5)
            have SB := Lib.hid ((HS.out.below hb5).more hb5.size)
            have HZ := Lib.hid hz
            clear hz hb5 hs5 ho5 H5
            go_wp2_with fail
            refine (mustb_ok _ _).mono ?_
            rintro e w5' ⟨rfl, rfl⟩
            obtain ⟨EL, hEL⟩ : ∃ EL, EL = entL r.e.t r.e.k r.e.x r.e.T r.e.n := ⟨_, rfl⟩
            rw [← hEL] at S5 ⊢
            have h9 := nuL_le (rcX r) (j + 1)
            have hL9 : nuL (rcX r) (j + 1) ≤ 140737488351232 := by omega
            by_cases h4 : 4096 < EL
            · have hE : rcE r = 2 := by unfold rcE eneE enL; rw [if_pos H2.out, if_neg (by rw [HZ.out]; exact fun h => h rfl), if_pos (by rw [← hEL]; exact h4)]
              have HE := Lib.hid hE
              have H6 := Lib.hid (putt_long (nuL (rcX r) (j + 1)) cb EL c5 Ab A5 w5' h4)
              clear hE h4 h9 hL9 hEL
              go_wp2_with fail
              refine H6.out.mono ?_
              rintro e w6 ⟨rfl, rfl⟩
              go_wp2_with fail
              refine (mustb_bad _ 2 (by omega) _).mono ?_
              rintro e w6' ⟨rfl, rfl⟩
              go_wp2_with fail
              exact ⟨rfl, B5.out, .inr ⟨by rw [HE.out]; omega, by rw [HE.out]; rfl⟩⟩
            · have hE : rcE r = 0 := by unfold rcE eneE enL; rw [if_pos H2.out, if_neg (by rw [HZ.out]; exact fun h => h rfl), if_neg (by rw [← hEL]; exact h4)]
              have HE := Lib.hid hE
              have H6 := Lib.hid (putt_any (nuL (rcX r) (j + 1)) cb EL c5 Ab A5 _ _ w5' SB.out S5.out hL9 (by omega))
              have HEL := Lib.hid hEL
              clear hE h4 h9 hL9 hEL
              go_wp2_with fail
              refine H6.out.mono ?_
              rintro e w6 ⟨v6, rfl, ho6, hb6⟩
              have O6 := Lib.hid ho6
              have B6 := Lib.hid (onto B5.out B5.out.size hb6)
              clear ho6 hb6
              go_wp2_with fail
              refine (mustb_ok _ _).mono ?_
              rintro e w6' ⟨rfl, rfl⟩
              go_wp2_with fail
              go_ret
              refine ⟨B6.out, .inl ⟨HE.out, _, rfl, ?_⟩⟩
              have hh := O6.out.base (b' := w.heap.size) B5.out.size
              unfold rcL rcF enL enF
              rw [if_pos H2.out, if_pos H2.out, ← HNN.out, ← HEL.out]
              exact hh
        · have e2 : (kn == 2) = false := by have := HKN.out; simp; omega
          have e2' : ((kn : Int) == 2) = false := by have := HKN.out; simp; omega
          rw [HKN.out] at c0
          have H2 := Lib.hid h2
          clear h2
          go_wp2_with fail
          go_ret
          refine ⟨hbB.out, .inl ⟨by unfold rcE; rw [if_neg H2.out], _, rfl, ?_⟩⟩
          have hh := HO.out.base (b' := w.heap.size) (by omega)
          unfold rcL rcF
          rw [if_neg H2.out, if_neg H2.out, ← HNN.out]
          exact hh
  · exact absurd HK.out hk
end Go.Proofs.YtdfcldomjjcidaaGreatDoor.Oct
