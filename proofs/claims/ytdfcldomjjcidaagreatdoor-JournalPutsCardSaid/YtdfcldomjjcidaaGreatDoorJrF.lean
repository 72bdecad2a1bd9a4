/- Contract: journal's decode. -/
import Derived.Test.YtdfcldomjjcidaaGreatDoorJrE
namespace Go.Proofs.YtdfcldomjjcidaaGreatDoor.Oct
open Go.ChangeShapes Go.WideShapes Go.ChangeAt Go.RowKit
set_option linter.unusedVariables false

/-- a record of kind k whose first j numbers are laid -/
def nSt (k : Int) (y : Nat → Int) (j : Nat) : Rc :=
  if k = 1 then { Rc.zero with k := k, a := if 0 < j then y 0 else 0, b := if 1 < j then y 1 else 0 }
  else if k = 2 then { Rc.zero with k := k, i := if 0 < j then y 0 else 0 }
  else { Rc.zero with k := k, i := if 0 < j then y 0 else 0, t := if 1 < j then y 1 else 0, n := if 2 < j then y 2 else 0 }
theorem nSt_k (k : Int) (y : Nat → Int) (j : Nat) : (nSt k y j).k = k := by unfold nSt; split <;> (try split) <;> rfl
theorem nSt_e (k : Int) (y : Nat → Int) (j : Nat) : (nSt k y j).e = En.zero := by unfold nSt; split <;> (try split) <;> rfl
def rc1 (k : Int) : Rc := { Rc.zero with k := k }
theorem nSt_0 (k : Int) (y : Nat → Int) : nSt k y 0 = rc1 k := by
  unfold nSt rc1
  by_cases h1 : k = 1
  · rw [if_pos h1]; simp [Rc.zero]
  · rw [if_neg h1]
    by_cases h2 : k = 2
    · rw [if_pos h2]; simp [Rc.zero]
    · rw [if_neg h2]; simp [Rc.zero]
theorem rc_b1 (k : Int) (w : World) : (bdA 29 #[(0, .int .i64 k)]).run Tryz.prog w = .ok (.agg (rcC (rc1 k) nilS nilS)) w := rc_bdu _ _ _ (by unfold rcC; kernel_rfl)
theorem puS_0 (n : Nat) (f : Bf) : puS n f 0 = tkE n f := by show tkE (n - 0) (offF f 0) = _; rw [offF_zero]; rfl
theorem puX_0 (f : Bf) : puX f 0 = tkV f := by show tkV (offF f 0) = _; rw [offF_zero]
theorem EnR.zero (w : World) : EnR w En.zero none 0 none 0 := ⟨Sl.nothing _ _ _ _ _, ⟨Nat.le_refl _, fun h => absurd h (by show ¬ 0 < 0; omega)⟩⟩
theorem nSt_set (k : Int) (hk : kd k) (y : Nat → Int) (j : Nat) (hj : j < nCn k) (D M : Value) : (rcC (nSt k y j) D M).setIfInBounds (nOf k j) (.int .i64 (y j)) = rcC (nSt k y (j + 1)) D M := by
  unfold kd at hk
  unfold rcC
  rcases hk with rfl | rfl | rfl
  · have : j = 0 ∨ j = 1 := by have : j < 2 := hj; omega
    rcases this with rfl | rfl <;> rfl
  · obtain rfl : j = 0 := by have : j < 1 := hj; omega
    rfl
  · rcases ahead3 j hj with rfl | rfl | rfl <;> rfl
theorem nOf_lt (k : Int) (j : Nat) : nOf k j < 6 := by unfold nOf; (repeat' split) <;> omega
/-- the numbers behind the kind -/
def dcY (f : Bf) : Nat → Int := fun j => (puX f (j + 1) : Nat)
/-- the bytes of an entry within n bytes, ahead of it q bytes -/
def dcT (f : Bf) (q : Nat) : Nat := tkV (offF f q)
def dcF (f : Bf) (q : Nat) : Bf := offF f (q + tkL (offF f q))
/-- n bytes are (at their front) a record -/
def dcK (n : Nat) (f : Bf) : Prop := kd (puX f 0 : Nat) ∧ puE n f (nCn (puX f 0 : Nat) + 1) = 0 ∧ (puX f 0 = 2 → ttE (n - puO f 2) 4096 (offF f (puO f 2)) = 0 ∧ teK (dcT f (puO f 2)) (dcF f (puO f 2)))
/-- an entry that was read -/
def teEn (f : Bf) : En := ⟨(puX f 0 : Nat), (puX f 1 : Nat), teT f, teF f, teM f, teX f⟩
/-- the record -/
def dcR (f : Bf) : Rc := if puX f 0 = 2 then { nSt 2 (dcY f) 1 with e := teEn (dcF f (puO f 2)) } else nSt (puX f 0 : Nat) (dcY f) (nCn (puX f 0 : Nat))
/-- a record whose slices are new, from block N on -/
structure RcN (N : Nat) (w : World) (r : Rc) (v : Value) : Prop where
  ex : ∃ A c A' c', v = .agg (rcC r (.slice A r.e.T c) (.slice A' r.e.n c')) ∧ EnR w r.e A c A' c' ∧ Nw N r.e.T A ∧ ∀ a, A' = some a → N ≤ a.block
theorem RcN.below {N : Nat} {w w' : World} {r : Rc} {v : Value} (h : RcN N w r v) (hb : Below w.heap.size w w') : RcN N w' r v := by
  obtain ⟨A, c, A', c', e, h1, h2, h3⟩ := h.ex
  exact ⟨A, c, A', c', e, h1.below hb, h2, h3⟩
theorem RcN.low {N N' : Nat} {w : World} {r : Rc} {v : Value} (h : RcN N w r v) (hn : N' ≤ N) : RcN N' w r v := by
  obtain ⟨A, c, A', c', e, h1, h2, h3⟩ := h.ex
  exact ⟨A, c, A', c', e, h1, fun k hk => h2 k (by omega), fun a ha => by have := h3 a ha; omega⟩
/-- a block below N is written -/
theorem RcN.setRow {N : Nat} {w : World} {r : Rc} {v : Value} (h : RcN N w r v) {B : Nat} (hB : B < N) {c0 : Array Value} (hr : row w B = some c0) (c : Array Value) : RcN N (w.setRow B c) r v := by
  obtain ⟨A, k, A', k', e, h1, h2, h3⟩ := h.ex
  have hp : Put B c w (w.setRow B c) := Put.of (Below.refl _ _) (row_lt hr) c
  exact ⟨A, k, A', k', e, ⟨(hp.sl h1.d (Nat.le_refl _) (h2 B hB)).more hp.size, (hp.slG h1.m (Nat.le_refl _) (fun a ha => by have := h3 a ha; omega)).more hp.size⟩, h2, h3⟩
def jdP (n : Nat) (f : Bf) (w : World) (e : Ending) (w' : World) : Prop := Below w.heap.size w w' ∧
  ((dcK n f ∧ ∃ v, e = .returned v ∧ RcN w.heap.size w' (dcR f) v) ∨ (¬ dcK n f ∧ ∃ E, E ≠ 0 ∧ e = .panicked (pnE E)))
/-- what decode holds on its way: its result's block, the parts, the record -/
structure DcI (w : World) (P B j n : Nat) (f : Bf) (r : Rc) (wr : World) : Prop where
  b : Below w.heap.size w wr
  r0 : row wr w.heap.size = some (rcC .zero nilS nilS)
  rp : ∃ A c, row wr P = some #[.slice A (n - puO f j) c] ∧ Sl wr wr.heap.size A (n - puO f j) c (offF f (puO f j)) ∧ Off P (n - puO f j) A
  rb : row wr B = some (rcC r nilS nilS)
  pe : puE n f j = 0
set_option maxRecDepth 20000 in
set_option maxHeartbeats 4000000 in
theorem jdec_any (n c : Nat) (A : Option Addr) (f : Bf) (w : World) (hs : Sl w w.heap.size A n c f) (hn : n ≤ 140737488355328) :
    Calls Tryz.prog 55 #[.slice A n c] w (jdP n f w) := by
  have HS := Lib.hid hs
  clear hs
  go_enter Tryz.func55, Tryz.ntmps55
  obtain ⟨w1, hw1⟩ : ∃ w1, w1 = (w.alloc (.cells #[.int .i64 0, .int .i64 0, .int .i64 0, .int .i64 0, .int .i64 0, .int .i64 0, .int .i64 0, .int .i64 0, .slice none 0 0, .slice none 0 0] 29)).alloc (.cells #[.slice A n c] 126) := ⟨_, rfl⟩
  have bw : Below w.heap.size w w1 := by rw [hw1]; exact ((Below.refl _ _).alloc (Nat.le_refl _) _).alloc (by simp) _
  have r0 : row w1 w.heap.size = some (rcC .zero nilS nilS) := by rw [hw1, ← rc_lit0]; exact row_alloc (row_alloc_at _ _ _ _ rfl) _
  have rp : row w1 (w.heap.size + 1) = some #[.slice A n c] := by rw [hw1]; exact row_alloc_at _ _ _ _ (by simp)
  have hz1 : w1.heap.size = w.heap.size + 2 := by rw [hw1]; simp
  have S1 := (HS.out.below bw).more bw.size
  have H1 := Lib.hid (number_p (w.heap.size + 1) n c A f w1 rp S1 hn)
  have B1 := Lib.hid bw
  have R0 := Lib.hid r0
  have RP := Lib.hid rp
  clear bw r0 rp S1
  go_wp2_with fail
  rw [← hw1]
  clear hw1
  refine H1.out.mono ?_
  rintro e w2 (⟨hz, rfl, hb⟩ | ⟨hz, v, A2, c2, rfl, rfl, hput, hs2, hoff⟩)
  · have HK := Lib.hid (show ¬ dcK n f from fun h => hz (by have := fi_each h.2.1 0 (by omega); rw [puS_0] at this; exact this))
    have B2 := Lib.hid (onto B1.out B1.out.size hb)
    have hzi : ((tkE n f : Nat) : Int) ≠ 0 := by omega
    clear hz hb H1
    go_wp2_with fail
    exact ⟨rfl, B2.out, .inr ⟨HK.out, _, hzi, rfl⟩⟩
  · obtain ⟨k, hk⟩ : ∃ k : Int, k = (puX f 0 : Nat) := ⟨_, rfl⟩
    have hk' : ((tkV f : Nat) : Int) = k := by rw [hk, puX_0]
    rw [hk']
    have HKX := Lib.hid hk
    have I2 := Lib.hid (show Below w.heap.size w w2 ∧ row w2 w.heap.size = some (rcC .zero nilS nilS) ∧ row w2 (w.heap.size + 1) = some #[.slice A2 (n - puO f 1) c2] ∧ Sl w2 w2.heap.size A2 (n - puO f 1) c2 (offF f (puO f 1)) ∧ Off (w.heap.size + 1) (n - puO f 1) A2 ∧ puE n f 1 = 0 by
      have e1 : puO f 1 = tkL f := by show 0 + tkL (offF f 0) = _; rw [Nat.zero_add, offF_zero]
      rw [e1]
      exact ⟨B1.out.trans (hput.low (by omega) (by omega)), hput.other (by omega) R0.out, hput.row RP.out, hs2, hoff _ (by omega), ((fi_step (E := puS n f) (j := 0) rfl).trans (puS_0 n f)).trans hz⟩)
    have hz2 : w.heap.size + 2 ≤ w2.heap.size := by have := hput.size; omega
    have hb1 := rc_b1 k
    clear hz hput hs2 hoff H1 B1 R0 RP hk hk'
    obtain ⟨w3, hw3⟩ : ∃ w3, w3 = w2.alloc (.cells (rcC (rc1 k) (.slice none 0 0) (.slice none 0 0)) 29) := ⟨_, rfl⟩
    have bw : Below w2.heap.size w2 w3 := by rw [hw3]; exact (Below.refl _ _).alloc (Nat.le_refl _) _
    have rb : row w3 w2.heap.size = some (rcC (nSt k (dcY f) 0) nilS nilS) := by rw [hw3, nSt_0]; exact row_alloc_at _ _ _ _ rfl
    have I3 := Lib.hid (show DcI w (w.heap.size + 1) w2.heap.size 1 n f (nSt k (dcY f) 0) w3 from
      ⟨onto I2.out.1 I2.out.1.size bw, carry bw I2.out.2.1, ⟨A2, c2, carry bw I2.out.2.2.1, (I2.out.2.2.2.1.below bw).more bw.size, I2.out.2.2.2.2.1⟩, rb, I2.out.2.2.2.2.2⟩)
    have H3 := Lib.hid (nums_of w2.heap.size k _ w3 rb (by rw [nSt_0]; unfold rcC; rfl) (by rw [rc_size]))
    have hz3 : w2.heap.size < w3.heap.size := row_lt rb
    obtain ⟨B, hB⟩ : ∃ B, B = w2.heap.size := ⟨_, rfl⟩
    rw [← hB] at I3 H3 hz3 hz2
    clear bw rb I2
    go_wp2_with fail
    rw [← hw3, ← hB]
    clear hw3 hB
    refine H3.out.mono ?_
    rintro e w4 ⟨hb4, ⟨hk, X, rfl, hX, hX2, hp⟩ | ⟨hk, rfl⟩⟩
    · have HP := Lib.hid hp
      have HK := Lib.hid hk
      obtain ⟨N, hN⟩ : ∃ N, N = nCn k := ⟨_, rfl⟩
      have hN3 : N ≤ 3 := by rw [hN]; exact nCn_le _
      rw [← hN] at HP ⊢
      have HNN := Lib.hid hN
      have I4 := Lib.hid (show DcI w (w.heap.size + 1) B 1 n f (nSt k (dcY f) 0) w4 by
        obtain ⟨i1, i2, ⟨A5, c5, i3, i4, i5⟩, i6, i7⟩ := I3.out
        exact ⟨onto i1 i1.size hb4, carry hb4 i2, ⟨A5, c5, carry hb4 i3, (i4.below hb4).more hb4.size, i5⟩, carry hb4 i6, i7⟩)
      have hXB : B < X := by omega
      clear hk hp hb4 H3 hX hN I3
      go_wp2_with fail
      go_loopw [13] (fun iv wr => ∃ j : Nat, j ≤ N ∧ iv = .int .i64 (j : Int) ∧ DcI w (w.heap.size + 1) B (j + 1) n f (nSt k (dcY f) j) wr ∧ w4.heap.size ≤ wr.heap.size ∧ (∀ i, i < N → wr.cell? ⟨X, i, none⟩ = some (.pointer (some ⟨B, nOf k i, none⟩)))) (fun iv _ => N - (intOf iv).toNat)
      case atStart => exact ⟨0, by omega, rfl, I4.out, Nat.le_refl _, HP.out⟩
      case round =>
        obtain ⟨j, hj, rfl, hI, hsz, hp⟩ := hrel
        obtain ⟨wo, rfl⟩ : ∃ wo : World, wo = wr := ⟨_, rfl⟩
        have HI := Lib.hid hI
        have HQ := Lib.hid hp
        clear hI hp
        by_cases hlt : j < N
        · have hd : decide ((j : Int) < (N : Int)) = true := by simp; omega
          have hd' : 0 ≤ (j : Int) ∧ (j : Int) < (N : Int) := by omega
          have q1 := HQ.out j hlt
          have hjn : j < nCn k := by rw [← HNN.out]; exact hlt
          obtain ⟨o, ho⟩ : ∃ o, o = nOf k j := ⟨_, rfl⟩
          rw [← ho] at q1
          have HO := Lib.hid ho
          have HJ := Lib.hid hjn
          obtain ⟨A5, c5, hrp, hsl, hoff⟩ := HI.out.rp
          have hle := puO_le _ HI.out.pe
          have H5 := Lib.hid (number_p (w.heap.size + 1) (n - puO f (j + 1)) c5 A5 (offF f (puO f (j + 1))) wo hrp hsl (by omega))
          clear hjn ho hrp hsl hoff hle
          go_wp2_with fail
          refine H5.out.mono ?_
          rintro e w5 (⟨hz, rfl, hb⟩ | ⟨hz, v, A6, c6, rfl, rfl, hput, hs6, hoff⟩)
          · have HKK := Lib.hid (show ¬ dcK n f from fun h => hz (by
              have h1 := h.2.1
              rw [← HKX.out, ← HNN.out] at h1
              exact fi_each h1 (j + 1) (by omega)))
            have B5 := Lib.hid (onto HI.out.b HI.out.b.size hb)
            have hzi : ((tkE (n - puO f (j + 1)) (offF f (puO f (j + 1))) : Nat) : Int) ≠ 0 := by omega
            clear hz hb H5
            go_wp2_with fail
            exact ⟨rfl, B5.out, .inr ⟨HKK.out, _, hzi, rfl⟩⟩
          · have hX5 : X ≠ w.heap.size + 1 := by omega
            have rb5 := hput.other (k := B) (by omega) HI.out.rb
            have z5 := froz_row rb5 o
            obtain ⟨y5, hy5⟩ : ∃ y, w5.cell? ⟨B, o, none⟩ = some y := by
              rw [cell_row rb5]
              exact ⟨_, Array.getElem?_eq_getElem (by rw [rc_size, HO.out]; have := nOf_lt k j; omega)⟩
            have I5 := Lib.hid (show DcI w (w.heap.size + 1) B (j + 1 + 1) n f (nSt k (dcY f) (j + 1)) (w5.setCell ⟨B, o, none⟩ (.int .i64 (tkV (offF f (puO f (j + 1))) : Nat))) by
              have hr := setCell_row rb5 o (.int .i64 (tkV (offF f (puO f (j + 1))) : Nat))
              rw [HO.out] at hr
              rw [show (((tkV (offF f (puO f (j + 1))) : Nat) : Int)) = dcY f j from rfl] at hr ⊢
              rw [nSt_set k HK.out (dcY f) j HJ.out] at hr
              rw [HO.out, hr]
              have hP2 : Put B (rcC (nSt k (dcY f) (j + 1)) nilS nilS) w5 (w5.setRow B (rcC (nSt k (dcY f) (j + 1)) nilS nilS)) := Put.of (Below.refl _ _) (row_lt rb5) _
              refine ⟨below_setRow (HI.out.b.trans (hput.low (by omega) HI.out.b.size)) (by omega) _, hP2.other (by omega) (hput.other (by omega) HI.out.r0), ⟨A6, c6, ?_, ?_, ?_⟩, row_setRow rb5 _, ?_⟩
              · have := hput.row (HI.out.rp.choose_spec.choose_spec.1)
                rw [Nat.sub_sub] at this
                exact hP2.other (by omega) this
              · rw [Nat.sub_sub, offF_offF] at hs6
                rw [Nat.sub_sub] at hoff
                exact (hP2.sl hs6 (Nat.le_refl _) (hoff B (row_lt HI.out.rb))).more hP2.size
              · rw [Nat.sub_sub] at hoff
                exact hoff _ (row_lt (HI.out.rp.choose_spec.choose_spec.1))
              · exact (fi_step HI.out.pe).trans hz)
            have hX6 : X ≠ B := by omega
            have hcX : ∀ i, i < N → (w5.setCell ⟨B, o, none⟩ (.int .i64 (tkV (offF f (puO f (j + 1))) : Nat))).cell? ⟨X, i, none⟩ = some (.pointer (some ⟨B, nOf k i, none⟩)) := fun i hi => by
              rw [World.cell?_setCell_other _ _ _ _ (by intro e; injection e with e; omega)]
              rw [show w5.cell? ⟨X, i, none⟩ = wo.cell? ⟨X, i, none⟩ by unfold World.cell?; rw [hput.block X (by omega) hX5]]
              exact HQ.out i hi
            have HCX := Lib.hid hcX
            have hz5 := hput.size
            clear hcX hput hs6 hoff H5 rb5 hz
            go_wp2_with fail
            go_roundw
            case rel => exact ⟨j + 1, by omega, rfl, I5.out, by simp [World.setCell]; omega, HCX.out⟩
            case measure => simp [intOf]; omega
        · have hd : decide ((j : Int) < (N : Int)) = false := by simp; omega
          obtain rfl : j = N := by omega
          have RB := HI.out.rb
          obtain ⟨c0, -, -, -, -, -, c6, c7, c8, c9⟩ := rc_cells RB
          rw [nSt_k] at c0
          by_cases h2 : k = 2
          · subst h2
            obtain rfl : j = 1 := HNN.out
            obtain ⟨A5, c5, hrp, hsl, hoff⟩ := HI.out.rp
            have hle := puO_le _ HI.out.pe
            have H5 := Lib.hid (text_p (w.heap.size + 1) (n - puO f 2) c5 A5 (offF f (puO f 2)) wo hrp hsl (by omega))
            clear hrp hsl hoff hle c6 c7 c8 c9 RB
            go_wp2_with fail
            refine H5.out.mono ?_
            rintro e w5 (⟨hz, rfl, hb⟩ | ⟨hz, v, A6, c6, rfl, hov, hput, -, -⟩)
            · have HKK := Lib.hid (show ¬ dcK n f from fun h => hz (h.2.2 (by have := HKX.out; omega)).1)
              have B5 := Lib.hid (onto HI.out.b HI.out.b.size hb)
              have hzi : ((ttE (n - puO f 2) 4096 (offF f (puO f 2)) : Nat) : Int) ≠ 0 := by omega
              clear hz hb H5
              go_wp2_with fail
              exact ⟨rfl, B5.out, .inr ⟨HKK.out, _, hzi, rfl⟩⟩
            · rw [offF_offF] at hov
              obtain ⟨A7, c7, hv, hs7, -, -⟩ := hov.sl
              subst hv
              have HZ := Lib.hid hz
              have R5 := hput.other (k := w.heap.size) (by omega) HI.out.r0
              have RB5 := hput.other (k := B) (by omega) HI.out.rb
              have B5 := HI.out.b.trans (hput.low (B := w.heap.size + 1) (by omega) HI.out.b.size)
              have HR5 := Lib.hid R5
              have HRB5 := Lib.hid RB5
              have HB5 := Lib.hid B5
              have hle : dcT f (puO f 2) ≤ 140737488355328 := by have := (tt_le hz).2.1; unfold dcT; omega
              have H6 := Lib.hid (takeent_new (dcT f (puO f 2)) c7 A7 (dcF f (puO f 2)) w5 hs7 hle)
              have hTT : tkV (offF f (puO f 2)) = dcT f (puO f 2) := rfl
              rw [hTT]
              obtain ⟨T, hT⟩ : ∃ T, T = dcT f (puO f 2) := ⟨_, rfl⟩
              obtain ⟨g, hg⟩ : ∃ g, g = dcF f (puO f 2) := ⟨_, rfl⟩
              rw [← hT, ← hg] at H6
              rw [← hT]
              have HT := Lib.hid hT
              have HG := Lib.hid hg
              have hz5 : B < w5.heap.size := row_lt RB5
              clear hov hs7 hz hput H5 R5 RB5 B5 hle hTT hT hg
              go_wp2_with fail
              refine H6.out.mono ?_
              rintro e w6 (⟨hk, rfl, hb6⟩ | ⟨hk, A8, c8, A9, c9, rfl, hs8, hs9, hb6, hn8, hn9⟩)
              · have HKK := Lib.hid (show ¬ dcK n f from fun h => hk (by rw [HT.out, HG.out]; exact (h.2.2 (by have := HKX.out; omega)).2))
                have B6 := Lib.hid (onto HB5.out HB5.out.size hb6)
                clear hk hb6 H6
                go_wp2_with fail
                refine (muste_bad _ _ _ _ 80 (by omega) _).mono ?_
                rintro e w7 ⟨rfl, hb7⟩
                have B7 := Lib.hid (onto B6.out B6.out.size hb7)
                clear hb7
                go_wp2_with fail
                exact ⟨rfl, B7.out, .inr ⟨HKK.out, 80, by omega, rfl⟩⟩
              · have HKE := Lib.hid hk
                have HNW := Lib.hid (And.intro hn8 hn9)
                have HSD := Lib.hid (And.intro hs8 hs9)
                have HB6 := Lib.hid hb6
                clear hk hb6 H6 hs8 hs9 hn8 hn9
                go_wp2_with fail
                refine (muste_ok _ _ _ _ _ _ _ _ _).mono ?_
                rintro e w7 ⟨rfl, hb7⟩
                have bw := onto HB6.out HB6.out.size hb7
                have B7 := Lib.hid (onto HB5.out HB5.out.size bw)
                have RB7 := carry bw HRB5.out
                have R7 := Lib.hid (carry bw HR5.out)
                have HRB7 := Lib.hid RB7
                have E7 := Lib.hid (show EnR w7 (teEn g) A8 c8 A9 c9 from ⟨(HSD.out.1.below hb7).more hb7.size, (HSD.out.2.below hb7).more hb7.size⟩)
                have hz7 : w5.heap.size ≤ w7.heap.size := bw.size
                obtain ⟨-, -, -, -, -, -, d6, d7, d8, d9⟩ := rc_cells RB7
                have z6 := froz_row RB7 6
                have z7 := froz_row RB7 7
                have z8 := froz_row RB7 8
                have z9 := froz_row RB7 9
                clear hb7 bw RB7
                go_upto_region 10 with fail
                have hq := rc_setE HRB7.out (teEn g) (.slice A8 (teT g) c8) (.slice A9 (teM g) c9)
                rw [show (teEn g).t = ((puX g 0 : Nat) : Int) from rfl, show (teEn g).k = ((puX g 1 : Nat) : Int) from rfl] at hq
                rw [hq]
                clear hq d6 d7 d8 d9 z6 z7 z8 z9
                obtain ⟨r8, hr8⟩ : ∃ r8 : Rc, r8 = { nSt 2 (dcY f) 1 with e := teEn g } := ⟨_, rfl⟩
                rw [← hr8]
                have hBw : B < w7.heap.size := row_lt HRB7.out
                have hP8 : Put B (rcC r8 (.slice A8 (teT g) c8) (.slice A9 (teM g) c9)) w7 (w7.setRow B (rcC r8 (.slice A8 (teT g) c8) (.slice A9 (teM g) c9))) := Put.of (Below.refl _ _) hBw _
                have r0 := hP8.other (k := w.heap.size) (by omega) R7.out
                have rb := row_setRow HRB7.out (rcC r8 (.slice A8 (teT g) c8) (.slice A9 (teM g) c9))
                obtain ⟨w8, hw8⟩ : ∃ w8, w8 = w7.setRow B (rcC r8 (.slice A8 (teT g) c8) (.slice A9 (teM g) c9)) := ⟨_, rfl⟩
                have B8 := Lib.hid (show Below w.heap.size w w8 by rw [hw8]; exact below_setRow B7.out (by omega) _)
                have E8 := Lib.hid (show EnR w8 (teEn g) A8 c8 A9 c9 by
                  rw [hw8]
                  exact ⟨(hP8.sl E7.out.d (Nat.le_refl _) (HNW.out.1 B hz5)).more hP8.size, (hP8.slG E7.out.m (Nat.le_refl _) (fun a ha => by have := HNW.out.2 a ha; omega)).more hP8.size⟩)
                rw [← hw8] at r0 rb ⊢
                have R8 := Lib.hid r0
                have HR8 := Lib.hid hr8
                clear hw8 hP8 hr8
                go_wp2_with fail
                have hKX : puX f 0 = 2 := by have := HKX.out; omega
                have hdk : dcK n f := ⟨by rw [hKX]; exact HK.out, by rw [hKX]; exact HI.out.pe, fun _ => ⟨HZ.out, by rw [← HT.out, ← HG.out]; exact HKE.out⟩⟩
                have hdr : dcR f = r8 := by unfold dcR; rw [if_pos hKX, HR8.out, HG.out]
                have hP9 : Put w.heap.size (rcC r8 (.slice A8 (teT g) c8) (.slice A9 (teM g) c9)) w8 (w8.setRow w.heap.size (rcC r8 (.slice A8 (teT g) c8) (.slice A9 (teM g) c9))) := Put.of (Below.refl _ _) (row_lt R8.out) _
                refine bodyPost_ret (v := .agg (rcC r8 (.slice A8 (teT g) c8) (.slice A9 (teM g) c9))) (res_c Tryz.results55 _ _ w.heap.size _ _ rfl (row_setRow R8.out _) Tryz.underlying29 rfl (by rw [rc_i, rc_size])) rfl ⟨below_setRow B8.out (Nat.le_refl _) _, .inl ⟨hdk, _, rfl, ⟨A8, c8, A9, c9, ?_, ?_, ?_, ?_⟩⟩⟩
                · rw [hdr, HR8.out]; rfl
                · rw [hdr, HR8.out]
                  rw [HR8.out] at hP9
                  exact ⟨(hP9.sl E8.out.d (Nat.le_refl _) (HNW.out.1 _ (by omega))).more hP9.size, (hP9.slG E8.out.m (Nat.le_refl _) (fun a ha => by have := HNW.out.2 a ha; omega)).more hP9.size⟩
                · rw [hdr, HR8.out]; exact fun k hk => HNW.out.1 k (by omega)
                · exact fun a ha => by have := HNW.out.2 a ha; omega
          · have e2 : (k == 2) = false := by simp; omega
            have q0 := HI.out.r0
            have q1 := RB
            have H2 := Lib.hid h2
            clear h2 c6 c7 c8 c9
            go_wp2_with fail
            have hKX := HKX.out
            have hHH := H2.out
            have hdk : dcK n f := ⟨by rw [← hKX]; exact HK.out, by rw [← hKX, ← HNN.out]; exact HI.out.pe, fun h => absurd (by rw [hKX, h]; rfl) hHH⟩
            have hdr : dcR f = nSt k (dcY f) j := by unfold dcR; rw [if_neg (fun h => hHH (by rw [hKX, h]; rfl)), ← hKX, ← HNN.out]
            refine bodyPost_ret (v := .agg (rcC (dcR f) nilS nilS)) (by rw [hdr]; exact res_c Tryz.results55 _ _ w.heap.size _ _ rfl (row_setRow HI.out.r0 _) Tryz.underlying29 rfl (by rw [rc_i, rc_size])) rfl ⟨below_setRow HI.out.b (Nat.le_refl _) _, .inl ⟨hdk, _, rfl, ⟨none, 0, none, 0, ?_, ?_, fun _ _ _ a ha => (by cases ha), fun a ha => (by cases ha)⟩⟩⟩
            · rw [show (dcR f).e = En.zero by rw [hdr, nSt_e]]; rfl
            · rw [show (dcR f).e = En.zero by rw [hdr, nSt_e]]; exact EnR.zero _
    · have HKK := Lib.hid (show ¬ dcK n f from fun h => hk (by rw [HKX.out]; exact h.1))
      have B5 := Lib.hid (onto I3.out.b I3.out.b.size hb4)
      clear hb4 hk H3
      go_wp2_with fail
      exact ⟨rfl, B5.out, .inr ⟨HKK.out, 1, by omega, rfl⟩⟩
end Go.Proofs.YtdfcldomjjcidaaGreatDoor.Oct
