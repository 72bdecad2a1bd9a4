/- Contract: the reference's TakeEntry: what it answers is new. -/
import Derived.Test.YtdfcldomjjcidaaGreatDoorWiAll
namespace Go.Proofs.YtdfcldomjjcidaaGreatDoor.Oct
open Go.ChangeShapes Go.WideShapes Go.ChangeAt Go.RowKit
set_option linter.unusedVariables false

set_option maxRecDepth 20000 in
set_option maxHeartbeats 8000000 in
theorem rtakeent_new (n c : Nat) (A : Option Addr) (f : Bf) (w : World) (hs : Sl w w.heap.size A n c f) (hn : n ≤ 140737488355328) :
    Calls Tryz.prog 88 #[.slice A n c] w (teR n f w) := by
  obtain ⟨w0, hw0⟩ : ∃ w0, w0 = (w.alloc (.cells #[.int .i64 0, .int .i64 0, .slice none 0 0, .slice none 0 0] 27)).alloc (.cells #[.int .i64 0, .int .i64 0, .slice none 0 0, .slice none 0 0] 27) := ⟨_, rfl⟩
  have B0 := Lib.hid (show Below w.heap.size w w0 by rw [hw0]; exact ((Below.refl _ _).alloc (by simp) _).alloc (by simp) _)
  have R0 := Lib.hid (show row w0 w.heap.size = some #[.int .i64 0, .int .i64 0, .slice none 0 0, .slice none 0 0] by rw [hw0]; exact row_alloc (row_alloc_at _ _ _ _ rfl) _)
  have Z0 := Lib.hid (show row w0 (w.heap.size + 1) = some #[.int .i64 0, .int .i64 0, .slice none 0 0, .slice none 0 0] by rw [hw0]; exact row_alloc_at _ _ _ _ (by simp))
  have hs0 : Sl w0 w0.heap.size A (n - puO f 0) c (offF f (puO f 0)) := by
    rw [show puO f 0 = 0 from rfl, Nat.sub_zero, offF_zero]
    exact (hs.below B0.out).more B0.out.size
  have H0 := Lib.hid (rtk_any 0 n c A f w0 hs0 hn)
  rw [show n - puO f 0 = n from Nat.sub_zero n] at H0
  have HS := Lib.hid hs
  clear hs hs0
  go_enter Tryz.func88, Tryz.ntmps88
  go_wp2_with fail
  rw [← hw0]
  clear hw0
  refine H0.out.mono ?_
  clear H0
  rintro e w1 (⟨hz, rfl, hb⟩ | ⟨hz, A1, k1, rfl, hs1, hb⟩)
  · have HK := Lib.hid (show ¬ teK n f from fun h => hz (fi_each (fi_each h.1 0 (by omega)) 0 (by omega)))
    have HZ := Lib.hid hz
    have B1 := Lib.hid (onto B0.out B0.out.size hb)
    have R1 := Lib.hid (carry hb R0.out)
    have Z1 := Lib.hid (carry hb Z0.out)
    obtain ⟨Y, hY⟩ : ∃ Y, Y = puS n f 0 := ⟨_, rfl⟩
    rw [show ((puS n f 0 : Nat) : Int) = (Y : Int) by rw [hY]]
    have hne : ((Y : Int) != 0) = true := by have := HZ.out; rw [← hY] at this; simp; omega
    clear hz hb hY
    have H1 := Lib.hid (rtk_nil w1)
    go_wp2_with fail
    refine H1.out.mono ?_
    rintro e w2 ⟨rfl, hb⟩
    have B2 := Lib.hid (onto B1.out B1.out.size hb)
    have R2 := Lib.hid (carry hb R1.out)
    have Z2 := Lib.hid (carry hb Z1.out)
    have H2 := Lib.hid (rtt_nil w2)
    clear hb H1
    go_wp2_with fail
    refine H2.out.mono ?_
    rintro e w3 ⟨rfl, hb⟩
    have B3 := Lib.hid (onto B2.out B2.out.size hb)
    have R3 := Lib.hid (carry hb R2.out)
    have Z3 := Lib.hid (carry hb Z2.out)
    have H3 := Lib.hid (rtl_nil w3)
    clear hb H2
    go_wp2_with fail
    refine H3.out.mono ?_
    rintro e w4 ⟨rfl, hb⟩
    have B4 := Lib.hid (onto B3.out B3.out.size hb)
    have R4 := Lib.hid (carry hb R3.out)
    have Z4 := Lib.hid (carry hb Z3.out)
    have ZZ := Z4
    clear hb H3
    obtain ⟨c0, c1, c2, c3⟩ := cells4 R4.out
    obtain ⟨d0, d1, d2, d3⟩ := cells4 ZZ.out
    have z0 := froz_row R4.out 0
    have z1 := froz_row R4.out 1
    have z2 := froz_row R4.out 2
    have z3 := froz_row R4.out 3
    go_wp2_with fail
    rw [set4 R4.out]
    exact bodyPost_ret (v := .tuple #[entZ, .int .i64 80]) (res_ct Tryz.results88 _ _ w.heap.size _ _ rfl (row_setRow R4.out _) Tryz.underlying27 rfl (by kernel_rfl)) rfl (.inl ⟨HK.out, rfl, below_setRow B4.out (Nat.le_refl _) _⟩)
  · have q0 := Lib.hid hz
    have B1 := Lib.hid (onto B0.out B0.out.size hb)
    have R1 := Lib.hid (carry hb R0.out)
    have Z1 := Lib.hid (carry hb Z0.out)
    have H1 := Lib.hid (rtk_any 1 n k1 A1 f w1 hs1 hn)
    clear hz hb hs1 B0 R0 Z0
    obtain ⟨x0, hx0⟩ : ∃ x, x = puX f 0 := ⟨_, rfl⟩
    rw [← hx0]
    have X0 := Lib.hid hx0
    clear hx0
    obtain ⟨m1, hm1⟩ : ∃ m, m = n - puO f 1 := ⟨_, rfl⟩
    rw [← hm1] at H1 ⊢
    clear hm1
    go_wp2_with fail
    refine H1.out.mono ?_
    clear H1
    rintro e w2 (⟨hz, rfl, hb⟩ | ⟨hz, A2, k2, rfl, hs2, hb⟩)
    · have HK := Lib.hid (show ¬ teK n f from fun h => hz (fi_each (fi_each h.1 0 (by omega)) 1 (by omega)))
      have HZ := Lib.hid hz
      have B2 := Lib.hid (onto B1.out B1.out.size hb)
      have R2 := Lib.hid (carry hb R1.out)
      have Z2 := Lib.hid (carry hb Z1.out)
      obtain ⟨Y, hY⟩ : ∃ Y, Y = puS n f 1 := ⟨_, rfl⟩
      rw [show ((puS n f 1 : Nat) : Int) = (Y : Int) by rw [hY]]
      have hne : ((Y : Int) != 0) = true := by have := HZ.out; rw [← hY] at this; simp; omega
      clear hz hb hY
      have H2 := Lib.hid (rtt_nil w2)
      go_wp2_with fail
      refine H2.out.mono ?_
      rintro e w3 ⟨rfl, hb⟩
      have B3 := Lib.hid (onto B2.out B2.out.size hb)
      have R3 := Lib.hid (carry hb R2.out)
      have Z3 := Lib.hid (carry hb Z2.out)
      have H3 := Lib.hid (rtl_nil w3)
      clear hb H2
      go_wp2_with fail
      refine H3.out.mono ?_
      rintro e w4 ⟨rfl, hb⟩
      have B4 := Lib.hid (onto B3.out B3.out.size hb)
      have R4 := Lib.hid (carry hb R3.out)
      have Z4 := Lib.hid (carry hb Z3.out)
      have ZZ := Z4
      clear hb H3
      obtain ⟨c0, c1, c2, c3⟩ := cells4 R4.out
      obtain ⟨d0, d1, d2, d3⟩ := cells4 ZZ.out
      have z0 := froz_row R4.out 0
      have z1 := froz_row R4.out 1
      have z2 := froz_row R4.out 2
      have z3 := froz_row R4.out 3
      go_wp2_with fail
      rw [set4 R4.out]
      exact bodyPost_ret (v := .tuple #[entZ, .int .i64 80]) (res_ct Tryz.results88 _ _ w.heap.size _ _ rfl (row_setRow R4.out _) Tryz.underlying27 rfl (by kernel_rfl)) rfl (.inl ⟨HK.out, rfl, below_setRow B4.out (Nat.le_refl _) _⟩)
    · have q1 := Lib.hid hz
      have B2 := Lib.hid (onto B1.out B1.out.size hb)
      have R2 := Lib.hid (carry hb R1.out)
      have Z2 := Lib.hid (carry hb Z1.out)
      have H2 := Lib.hid (rtt_any n k2 (puO f 2) A2 f w2 hs2 hn)
      clear hz hb hs2 B1 R1 Z1
      obtain ⟨x1, hx1⟩ : ∃ x, x = puX f 1 := ⟨_, rfl⟩
      rw [← hx1]
      have X1 := Lib.hid hx1
      clear hx1
      obtain ⟨m2, hm2⟩ : ∃ m, m = n - puO f 2 := ⟨_, rfl⟩
      rw [← hm2] at H2 ⊢
      clear hm2
      go_wp2_with fail
      refine H2.out.mono ?_
      clear H2
      rintro e w3 (⟨hz, rfl, hb⟩ | ⟨hz, At, kt, A3, k3, rfl, hst, hot, hs3, -, hb⟩)
      · have HK := Lib.hid (show ¬ teK n f from fun h => hz (fi_each h.1 1 (by omega)))
        have HZ := Lib.hid hz
        have B3 := Lib.hid (onto B2.out B2.out.size hb)
        have R3 := Lib.hid (carry hb R2.out)
        have Z3 := Lib.hid (carry hb Z2.out)
        obtain ⟨Y, hY⟩ : ∃ Y, Y = ttE (n - puO f 2) 4096 (offF f (puO f 2)) := ⟨_, rfl⟩
        rw [show ((ttE (n - puO f 2) 4096 (offF f (puO f 2)) : Nat) : Int) = (Y : Int) by rw [hY]]
        have hne : ((Y : Int) != 0) = true := by have := HZ.out; rw [← hY] at this; simp; omega
        clear hz hb hY
        have H3 := Lib.hid (rtl_nil w3)
        go_wp2_with fail
        refine H3.out.mono ?_
        rintro e w4 ⟨rfl, hb⟩
        have B4 := Lib.hid (onto B3.out B3.out.size hb)
        have R4 := Lib.hid (carry hb R3.out)
        have Z4 := Lib.hid (carry hb Z3.out)
        have ZZ := Z4
        clear hb H3
        obtain ⟨c0, c1, c2, c3⟩ := cells4 R4.out
        obtain ⟨d0, d1, d2, d3⟩ := cells4 ZZ.out
        have z0 := froz_row R4.out 0
        have z1 := froz_row R4.out 1
        have z2 := froz_row R4.out 2
        have z3 := froz_row R4.out 3
        go_wp2_with fail
        rw [set4 R4.out]
        exact bodyPost_ret (v := .tuple #[entZ, .int .i64 80]) (res_ct Tryz.results88 _ _ w.heap.size _ _ rfl (row_setRow R4.out _) Tryz.underlying27 rfl (by kernel_rfl)) rfl (.inl ⟨HK.out, rfl, below_setRow B4.out (Nat.le_refl _) _⟩)
      · have q2 := Lib.hid hz
        have B3 := Lib.hid (onto B2.out B2.out.size hb)
        have R3 := Lib.hid (carry hb R2.out)
        have Z3 := Lib.hid (carry hb Z2.out)
        have hlow := row_lt R2.out
        have HT := Lib.hid (And.intro hst (hot w.heap.size hlow))
        have HNT := Lib.hid (show Nw w.heap.size (tkV (offF f (puO f 2))) At from fun k hk => hot k (by omega))
        have H3 := Lib.hid (rtakel_own (n - txO f (puO f 2)) k3 7 A3 (offF f (txO f (puO f 2))) w3 hs3 (by omega) (by omega))
        clear hz hb hs3 hst hot B2 R2 Z2
        obtain ⟨T, hT⟩ : ∃ T, T = tkV (offF f (puO f 2)) := ⟨_, rfl⟩
        rw [← hT] at HT ⊢
        have XT := Lib.hid hT
        clear hT
        obtain ⟨m3, hm3⟩ : ∃ m, m = n - txO f (puO f 2) := ⟨_, rfl⟩
        rw [← hm3] at H3 ⊢
        have HM3 := Lib.hid hm3
        clear hm3
        go_wp2_with fail
        refine H3.out.mono ?_
        clear H3
        rintro e w4 (⟨hz, rfl, hb⟩ | ⟨hz, Al, kl, v4, rfl, hsl, -, -, hb, hbl⟩)
        · have HK := Lib.hid (show ¬ teK n f from fun h => hz (by rw [HM3.out]; exact fi_each h.1 2 (by omega)))
          have HZ := Lib.hid hz
          have B4 := Lib.hid (onto B3.out B3.out.size hb)
          have R4 := Lib.hid (carry hb R3.out)
          have Z4 := Lib.hid (carry hb Z3.out)
          obtain ⟨Y, hY⟩ : ∃ Y, Y = tllE m3 7 (offF f (txO f (puO f 2))) := ⟨_, rfl⟩
          rw [show ((tllE m3 7 (offF f (txO f (puO f 2))) : Nat) : Int) = (Y : Int) by rw [hY]]
          have hne : ((Y : Int) != 0) = true := by have := HZ.out; rw [← hY] at this; simp; omega
          clear hz hb hY
          have ZZ := Z4
          obtain ⟨c0, c1, c2, c3⟩ := cells4 R4.out
          obtain ⟨d0, d1, d2, d3⟩ := cells4 ZZ.out
          have z0 := froz_row R4.out 0
          have z1 := froz_row R4.out 1
          have z2 := froz_row R4.out 2
          have z3 := froz_row R4.out 3
          go_wp2_with fail
          rw [set4 R4.out]
          exact bodyPost_ret (v := .tuple #[entZ, .int .i64 80]) (res_ct Tryz.results88 _ _ w.heap.size _ _ rfl (row_setRow R4.out _) Tryz.underlying27 rfl (by kernel_rfl)) rfl (.inl ⟨HK.out, rfl, below_setRow B4.out (Nat.le_refl _) _⟩)
        · have hz' : tllE (n - teO f 2) 7 (offF f (teO f 2)) = 0 := by have h := hz; rw [HM3.out] at h; exact h
          have HP := Lib.hid (show fiE (teS n f) 3 = 0 from fi_zero fun j hj => by
            have : j = 0 ∨ j = 1 ∨ j = 2 := by omega
            rcases this with rfl | rfl | rfl
            · exact fi_zero fun i hi => by
                have : i = 0 ∨ i = 1 := by omega
                rcases this with rfl | rfl
                · exact q0.out
                · exact q1.out
            · exact q2.out
            · exact hz')
          have B4 := Lib.hid (onto B3.out B3.out.size hb)
          have R4 := Lib.hid (carry hb R3.out)
          have Z4 := Lib.hid (carry hb Z3.out)
          have ST4 := Lib.hid ((HT.out.1.below hb).more hb.size)
          have SN4 := Lib.hid ((HS.out.below B4.out).more B4.out.size)
          have hlow := row_lt R3.out
          have HL := Lib.hid (And.intro (show SlG w4 w4.heap.size Al (teM f) kl (iV (teX f)) from hsl) (show ∀ a, Al = some a → a.block ≠ w.heap.size from fun a ha e => by
            rcases hbl with h | ⟨g, h, hg⟩
            · rw [h] at ha; cases ha
            · rw [h] at ha
              obtain rfl := Option.some.inj ha
              simp only at e
              omega))
          have HNL := Lib.hid (show ∀ a, Al = some a → w.heap.size ≤ a.block from fun a ha => by
            rcases hbl with h | ⟨g, h, hg⟩
            · rw [h] at ha; cases ha
            · rw [h] at ha
              obtain rfl := Option.some.inj ha
              simp only
              omega)
          clear hz hz' hb hsl hbl B3 R3 Z3
          obtain ⟨U, hU⟩ : ∃ U, U = teM f := ⟨_, rfl⟩
          rw [show tkV (offF f (txO f (puO f 2))) = U from hU.symm]
          rw [← hU] at HL
          have XU := Lib.hid hU
          clear hU
          obtain ⟨c0, c1, c2, c3⟩ := cells4 R4.out
          obtain ⟨d0, d1, d2, d3⟩ := cells4 Z4.out
          go_wp2_with fail
          have bx := (Below.refl w4.heap.size w4).alloc (Nat.le_refl _) (.cells #[.int .i64 (x0 : Int), .int .i64 (x1 : Int), .slice At T kt, .slice Al U kl] 27)
          have hz5 : w4.heap.size ≤ (w4.alloc (.cells #[.int .i64 (x0 : Int), .int .i64 (x1 : Int), .slice At T kt, .slice Al U kl] 27)).heap.size := by simp
          have r5 : row (w4.alloc (.cells #[.int .i64 (x0 : Int), .int .i64 (x1 : Int), .slice At T kt, .slice Al U kl] 27)) w4.heap.size = some #[.int .i64 (x0 : Int), .int .i64 (x1 : Int), .slice At T kt, .slice Al U kl] := row_alloc_at _ _ _ _ rfl
          have B5 := Lib.hid (onto B4.out B4.out.size bx)
          have R5 := Lib.hid (carry bx R4.out)
          have Z5 := Lib.hid (carry bx Z4.out)
          have ST5 := Lib.hid ((ST4.out.below bx).more hz5)
          have SN5 := Lib.hid ((SN4.out.below bx).more hz5)
          have HL5 := Lib.hid ((HL.out.1.below bx).more hz5)
          obtain ⟨w5, hw5⟩ : ∃ w5, w5 = w4.alloc (.cells #[.int .i64 (x0 : Int), .int .i64 (x1 : Int), .slice At T kt, .slice Al U kl] 27) := ⟨_, rfl⟩
          rw [← hw5] at r5 B5 R5 Z5 ST5 SN5 HL5 ⊢
          have X5 := Lib.hid r5
          have hx0b : x0 < 9223372036854775808 := by rw [X0.out]; exact puX_lt (fi_each HP.out 0 (by omega)) (by omega)
          have hx1b : x1 < 9223372036854775808 := by rw [X1.out]; exact puX_lt (fi_each HP.out 0 (by omega)) (by omega)
          have hq2 : tllE (n - teO f 2) 7 (offF f (teO f 2)) = 0 := fi_each HP.out 2 (by omega)
          have H5 := Lib.hid (rentry_any (x0 : Int) (x1 : Int) (teX f) T U kt kl At Al (teF f) w5 ST5.out HL5.out
            (fun j => by unfold th2; split <;> omega)
            (fun i hi => by
              have := tlX_lt _ (tll_ok hq2).2.2 i (by rw [XU.out] at hi; exact hi)
              show _ ≤ ((tlX (offF f (teO f 2)) i : Nat) : Int) ∧ ((tlX (offF f (teO f 2)) i : Nat) : Int) < _
              omega)
            (by have := tll_le hq2 (by omega); rw [XU.out]; show tkV (offF f (teO f 2)) ≤ _; omega))
          clear hw5 bx hz5 r5 B4 R4 Z4 ST4 SN4 c0 c1 c2 c3 d0 d1 d2 d3 hx0b hx1b hq2
          refine H5.out.mono ?_
          clear H5
          rintro e w6 (⟨hz, rfl, hb⟩ | ⟨hz, v6, rfl, ho, hb⟩)
          · have HK := Lib.hid (show ¬ teK n f from fun h => hz (by rw [X0.out, X1.out, XT.out, XU.out]; exact h.2.2))
            have HZ := Lib.hid hz
            have B6 := Lib.hid (onto B5.out B5.out.size hb)
            have R6 := Lib.hid (carry hb R5.out)
            have Z6 := Lib.hid (carry hb Z5.out)
            obtain ⟨Y, hY⟩ : ∃ Y, Y = enE (x0 : Int) (x1 : Int) (teX f) T U := ⟨_, rfl⟩
            rw [show ((enE (x0 : Int) (x1 : Int) (teX f) T U : Nat) : Int) = (Y : Int) by rw [hY]]
            have hne : ((Y : Int) != 0) = true := by have := HZ.out; rw [← hY] at this; simp; omega
            clear hz hb hY
            have ZZ := Z6
            obtain ⟨c0, c1, c2, c3⟩ := cells4 R6.out
            obtain ⟨d0, d1, d2, d3⟩ := cells4 ZZ.out
            have z0 := froz_row R6.out 0
            have z1 := froz_row R6.out 1
            have z2 := froz_row R6.out 2
            have z3 := froz_row R6.out 3
            go_wp2_with fail
            rw [set4 R6.out]
            exact bodyPost_ret (v := .tuple #[entZ, .int .i64 80]) (res_ct Tryz.results88 _ _ w.heap.size _ _ rfl (row_setRow R6.out _) Tryz.underlying27 rfl (by kernel_rfl)) rfl (.inl ⟨HK.out, rfl, below_setRow B6.out (Nat.le_refl _) _⟩)
          · have HE := Lib.hid (show enE (puX f 0 : Nat) (puX f 1 : Nat) (teX f) (teT f) (teM f) = 0 by rw [X0.out, X1.out, XT.out, XU.out] at hz; exact hz)
            have B6 := Lib.hid (onto B5.out B5.out.size hb)
            have R6 := Lib.hid (carry hb R5.out)
            have Z6 := Lib.hid (carry hb Z5.out)
            have X6 := Lib.hid (carry hb X5.out)
            have ST6 := Lib.hid ((ST5.out.below hb).more hb.size)
            have SN6 := Lib.hid ((SN5.out.below hb).more hb.size)
            have HL6 := Lib.hid ((HL5.out.below hb).more hb.size)
            obtain ⟨e1, e2, e3⟩ := once_ent HP.out
            have ho2 : Own w6 w5.heap.size 5 v6 (teO f 3) f := by
              rw [X0.out, X1.out, XT.out, XU.out, show tkV (offF f (puO f 2)) = teT f from rfl, e1] at ho
              exact ho.congr e2
            have cv1 := conv_own ho2
            have cv2 := conv_sl SN6.out
            clear hz ho hb B5 R5 Z5 X5 ST5 SN5 HL5 e1 e2 ho2
            obtain ⟨SX, hSX⟩ : ∃ SX, SX = strOf (teO f 3) f := ⟨_, rfl⟩
            rw [← hSX] at cv1
            have HSX := Lib.hid hSX
            clear hSX
            by_cases hr : teO f 3 = n
            · have HK := Lib.hid (show teK n f from ⟨HP.out, by omega, HE.out⟩)
              rw [show strOf n f = SX by rw [HSX.out, hr]] at cv2
              clear hr e3
              obtain ⟨c0, c1, c2, c3⟩ := cells4 R6.out
              obtain ⟨d0, d1, d2, d3⟩ := cells4 X6.out
              have z0 := froz_row R6.out 0
              have z1 := froz_row R6.out 1
              have z2 := froz_row R6.out 2
              have z3 := froz_row R6.out 3
              go_wp2_with fail
              rw [set4 R6.out]
              have hp : Put w.heap.size #[.int .i64 (x0 : Int), .int .i64 (x1 : Int), .slice At T kt, .slice Al U kl] w6 (w6.setRow w.heap.size #[.int .i64 (x0 : Int), .int .i64 (x1 : Int), .slice At T kt, .slice Al U kl]) := Put.of (Below.refl _ _) (row_lt R6.out) _
              refine bodyPost_ret (v := .tuple #[entV (x0 : Int) (x1 : Int) (.slice At T kt) (.slice Al U kl), .int .i64 0]) (res_ct Tryz.results88 _ _ w.heap.size _ _ rfl (row_setRow R6.out _) Tryz.underlying27 rfl (by kernel_rfl)) rfl (.inr ⟨HK.out, At, kt, Al, kl, by rw [X0.out, X1.out, XT.out, XU.out]; rfl, ?_, ?_, below_setRow B6.out (Nat.le_refl _) _, HNT.out, HNL.out⟩)
              · have h := (hp.sl ST6.out (Nat.le_refl _) HT.out.2).more hp.size
                rw [XT.out] at h ⊢
                exact h
              · have h := (hp.slG HL6.out (Nat.le_refl _) HL.out.2).more hp.size
                rw [XU.out] at h ⊢
                exact h
            · have HK := Lib.hid (show ¬ teK n f from fun h => hr (by have := h.2.1; omega))
              obtain ⟨SY, hSY⟩ : ∃ SY, SY = strOf n f := ⟨_, rfl⟩
              rw [← hSY] at cv2
              have hne : (SX.toList == SY.toList) = false := by rw [HSX.out, hSY]; exact str_nelN hr
              clear hr e3 hSY
              have ZZ := Z6
              obtain ⟨c0, c1, c2, c3⟩ := cells4 R6.out
              obtain ⟨d0, d1, d2, d3⟩ := cells4 ZZ.out
              have z0 := froz_row R6.out 0
              have z1 := froz_row R6.out 1
              have z2 := froz_row R6.out 2
              have z3 := froz_row R6.out 3
              go_wp2_with fail
              rw [set4 R6.out]
              exact bodyPost_ret (v := .tuple #[entZ, .int .i64 80]) (res_ct Tryz.results88 _ _ w.heap.size _ _ rfl (row_setRow R6.out _) Tryz.underlying27 rfl (by kernel_rfl)) rfl (.inl ⟨HK.out, rfl, below_setRow B6.out (Nat.le_refl _) _⟩)
end Go.Proofs.YtdfcldomjjcidaaGreatDoor.Oct
