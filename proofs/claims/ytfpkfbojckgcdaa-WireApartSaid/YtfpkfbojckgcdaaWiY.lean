/- Contracts: the reference's TakeReply. -/
import Derived.Test.YtfpkfbojckgcdaaWiX
import Derived.Test.YtfpkfbojckgcdaaWiT
namespace Go.Proofs.Ytfpkfbojckgcdaa.Oct
open Go.ChangeShapes Go.WideShapes Go.ChangeAt Go.RowKit
set_option linter.unusedVariables false

/-- the j-th number that the reference takes -/
def rtkP (n : Nat) (f : Bf) (j : Nat) (w : World) (e : Ending) (w' : World) : Prop :=
  (puS n f j ≠ 0 ∧ e = .returned (.tuple #[.int .i64 0, .slice none 0 0, .int .i64 (puS n f j : Nat)]) ∧ Below w.heap.size w w') ∨
  (puS n f j = 0 ∧ ∃ A' c', e = .returned (.tuple #[.int .i64 (puX f j : Nat), .slice A' (n - puO f (j + 1)) c', .int .i64 0]) ∧ Sl w' w'.heap.size A' (n - puO f (j + 1)) c' (offF f (puO f (j + 1))) ∧ Below w.heap.size w w')
theorem rtk_any (j n c : Nat) (A : Option Addr) (f : Bf) (w : World) (hs : Sl w w.heap.size A (n - puO f j) c (offF f (puO f j))) (hn : n ≤ 140737488355328) :
    Calls Try.prog 36 #[.slice A (n - puO f j) c] w (rtkP n f j w) := by
  refine (rtake_num (n - puO f j) c A (offF f (puO f j)) w hs (by omega)).mono ?_
  rintro e w' (⟨h1, h2, h3⟩ | ⟨h1, v, h2, h3, h4⟩)
  · exact .inl ⟨h1, h2, h3⟩
  · rw [offF_offF, Nat.sub_sub] at h3
    obtain ⟨A', c', rfl, hs', -, -⟩ := h3.sl
    exact .inr ⟨h1, A', c', h2, hs', h4⟩
/-- a text at o that the reference takes -/
def rttP (n : Nat) (f : Bf) (o : Nat) (w : World) (e : Ending) (w' : World) : Prop :=
  (ttE (n - o) 4096 (offF f o) ≠ 0 ∧ e = .returned (.tuple #[.slice none 0 0, .slice none 0 0, .int .i64 (ttE (n - o) 4096 (offF f o) : Nat)]) ∧ Below w.heap.size w w') ∨
  (ttE (n - o) 4096 (offF f o) = 0 ∧ ∃ A c A' c', e = .returned (.tuple #[.slice A (tkV (offF f o)) c, .slice A' (n - txO f o) c', .int .i64 0]) ∧ Sl w' w'.heap.size A (tkV (offF f o)) c (offF f (o + tkL (offF f o))) ∧ (∀ k, k < w.heap.size → Off k (tkV (offF f o)) A) ∧ Sl w' w'.heap.size A' (n - txO f o) c' (offF f (txO f o)) ∧ (∀ k, k < w.heap.size → Off k (n - txO f o) A') ∧ Below w.heap.size w w')
theorem rtt_any (n c o : Nat) (A : Option Addr) (f : Bf) (w : World) (hs : Sl w w.heap.size A (n - o) c (offF f o)) (hn : n ≤ 140737488355328) :
    Calls Try.prog 37 #[.slice A (n - o) c, .int .i64 4096] w (rttP n f o w) := by
  refine (rtaket_any (n - o) c 4096 A (offF f o) w hs (by omega)).mono ?_
  rintro e w' (⟨h1, h2, h3⟩ | ⟨h1, u, v, h2, h3, h5, h4⟩)
  · exact .inl ⟨h1, h2, h3⟩
  · rw [offF_offF] at h3
    rw [offF_offF, Nat.sub_sub, Nat.sub_sub, show o + (tkL (offF f o) + tkV (offF f o)) = txO f o from rfl] at h5
    obtain ⟨A', c', rfl, hs', -, -⟩ := h3.sl
    obtain ⟨A2, c2, rfl, hs2, -, -⟩ := h5.sl
    exact .inr ⟨h1, A', c', A2, c2, h2, hs', fun k hk => off_own h3 hk, hs2, fun k hk => off_own h5 hk, h4⟩
set_option maxRecDepth 20000 in
set_option maxHeartbeats 8000000 in
theorem rtakerep_any (n c : Nat) (A : Option Addr) (f : Bf) (w : World) (hs : Sl w w.heap.size A n c f) (hn : n ≤ 140737488355328) :
    Calls Try.prog 21 #[.slice A n c] w (trP n f w) := by
  obtain ⟨w0, hw0⟩ : ∃ w0, w0 = (w.alloc (.cells #[.int .i64 0, .int .i64 0, .int .i64 0, .slice none 0 0] 35)).alloc (.cells #[.int .i64 0, .int .i64 0, .int .i64 0, .slice none 0 0] 35) := ⟨_, rfl⟩
  have B0 := Lib.hid (show Below w.heap.size w w0 by rw [hw0]; exact ((Below.refl _ _).alloc (by simp) _).alloc (by simp) _)
  have R0 := Lib.hid (show row w0 w.heap.size = some #[.int .i64 0, .int .i64 0, .int .i64 0, .slice none 0 0] by rw [hw0]; exact row_alloc (row_alloc_at _ _ _ _ rfl) _)
  have Z0 := Lib.hid (show row w0 (w.heap.size + 1) = some #[.int .i64 0, .int .i64 0, .int .i64 0, .slice none 0 0] by rw [hw0]; exact row_alloc_at _ _ _ _ (by simp))
  have hs0 : Sl w0 w0.heap.size A (n - puO f 0) c (offF f (puO f 0)) := by
    rw [show puO f 0 = 0 from rfl, Nat.sub_zero, offF_zero]
    exact (hs.below B0.out).more B0.out.size
  have H0 := Lib.hid (rtk_any 0 n c A f w0 hs0 hn)
  rw [show n - puO f 0 = n from Nat.sub_zero n] at H0
  clear hs hs0
  go_enter Try.func21, Try.ntmps21
  go_wp2_with fail
  rw [← hw0]
  clear hw0
  refine H0.out.mono ?_
  clear H0
  rintro e w1 (⟨hz, rfl, hb⟩ | ⟨hz, A1, k1, rfl, hs1, hb⟩)
  · have HE := Lib.hid (show trE n f = puS n f 0 from by
        show fiE (trS n f) 2 = _
        have e1 : puE n f 3 = puS n f 0 := fi_first (rfl) (by omega) hz
        rw [← e1]
        exact fi_first (E := trS n f) (j := 0) rfl (by omega) (by show puE n f 3 ≠ 0; rw [e1]; exact hz))
    have HZ := Lib.hid hz
    have B1 := Lib.hid (onto B0.out B0.out.size hb)
    have R1 := Lib.hid (carry hb R0.out)
    have ZZ := carry hb Z0.out
    obtain ⟨Y, hY⟩ : ∃ Y, Y = puS n f 0 := ⟨_, rfl⟩
    rw [show ((puS n f 0 : Nat) : Int) = (Y : Int) by rw [hY]]
    have hne : ((Y : Int) != 0) = true := by have := HZ.out; rw [← hY] at this; simp; omega
    have HY := Lib.hid hY
    clear hz hb hY
    obtain ⟨c0, c1, c2, c3⟩ := cells4 R1.out
    obtain ⟨d0, d1, d2, d3⟩ := cells4 ZZ
    have z0 := froz_row R1.out 0
    have z1 := froz_row R1.out 1
    have z2 := froz_row R1.out 2
    have z3 := froz_row R1.out 3
    clear ZZ
    go_wp2_with fail
    rw [set4 R1.out]
    exact bodyPost_ret (v := .tuple #[repZ, .slice none 0 0, .int .i64 Y]) (res_ctt Try.results21 _ _ w.heap.size _ _ rfl (row_setRow R1.out _) Try.underlying35 rfl (by kernel_rfl)) rfl (.inl ⟨by rw [HE.out]; exact HZ.out, by rw [HE.out, HY.out], below_setRow B1.out (Nat.le_refl _) _⟩)
  · have q0 := Lib.hid hz
    have B1 := Lib.hid (onto B0.out B0.out.size hb)
    have R1 := Lib.hid (carry hb R0.out)
    have Z1 := Lib.hid (carry hb Z0.out)
    have H1 := Lib.hid (rtk_any 1 n k1 A1 f w1 hs1 hn)
    clear hz hb hs1 B0 R0 Z0
    obtain ⟨x0, hx0⟩ : ∃ x, x = puX f 0 := ⟨_, rfl⟩
    rw [← hx0]
    have X0 := Lib.hid hx0
    clear hx0
    obtain ⟨m1, hm1⟩ : ∃ m, m = n - puO f 1 := ⟨_, rfl⟩
    rw [← hm1] at H1 ⊢
    clear hm1
    go_wp2_with fail
    refine H1.out.mono ?_
    clear H1
    rintro e w2 (⟨hz, rfl, hb⟩ | ⟨hz, A2, k2, rfl, hs2, hb⟩)
    · have HE := Lib.hid (show trE n f = puS n f 1 from by
          show fiE (trS n f) 2 = _
          have e1 : puE n f 3 = puS n f 1 := fi_first (fi_zero fun i hi => by
            have : i = 0 := by omega
            rcases this with rfl
            · exact q0.out) (by omega) hz
          rw [← e1]
          exact fi_first (E := trS n f) (j := 0) rfl (by omega) (by show puE n f 3 ≠ 0; rw [e1]; exact hz))
      have HZ := Lib.hid hz
      have B2 := Lib.hid (onto B1.out B1.out.size hb)
      have R2 := Lib.hid (carry hb R1.out)
      have ZZ := carry hb Z1.out
      obtain ⟨Y, hY⟩ : ∃ Y, Y = puS n f 1 := ⟨_, rfl⟩
      rw [show ((puS n f 1 : Nat) : Int) = (Y : Int) by rw [hY]]
      have hne : ((Y : Int) != 0) = true := by have := HZ.out; rw [← hY] at this; simp; omega
      have HY := Lib.hid hY
      clear hz hb hY
      obtain ⟨c0, c1, c2, c3⟩ := cells4 R2.out
      obtain ⟨d0, d1, d2, d3⟩ := cells4 ZZ
      have z0 := froz_row R2.out 0
      have z1 := froz_row R2.out 1
      have z2 := froz_row R2.out 2
      have z3 := froz_row R2.out 3
      clear ZZ
      go_wp2_with fail
      rw [set4 R2.out]
      exact bodyPost_ret (v := .tuple #[repZ, .slice none 0 0, .int .i64 Y]) (res_ctt Try.results21 _ _ w.heap.size _ _ rfl (row_setRow R2.out _) Try.underlying35 rfl (by kernel_rfl)) rfl (.inl ⟨by rw [HE.out]; exact HZ.out, by rw [HE.out, HY.out], below_setRow B2.out (Nat.le_refl _) _⟩)
    · have q1 := Lib.hid hz
      have B2 := Lib.hid (onto B1.out B1.out.size hb)
      have R2 := Lib.hid (carry hb R1.out)
      have Z2 := Lib.hid (carry hb Z1.out)
      have H2 := Lib.hid (rtk_any 2 n k2 A2 f w2 hs2 hn)
      clear hz hb hs2 B1 R1 Z1
      obtain ⟨x1, hx1⟩ : ∃ x, x = puX f 1 := ⟨_, rfl⟩
      rw [← hx1]
      have X1 := Lib.hid hx1
      clear hx1
      obtain ⟨m2, hm2⟩ : ∃ m, m = n - puO f 2 := ⟨_, rfl⟩
      rw [← hm2] at H2 ⊢
      clear hm2
      go_wp2_with fail
      refine H2.out.mono ?_
      clear H2
      rintro e w3 (⟨hz, rfl, hb⟩ | ⟨hz, A3, k3, rfl, hs3, hb⟩)
      · have HE := Lib.hid (show trE n f = puS n f 2 from by
            show fiE (trS n f) 2 = _
            have e1 : puE n f 3 = puS n f 2 := fi_first (fi_zero fun i hi => by
              have : i = 0 ∨ i = 1 := by omega
              rcases this with rfl | rfl
              · exact q0.out
              · exact q1.out) (by omega) hz
            rw [← e1]
            exact fi_first (E := trS n f) (j := 0) rfl (by omega) (by show puE n f 3 ≠ 0; rw [e1]; exact hz))
        have HZ := Lib.hid hz
        have B3 := Lib.hid (onto B2.out B2.out.size hb)
        have R3 := Lib.hid (carry hb R2.out)
        have ZZ := carry hb Z2.out
        obtain ⟨Y, hY⟩ : ∃ Y, Y = puS n f 2 := ⟨_, rfl⟩
        rw [show ((puS n f 2 : Nat) : Int) = (Y : Int) by rw [hY]]
        have hne : ((Y : Int) != 0) = true := by have := HZ.out; rw [← hY] at this; simp; omega
        have HY := Lib.hid hY
        clear hz hb hY
        obtain ⟨c0, c1, c2, c3⟩ := cells4 R3.out
        obtain ⟨d0, d1, d2, d3⟩ := cells4 ZZ
        have z0 := froz_row R3.out 0
        have z1 := froz_row R3.out 1
        have z2 := froz_row R3.out 2
        have z3 := froz_row R3.out 3
        clear ZZ
        go_wp2_with fail
        rw [set4 R3.out]
        exact bodyPost_ret (v := .tuple #[repZ, .slice none 0 0, .int .i64 Y]) (res_ctt Try.results21 _ _ w.heap.size _ _ rfl (row_setRow R3.out _) Try.underlying35 rfl (by kernel_rfl)) rfl (.inl ⟨by rw [HE.out]; exact HZ.out, by rw [HE.out, HY.out], below_setRow B3.out (Nat.le_refl _) _⟩)
      · have q2 := Lib.hid hz
        have B3 := Lib.hid (onto B2.out B2.out.size hb)
        have R3 := Lib.hid (carry hb R2.out)
        have Z3 := Lib.hid (carry hb Z2.out)
        have H3 := Lib.hid (rtt_any n k3 (puO f 3) A3 f w3 hs3 hn)
        have Q := Lib.hid (show puE n f 3 = 0 from fi_zero fun i hi => by
          have : i = 0 ∨ i = 1 ∨ i = 2 := by omega
          rcases this with rfl | rfl | rfl
          · exact q0.out
          · exact q1.out
          · exact q2.out)
        clear hz hb hs3 B2 R2 Z2
        obtain ⟨x2, hx2⟩ : ∃ x, x = puX f 2 := ⟨_, rfl⟩
        rw [← hx2]
        have X2 := Lib.hid hx2
        clear hx2
        obtain ⟨m3, hm3⟩ : ∃ m, m = n - puO f 3 := ⟨_, rfl⟩
        rw [← hm3] at H3 ⊢
        clear hm3
        go_wp2_with fail
        refine H3.out.mono ?_
        clear H3
        rintro e w4 (⟨hz, rfl, hb⟩ | ⟨hz, At, kt, A4, k4, rfl, hst, hot, hs4, hos, hb⟩)
        · have HE := Lib.hid (show trE n f = ttE (n - puO f 3) 4096 (offF f (puO f 3)) from by
              show fiE (trS n f) 2 = _
              exact fi_first (E := trS n f) (j := 1) ((fi_step (E := trS n f) (j := 0) rfl).trans Q.out) (by omega) hz)
          have HZ := Lib.hid hz
          have B4 := Lib.hid (onto B3.out B3.out.size hb)
          have R4 := Lib.hid (carry hb R3.out)
          have ZZ := carry hb Z3.out
          obtain ⟨Y, hY⟩ : ∃ Y, Y = ttE (n - puO f 3) 4096 (offF f (puO f 3)) := ⟨_, rfl⟩
          rw [show ((ttE (n - puO f 3) 4096 (offF f (puO f 3)) : Nat) : Int) = (Y : Int) by rw [hY]]
          have hne : ((Y : Int) != 0) = true := by have := HZ.out; rw [← hY] at this; simp; omega
          have HY := Lib.hid hY
          clear hz hb hY
          obtain ⟨c0, c1, c2, c3⟩ := cells4 R4.out
          obtain ⟨d0, d1, d2, d3⟩ := cells4 ZZ
          have z0 := froz_row R4.out 0
          have z1 := froz_row R4.out 1
          have z2 := froz_row R4.out 2
          have z3 := froz_row R4.out 3
          clear ZZ
          go_wp2_with fail
          rw [set4 R4.out]
          exact bodyPost_ret (v := .tuple #[repZ, .slice none 0 0, .int .i64 Y]) (res_ctt Try.results21 _ _ w.heap.size _ _ rfl (row_setRow R4.out _) Try.underlying35 rfl (by kernel_rfl)) rfl (.inl ⟨by rw [HE.out]; exact HZ.out, by rw [HE.out, HY.out], below_setRow B4.out (Nat.le_refl _) _⟩)
        · have HE := Lib.hid (show trE n f = 0 from (fi_step (E := trS n f) (j := 1) ((fi_step (E := trS n f) (j := 0) rfl).trans Q.out)).trans hz)
          have B4 := Lib.hid (onto B3.out B3.out.size hb)
          have R4 := Lib.hid (carry hb R3.out)
          have hb3 := B3.out.size
          have hl3 := row_lt R3.out
          have HT := Lib.hid (And.intro hst (hot w.heap.size hl3))
          have HS := Lib.hid (And.intro hs4 (hos w.heap.size hl3))
          clear hz hb hst hot hs4 hos B3 R3 Z3 hb3 hl3
          obtain ⟨c0, c1, c2, c3⟩ := cells4 R4.out
          have z0 := froz_row R4.out 0
          have z1 := froz_row R4.out 1
          have z2 := froz_row R4.out 2
          have z3 := froz_row R4.out 3
          obtain ⟨T, hT⟩ : ∃ T, T = tkV (offF f (puO f 3)) := ⟨_, rfl⟩
          obtain ⟨M, hM⟩ : ∃ M, M = n - txO f (puO f 3) := ⟨_, rfl⟩
          rw [← hT, ← hM]
          have HX := Lib.hid (And.intro hT hM)
          clear hT hM
          go_wp2_with fail
          rw [set4 R4.out]
          have hp : Put w.heap.size #[.int .i64 (x0 : Int), .int .i64 (x1 : Int), .int .i64 (x2 : Int), .slice At T kt] w4 (w4.setRow w.heap.size #[.int .i64 (x0 : Int), .int .i64 (x1 : Int), .int .i64 (x2 : Int), .slice At T kt]) := Put.of (Below.refl _ _) (row_lt R4.out) _
          refine bodyPost_ret (v := .tuple #[repV (x0 : Int) (x1 : Int) (x2 : Int) (.slice At T kt), .slice A4 M k4, .int .i64 0]) (res_ctt Try.results21 _ _ w.heap.size _ _ rfl (row_setRow R4.out _) Try.underlying35 rfl (by kernel_rfl)) rfl (.inr ⟨HE.out, At, kt, A4, k4, by rw [X0.out, X1.out, X2.out, HX.out.1, HX.out.2]; rfl, ?_, ?_, below_setRow B4.out (Nat.le_refl _) _⟩)
          · exact (hp.sl HT.out.1 (Nat.le_refl _) HT.out.2).more hp.size
          · exact (hp.sl HS.out.1 (Nat.le_refl _) HS.out.2).more hp.size
end Go.Proofs.Ytfpkfbojckgcdaa.Oct
