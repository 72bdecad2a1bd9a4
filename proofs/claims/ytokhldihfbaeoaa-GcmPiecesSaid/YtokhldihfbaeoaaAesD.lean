/- Contract of aes.Expand: the key schedule. -/
import Derived.Test.YtokhldihfbaeoaaAesC
namespace Go.Proofs.Ytokhldihfbaeoaa.Oct
open Go.ChangeShapes Go.WideShapes Go.ChangeAt Go.RowKit

def z8 : Bf := fun _ => 0#8
/-- what is known of the world in Expand's second loop: m words are there -/
structure ExInv (w : World) (k : Bf) (m : Nat) (wr : World) : Prop where
  below : Below w.heap.size w wr
  size : w.heap.size + 3 ≤ wr.heap.size
  r1 : row wr (w.heap.size + 1) = some (ba 240 fun _ => 0#8)
  r2 : row wr (w.heap.size + 1 + 1) = some (ba 240 (upto (4 * m) (expF k) fun _ => 0#8))

/-- .. and of the block b of the word t on the way -/
structure ExT (w : World) (k : Bf) (m b : Nat) (t : Bf) (wr : World) : Prop where
  inv : ExInv w k m wr
  hb : w.heap.size + 3 ≤ b
  rt : row wr b = some (ba 4 t)
theorem ExT.start {w : World} {k : Bf} {m : Nat} {wr : World} (h : ExInv w k m wr) (t : Bf) (ty : TypeId) : ExT w k m wr.heap.size t (wr.alloc (.cells (ba 4 t) ty)) :=
  ⟨⟨h.below.alloc (by have := h.size; omega) _, by have := h.size; simp; omega, row_alloc h.r1 _, row_alloc h.r2 _⟩, h.size, by simp [go_sem]⟩
theorem ExInv.call {w : World} {k : Bf} {m : Nat} {wr w' : World} (h : ExInv w k m wr) (hb : Below wr.heap.size wr w') : ExInv w k m w' :=
  ⟨onto h.below (by have := h.size; omega) hb, Nat.le_trans h.size hb.size, carry hb h.r1, carry hb h.r2⟩
theorem ExT.call {w : World} {k : Bf} {m b : Nat} {t : Bf} {wr w' : World} (h : ExT w k m b t wr) (hb : Below wr.heap.size wr w') : ExT w k m b t w' := ⟨h.inv.call hb, h.hb, carry hb h.rt⟩
theorem ExT.drewN {w : World} {k : Bf} {m b : Nat} {t : Bf} {wr : World} (h : ExT w k m b t wr) (n : Nat) : ExT w k m b t (wr.drewN n) :=
  ⟨⟨below_drewN h.inv.below n, h.inv.size, by rw [row_drewN]; exact h.inv.r1, by rw [row_drewN]; exact h.inv.r2⟩, h.hb, by rw [row_drewN]; exact h.rt⟩
theorem ExT.put {w : World} {k : Bf} {m b : Nat} {t : Bf} {wr : World} (h : ExT w k m b t wr) (t' : Bf) : ExT w k m b t' (wr.setRow b (ba 4 t')) :=
  ⟨⟨below_setRow h.inv.below (by have := h.hb; omega) _, by simpa using h.inv.size, by rw [row_setRow_other _ _ _ _ (by have := h.hb; omega)]; exact h.inv.r1, by rw [row_setRow_other _ _ _ _ (by have := h.hb; omega)]; exact h.inv.r2⟩, h.hb, row_setRow h.rt _⟩
theorem ExT.set {w : World} {k : Bf} {m b : Nat} {t : Bf} {wr : World} (h : ExT w k m b t wr) (i : Nat) (v : BitVec 8) : ExT w k m b (upd t i v) (wr.setCell ⟨b, i, none⟩ (.int .u8 (I v))) := by
  rw [setCell_row h.rt, ba_set]
  exact h.put _
theorem ExT.done {w : World} {k : Bf} {m b : Nat} {t : Bf} {wr : World} (h : ExT w k m b t wr) (g : Bf) (hg : ∀ j, j < 4 → g j = expF k (4 * m + j)) :
    ExInv w k (m + 1) (wr.setRow (w.heap.size + 1 + 1) (ba 240 (putF (upto (4 * m) (expF k) fun _ => 0#8) (m * 4) 4 g))) := by
  refine ⟨below_setRow h.inv.below (by omega) _, by simpa using h.inv.size, by rw [row_setRow_other _ _ _ _ (by omega)]; exact h.inv.r1, ?_⟩
  rw [row_setRow h.inv.r2]
  refine congrArg some (ba_ext fun p hp => ?_)
  unfold putF upto
  by_cases h1 : m * 4 ≤ p ∧ p < m * 4 + 4
  · rw [if_pos h1, if_pos (by omega), hg _ (by omega)]
    congr 1; omega
  · rw [if_neg h1]
    by_cases h2 : p < 4 * m
    · rw [if_pos h2, if_pos (by omega)]
    · rw [if_neg h2, if_neg (by omega)]

theorem ahead (k : Bf) (m d j : Nat) (hd : 1 ≤ d) (hdm : d ≤ m) (hj : j < 4) : offF (upto (4 * m) (expF k) fun _ => 0#8) ((m - d) * 4) j = expF k (4 * (m - d) + j) := by
  unfold offF upto
  rw [if_pos (by omega), Nat.mul_comm]
theorem word0 (k : Bf) (m : Nat) (h8 : 8 ≤ m) (hm : m < 60) (h0 : m % 8 = 0) (j : Nat) (hj : j < 4) :
    xorF (offF (upto (4 * m) (expF k) fun _ => 0#8) ((m - 8) * 4)) (upd (subF (rotF (offF (upto (4 * m) (expF k) fun _ => 0#8) ((m - 1) * 4)))) 0 (subF (rotF (offF (upto (4 * m) (expF k) fun _ => 0#8) ((m - 1) * 4))) 0 ^^^ pwr ((m - 1) / 8))) j = expF k (4 * m + j) := by
  rw [exp_rec k m j h8 hm hj]
  unfold newW xorF
  rw [if_pos h0, ahead k m 8 j (by omega) (by omega) hj]
  congr 1
  by_cases hj0 : j = 0
  · subst hj0
    simp only [upd, if_true, subF, rotF]
    rw [ahead k m 1 _ (by omega) (by omega) (by omega), show m / 8 - 1 = (m - 1) / 8 by omega]
  · simp only [upd, hj0, if_false, subF, rotF]
    rw [ahead k m 1 _ (by omega) (by omega) (by omega), BitVec.xor_zero]
theorem word4 (k : Bf) (m : Nat) (h8 : 8 ≤ m) (hm : m < 60) (h0 : ¬ m % 8 = 0) (h4 : m % 8 = 4) (j : Nat) (hj : j < 4) :
    xorF (offF (upto (4 * m) (expF k) fun _ => 0#8) ((m - 8) * 4)) (subF (offF (upto (4 * m) (expF k) fun _ => 0#8) ((m - 1) * 4))) j = expF k (4 * m + j) := by
  rw [exp_rec k m j h8 hm hj]
  unfold newW xorF
  rw [if_neg h0, if_pos h4, ahead k m 8 j (by omega) (by omega) hj]
  simp only [subF]
  rw [ahead k m 1 _ (by omega) (by omega) (by omega)]
theorem word1 (k : Bf) (m : Nat) (h8 : 8 ≤ m) (hm : m < 60) (h0 : ¬ m % 8 = 0) (h4 : ¬ m % 8 = 4) (j : Nat) (hj : j < 4) :
    xorF (offF (upto (4 * m) (expF k) fun _ => 0#8) ((m - 8) * 4)) (offF (upto (4 * m) (expF k) fun _ => 0#8) ((m - 1) * 4)) j = expF k (4 * m + j) := by
  rw [exp_rec k m j h8 hm hj]
  unfold newW xorF
  rw [if_neg h0, if_neg h4, ahead k m 8 j (by omega) (by omega) hj, ahead k m 1 _ (by omega) (by omega) (by omega)]

set_option maxHeartbeats 4000000 in
theorem expand_any (k : Bf) (w : World) :
    Calls Try.prog 38 #[.agg (ba 32 k)] w fun e w' => e = .returned (.agg (ba 240 (expF k))) ∧ Below w.heap.size w w' := by
  go_enter Try.func38, Try.ntmps38
  go_wp2
  go_loopw [4, 5, 10] (fun _ _ i wr => ∃ c : Nat, c ≤ 32 ∧ i = .int .i64 c ∧ wr = ((w.alloc (.cells (ba 32 k) 23)).alloc (.cells (ba 240 fun _ => 0#8) 51)).alloc (.cells (ba 240 (upto c (expF k) fun _ => 0#8)) 71)) (fun _ _ i _ => 32 - (intOf i).toNat)
  case atStart =>
    refine ⟨0, by omega, rfl, ?_⟩
    rw [upto_zero]
  case round =>
    obtain ⟨c, hc, rfl, rfl⟩ := hrel
    by_cases hlt : c < 32
    · have H := Lib.hid (upto_step c (expF k) fun _ => 0#8)
      have H2 := Lib.hid (exp_key k c hlt)
      have b1 : c / 4 * 4 + c % 4 < 240 := by omega
      have E1 := Lib.hid (show c / 4 * 4 + c % 4 = c by omega)
      go_wp2
      go_roundw
      case rel => exact ⟨c + 1, by omega, by go_num, by rw [E1.out, ← H2.out, H.out]⟩
      case measure => simp [intOf]; omega
    · obtain rfl : c = 32 := by omega
      rw [show ((32 : Nat) : Int) = 32 from rfl]
      have hd32 : decide ((32 : Int) < 32) = false := by decide
      go_wp2
      clear hd32
      go_loopw [6, 7] (fun p i wr => ∃ m : Nat, 8 ≤ m ∧ m ≤ 60 ∧ i = .int .i64 m ∧ p = .int .u8 (I (pwr ((m - 1) / 8))) ∧ ExInv w k m wr) (fun _ i _ => 60 - (intOf i).toNat)
      case atStart =>
        exact ⟨8, by omega, by omega, rfl, rfl, (((Below.refl _ _).alloc (by simp) _).alloc (by simp) _).alloc (by simp; omega) _, by simp, by simp [go_sem], by simp [go_sem]⟩
      case round =>
        obtain ⟨m, h8, hm, rfl, rfl, hI⟩ := hrel
        by_cases hlt : m < 60
        · have b1 : (m - 1) * 4 + 4 ≤ 240 := by omega
          have b8 : (m - 8) * 4 + 4 ≤ 240 := by omega
          have b0 : m * 4 + 4 ≤ 240 := by omega
          obtain ⟨G, hG⟩ : ∃ G, G = upto (4 * m) (expF k) fun _ => 0#8 := ⟨_, rfl⟩
          have r2 := hI.r2
          rw [← hG] at r2
          have HI := Lib.hid hI
          have HG := Lib.hid hG
          clear hG hI
          by_cases hm0 : m % 8 = 0
          · have hd : ((m : Int) % 8 == 0) = true := by simp; omega
            have hpw : t2 (pwr ((m - 1) / 8)) = pwr ((m + 1 - 1) / 8) := by rw [show (m + 1 - 1) / 8 = (m - 1) / 8 + 1 by omega]; rfl
            have HP := Lib.hid hpw
            have HW := Lib.hid (word0 k m h8 hlt hm0)
            clear hpw
            go_wp2_with fail
            have T0 := Lib.hid (ExT.start HI.out (offF G ((m - 1) * 4)) 70)
            refine (rotW_any (offF G ((m - 1) * 4)) _).mono ?_
            rintro e w1 ⟨rfl, hb1⟩
            have T1 := Lib.hid (T0.out.call hb1)
            clear r2 hb1 T0
            go_wp2_with fail
            refine (subW_any (rotF (offF G ((m - 1) * 4))) _).mono ?_
            rintro e w2 ⟨rfl, hb2⟩
            have T2 := T1.out.call hb2
            clear hb2 T1
            have rt := T2.rt
            have T3 := T2.put (subF (rotF (offF G ((m - 1) * 4))))
            have hc := cell_row T3.rt
            have hf := froz_row T3.rt
            have H2 := Lib.hid T2
            have H3 := Lib.hid T3
            clear T2 T3
            go_wp2_with fail
            rw [setCell_row H3.out.rt, ba_set]
            refine (t2_any (pwr ((m - 1) / 8)) rfl _).mono ?_
            rintro e w' ⟨rfl, rfl⟩
            have T4 := H3.out.put (upd (subF (rotF (offF G ((m - 1) * 4)))) 0 (subF (rotF (offF G ((m - 1) * 4))) 0 ^^^ pwr ((m - 1) / 8)))
            clear hc hf rt H2
            have rt := T4.rt
            have r2 := T4.inv.r2
            rw [← HG.out] at r2
            have H4 := Lib.hid T4
            clear T4
            go_wp2_with fail
            generalize (w2.setRow wr.heap.size (ba 4 (subF (rotF (offF G ((m - 1) * 4)))))).setRow wr.heap.size (ba 4 (upd (subF (rotF (offF G ((m - 1) * 4)))) 0 (subF (rotF (offF G ((m - 1) * 4))) 0 ^^^ pwr ((m - 1) / 8)))) = w4 at H4 rt r2 ⊢
            obtain ⟨q, hq⟩ : ∃ q, q = upd (subF (rotF (offF G ((m - 1) * 4)))) 0 (subF (rotF (offF G ((m - 1) * 4))) 0 ^^^ pwr ((m - 1) / 8)) := ⟨_, rfl⟩
            have HQ := Lib.hid hq
            rw [← hq] at rt H4
            clear hq
            refine quiet_tail' 1 6 (by kernel_rfl) (by kernel_rfl) (fun _ _ _ _ _ h => h) ?_
            simp only [List.take_succ_cons, List.take_zero, List.drop_succ_cons, List.drop_zero]
            repeat (go_big_quiet_step (fail))
            refine wpQuiet_nil ?_
            rintro _ ⟨nq, rfl⟩
            go_wp2_with fail
            refine (addW_any (offF G ((m - 8) * 4)) q _).mono ?_
            rintro e w5 ⟨rfl, hb5⟩
            have T6 := (H4.out.drewN nq).call hb5
            clear hb5 rt r2 H4
            have r2 := T6.inv.r2
            rw [← HG.out] at r2
            have T7 := T6.done (xorF (offF G ((m - 8) * 4)) q) (by rw [HQ.out, HG.out]; exact HW.out)
            rw [← HG.out] at T7
            have H7 := Lib.hid T7
            clear T6 T7
            go_wp2
            go_roundw
            case rel => exact ⟨m + 1, by omega, by omega, by go_num, by rw [HP.out], H7.out⟩
            case measure => simp [intOf]; omega
          · have hpw : pwr ((m - 1) / 8) = pwr ((m + 1 - 1) / 8) := by rw [show (m + 1 - 1) / 8 = (m - 1) / 8 by omega]
            have HP := Lib.hid hpw
            clear hpw
            have hd : ((m : Int) % 8 == 0) = false := by simp; omega
            by_cases hm4 : m % 8 = 4
            · have hd4 : ((m : Int) % 8 == 4) = true := by simp; omega
              have HW := Lib.hid (word4 k m h8 hlt hm0 hm4)
              go_wp2_with fail
              have T0 := Lib.hid (ExT.start HI.out (offF G ((m - 1) * 4)) 70)
              refine (subW_any (offF G ((m - 1) * 4)) _).mono ?_
              rintro e w2 ⟨rfl, hb2⟩
              have T2 := T0.out.call hb2
              clear hb2 T0 r2
              have rt0 := T2.rt
              have T4 := T2.put (subF (offF G ((m - 1) * 4)))
              clear T2
              have rt := T4.rt
              have r2 := T4.inv.r2
              rw [← HG.out] at r2
              have H4 := Lib.hid T4
              clear T4
              go_wp2_with fail
              clear rt0
              generalize w2.setRow wr.heap.size (ba 4 (subF (offF G ((m - 1) * 4)))) = w4 at H4 rt r2 ⊢
              obtain ⟨q, hq⟩ : ∃ q, q = subF (offF G ((m - 1) * 4)) := ⟨_, rfl⟩
              have HQ := Lib.hid hq
              rw [← hq] at rt H4
              clear hq
              refine quiet_tail' 1 6 (by kernel_rfl) (by kernel_rfl) (fun _ _ _ _ _ h => h) ?_
              simp only [List.take_succ_cons, List.take_zero, List.drop_succ_cons, List.drop_zero]
              repeat (go_big_quiet_step (fail))
              refine wpQuiet_nil ?_
              rintro _ ⟨nq, rfl⟩
              go_wp2_with fail
              refine (addW_any (offF G ((m - 8) * 4)) q _).mono ?_
              rintro e w5 ⟨rfl, hb5⟩
              have T6 := (H4.out.drewN nq).call hb5
              clear hb5 rt r2 H4
              have r2 := T6.inv.r2
              rw [← HG.out] at r2
              have T7 := T6.done (xorF (offF G ((m - 8) * 4)) q) (by rw [HQ.out, HG.out]; exact HW.out)
              rw [← HG.out] at T7
              have H7 := Lib.hid T7
              clear T6 T7
              go_wp2
              go_roundw
              case rel => exact ⟨m + 1, by omega, by omega, by go_num, by rw [HP.out], H7.out⟩
              case measure => simp [intOf]; omega
            · have hd4 : ((m : Int) % 8 == 4) = false := by simp; omega
              have HW := Lib.hid (word1 k m h8 hlt hm0 hm4)
              go_wp2_with fail
              have T4 := ExT.start HI.out (offF G ((m - 1) * 4)) 70
              have rt := T4.rt
              have H4 := Lib.hid T4
              have r20 := T4.inv.r2
              rw [← HG.out] at r20
              clear T4 r2
              have r2 := r20
              clear r20
              generalize wr.alloc (.cells (ba 4 (offF G ((m - 1) * 4))) 70) = w4 at H4 rt r2 ⊢
              obtain ⟨q, hq⟩ : ∃ q, q = offF G ((m - 1) * 4) := ⟨_, rfl⟩
              have HQ := Lib.hid hq
              rw [← hq] at rt H4
              clear hq
              refine quiet_tail' 1 6 (by kernel_rfl) (by kernel_rfl) (fun _ _ _ _ _ h => h) ?_
              simp only [List.take_succ_cons, List.take_zero, List.drop_succ_cons, List.drop_zero]
              repeat (go_big_quiet_step (fail))
              refine wpQuiet_nil ?_
              rintro _ ⟨nq, rfl⟩
              go_wp2_with fail
              refine (addW_any (offF G ((m - 8) * 4)) q _).mono ?_
              rintro e w5 ⟨rfl, hb5⟩
              have T6 := (H4.out.drewN nq).call hb5
              clear hb5 rt r2 H4
              have r2 := T6.inv.r2
              rw [← HG.out] at r2
              have T7 := T6.done (xorF (offF G ((m - 8) * 4)) q) (by rw [HQ.out, HG.out]; exact HW.out)
              rw [← HG.out] at T7
              have H7 := Lib.hid T7
              clear T6 T7
              go_wp2
              go_roundw
              case rel => exact ⟨m + 1, by omega, by omega, by go_num, by rw [HP.out], H7.out⟩
              case measure => simp [intOf]; omega
        · obtain rfl : m = 60 := by omega
          obtain ⟨hb, hs, r1, r2⟩ := hI
          rw [show 4 * 60 = 240 from rfl, upto_all] at r2
          have HB := Lib.hid hb
          have H1 := Lib.hid r1
          clear hb r1
          go_wp2_with fail
          refine (blocksOf_any (expF k) _).mono ?_
          rintro e w5 ⟨rfl, hb5⟩
          have hb := Lib.hid (onto HB.out (by omega) hb5)
          have r1 := carry hb5 H1.out
          clear hb5 r2
          go_wp2
          refine bodyPost_ret (v := .agg (ba 240 (expF k))) (res_row rfl _ _ (w.heap.size + 1) _ _ _ rfl (row_setRow r1 _) bks_u (by rw [ba_size]; exact bks_i)) rfl ⟨rfl, ?_⟩
          exact below_setRow hb.out (by omega) _
end Go.Proofs.Ytokhldihfbaeoaa.Oct
