/- Contracts of mac's pieces and of mac.Sum. -/
import Derived.Test.YtjggnbncpjoooaaDoorMacMath
import Derived.Test.YtjggnbncpjoooaaDoorConcat
namespace Go.Proofs.YtjggnbncpjoooaaDoor.Oct
open Go.ChangeShapes Go.WideShapes Go.ChangeAt Go.RowKit
set_option linter.unusedVariables false

set_option maxHeartbeats 1000000 in
theorem keyBlock_any (k : Bf) (n c : Nat) (A : Option Addr) (w : World) (ht : Tab w) (hs : Sl w w.heap.size A n c k) (hn : n ≤ 140737488355328) :
    Calls Tryd.prog 27 #[.slice A n c] w fun e w' => e = .returned (.agg (ba 64 (keyF k n))) ∧ Below w.heap.size w w' := by
  have B0 := Lib.hid ((Below.refl w.heap.size w).alloc (by simp) (.cells (ba 64 fun _ => 0#8) 60))
  have q0 : row (w.alloc (.cells (ba 64 fun _ => 0#8) 60)) w.heap.size = some (ba 64 fun _ => 0#8) := by simp [go_sem]
  have HT := Lib.hid ht
  have HS := Lib.hid hs
  clear ht hs
  go_enter Tryd.func27, Tryd.ntmps27
  by_cases h64 : 64 < n
  · have hd : decide ((64 : Int) < (n : Int)) = true := by simp; omega
    go_wp2_with fail
    refine (hash_any k n c A _ (HT.out.below B0.out HT.out.pos) ((HS.out.below B0.out).more (by simp)) hn).mono ?_
    rintro e w1 ⟨rfl, hb1⟩
    have hs1 : w.heap.size + 1 ≤ w1.heap.size := by simpa using hb1.size
    have B1 := Lib.hid ((onto B0.out (by simp) hb1).alloc (by omega) (.cells (ba 32 (shaF kF iF k n)) 41))
    have q1 := row_alloc (carry hb1 q0) (.cells (ba 32 (shaF kF iF k n)) 41)
    have r1 : row (w1.alloc (.cells (ba 32 (shaF kF iF k n)) 41)) w1.heap.size = some (ba 32 (shaF kF iF k n)) := row_alloc_at _ _ _ _ rfl
    have hz : (w1.alloc (.cells (ba 32 (shaF kF iF k n)) 41)).heap.size = w1.heap.size + 1 := by simp
    have a1 := sum_sl_all w1.heap.size
    clear hb1 q0 B0 HT HS
    have HS1 := Lib.hid ((Sl.of_row r1 _ (Nat.lt_succ_self _)).below ((Below.refl _ (w1.alloc (.cells (ba 32 (shaF kF iF k n)) 41))).alloc (by simp) (.cells (ba 64 fun _ => 0#8) 60)))
    have HE := Lib.hid (show ba 64 (putF (fun _ => 0#8) 0 32 (shaF kF iF k n)) = ba 64 (keyF k n) from ba_ext fun i hi => by
      unfold putF keyF
      rw [if_pos h64]
      by_cases h : i < 32
      · rw [if_pos h, if_pos (by omega), Nat.sub_zero]
      · rw [if_neg h, if_neg (by omega)])
    have a2 := m64_sl_all (w1.heap.size + 1)
    have q2 := row_alloc q1 (.cells (ba 64 (putF (fun _ => 0#8) 0 32 (shaF kF iF k n))) 60)
    go_wp2_with (refine wpl_copy rfl (.tmp 11) (.tmp 12) 22 22 5 rfl sli_u u8_i (row_alloc_at _ _ _ _ (by simp)) HS1.out (show 32 = min 32 64 by omega) rfl rfl ?_)
    refine bodyPost_ret (v := .agg (ba 64 (putF (fun _ => 0#8) 0 32 (shaF kF iF k n)))) (res_row rfl _ _ w.heap.size _ _ _ rfl (row_setRow q2 _) m64_u (by rw [ba_size]; exact m64_i)) rfl ⟨by rw [HE.out], ?_⟩
    exact below_setRow (B1.out.alloc B1.out.size _) (by omega) _
  · have hd : decide ((64 : Int) < (n : Int)) = false := by simp; omega
    have HS1 := Lib.hid ((HS.out.below B0.out).below ((Below.refl _ (w.alloc (.cells (ba 64 fun _ => 0#8) 60))).alloc (by simp) (.cells (ba 64 fun _ => 0#8) 60)))
    have HE := Lib.hid (show ba 64 (putF (fun _ => 0#8) 0 n k) = ba 64 (keyF k n) from ba_ext fun i hi => by
      unfold putF keyF
      rw [if_neg h64]
      by_cases h : i < n
      · rw [if_pos h, if_pos (by omega), Nat.sub_zero]
      · rw [if_neg h, if_neg (by omega)])
    have a2 := m64_sl_all (w.heap.size + 1)
    have q2 := row_alloc q0 (.cells (ba 64 (putF (fun _ => 0#8) 0 n k)) 60)
    clear q0
    go_wp2_with (refine wpl_copy rfl (.tmp 11) (.tmp 12) 22 22 5 rfl sli_u u8_i (row_alloc_at _ _ _ _ (by simp)) HS1.out (show n = min n 64 by omega) rfl rfl ?_)
    refine bodyPost_ret (v := .agg (ba 64 (putF (fun _ => 0#8) 0 n k))) (res_row rfl _ _ w.heap.size _ _ _ rfl (row_alloc (row_alloc_at _ _ _ _ rfl) _) m64_u (by rw [ba_size]; exact m64_i)) rfl ⟨by rw [HE.out], ?_⟩
    exact ((Below.refl w.heap.size w).alloc (by simp) _).alloc (by simp) _

set_option maxHeartbeats 1000000 in
theorem masked_any (f : Bf) (v : BitVec 8) (w : World) :
    Calls Tryd.prog 29 #[.agg (ba 64 f), .int .u8 (I v)] w fun e w' => e = .returned (.agg (ba 64 (mskF f v))) ∧ Below w.heap.size w w' := by
  have B0 := Lib.hid (((Below.refl w.heap.size w).alloc (by simp) (.cells (ba 64 f) 60)).alloc (by simp) (.cells (ba 64 fun _ => 0#8) 60))
  go_enter Tryd.func29, Tryd.ntmps29
  go_wp2_with fail
  go_loopw [5, 6] (fun _ iv wr => ∃ k : Nat, k ≤ 64 ∧ iv = .int .i64 k ∧ wr = (w.alloc (.cells (ba 64 (upto k (mskF f v) f)) 60)).alloc (.cells (ba 64 fun _ => 0#8) 60)) (fun _ iv _ => 64 - (intOf iv).toNat)
  case atStart => exact ⟨0, by omega, rfl, by rw [upto_zero]⟩
  case round =>
    obtain ⟨k, hk, rfl, rfl⟩ := hrel
    by_cases hlk : k < 64
    · have hd : decide ((k : Int) < 64) = true := by simp; omega
      have HST := Lib.hid (show upd (upto k (mskF f v) f) k (f k ^^^ v) = upto (k + 1) (mskF f v) f by rw [← upto_step]; rfl)
      go_wp2_with fail
      go_roundw
      case rel => exact ⟨k + 1, by omega, by go_num, by rw [HST.out]⟩
      case measure => simp [intOf]; omega
    · obtain rfl : k = 64 := by omega
      rw [upto_all]
      go_wp2_with fail
      refine bodyPost_ret (v := .agg (ba 64 (mskF f v))) (res_row rfl _ _ (w.heap.size + 1) _ _ _ rfl (row_alloc_at _ _ _ _ (by simp)) m64_u (by rw [ba_size]; exact m64_i)) rfl ⟨rfl, ?_⟩
      exact ((Below.refl w.heap.size w).alloc (by simp) _).alloc (by simp) _

theorem masked36 (f : Bf) (w : World) : Calls Tryd.prog 29 #[.agg (ba 64 f), .int .u8 54] w fun e w' => e = .returned (.agg (ba 64 (mskF f 54#8))) ∧ Below w.heap.size w w' := by
  have h := masked_any f 54#8 w
  rw [show I 54#8 = 54 by decide] at h
  exact h
theorem masked5c (f : Bf) (w : World) : Calls Tryd.prog 29 #[.agg (ba 64 f), .int .u8 92] w fun e w' => e = .returned (.agg (ba 64 (mskF f 92#8))) ∧ Below w.heap.size w w' := by
  have h := masked_any f 92#8 w
  rw [show I 92#8 = 92 by decide] at h
  exact h

set_option maxHeartbeats 1000000 in
theorem hashBehind_any (f b : Bf) (n c : Nat) (A : Option Addr) (w : World) (ht : Tab w) (hs : Sl w w.heap.size A n c b) (hn : n ≤ 140737488355000) :
    Calls Tryd.prog 28 #[.agg (ba 64 f), .slice A n c] w fun e w' => e = .returned (.agg (ba 32 (shaF kF iF (catF 64 f b) (64 + n)))) ∧ Below w.heap.size w w' := by
  have HT := Lib.hid ht
  have HS := Lib.hid hs
  have a1 := m64_sl_all w.heap.size
  clear ht hs
  go_enter Tryd.func28, Tryd.ntmps28
  go_wp2_with fail
  obtain ⟨w3, hw3⟩ : ∃ w3, w3 = ((w.alloc (.cells (ba 64 f) 60)).alloc (.cells (ba 32 fun _ => 0#8) 41)).alloc (.cells #[.slice (some ⟨w.heap.size, 0, none⟩) 64 64, .slice A n c] 22) := ⟨_, rfl⟩
  have B3 : Below w.heap.size w w3 := by rw [hw3]; exact (((Below.refl w.heap.size w).alloc (by simp) _).alloc (by simp) _).alloc (by simp; omega) _
  have rC : row w3 (w.heap.size + 1 + 1) = some #[.slice (some ⟨w.heap.size, 0, none⟩) 64 64, .slice A n c] := by rw [hw3]; exact row_alloc_at _ _ _ _ (by simp)
  have r0 : row w3 (w.heap.size + 1) = some (ba 32 fun _ => 0#8) := by rw [hw3]; exact row_alloc (row_alloc_at _ _ _ _ (by simp)) _
  have rF : row w3 w.heap.size = some (ba 64 f) := by rw [hw3]; exact row_alloc (row_alloc (row_alloc_at _ _ _ _ rfl) _) _
  have hz : w3.heap.size = w.heap.size + 1 + 1 + 1 := by rw [hw3]; simp
  rw [← hw3]
  clear hw3 a1
  refine (concat2_any _ _ w3 rC (Sl.of_row rF w3.heap.size (by omega)) ((HS.out.below B3).more (by omega)) (by omega)).mono ?_
  rintro e w4 ⟨v, rfl, ho, hb4⟩
  obtain ⟨A', c', hv, hsl, -, -⟩ := ho.sl
  subst hv
  have HSL := Lib.hid hsl
  have HT4 := Lib.hid ((HT.out.below B3 HT.out.pos).below hb4 (by omega))
  have B4 := Lib.hid (onto B3 (by omega) hb4)
  have r4 := carry hb4 r0
  have hs4 : w.heap.size + 3 ≤ w4.heap.size := by have := hb4.size; omega
  clear ho hsl hb4 r0 rC rF hz B3 HT HS
  go_wp2_with fail
  refine (hash_any (catF 64 f b) (64 + n) c' A' w4 HT4.out HSL.out (by omega)).mono ?_
  rintro e w5 ⟨rfl, hb5⟩
  have r5 := carry hb5 r4
  have B5 := Lib.hid (onto B4.out (by omega) hb5)
  clear hb5 r4
  go_wp2_with fail
  refine bodyPost_ret (v := .agg (ba 32 (shaF kF iF (catF 64 f b) (64 + n)))) (res_row rfl _ _ (w.heap.size + 1) _ _ _ rfl (row_setRow r5 _) sum_u (by rw [ba_size]; exact sum_i)) rfl ⟨rfl, ?_⟩
  exact below_setRow B5.out (by omega) _

set_option maxHeartbeats 1000000 in
theorem msum_any (k b : Bf) (n m c c' : Nat) (A A' : Option Addr) (w : World) (ht : Tab w) (hs : Sl w w.heap.size A n c k) (hs' : Sl w w.heap.size A' m c' b) (hn : n ≤ 140737488355328) (hm : m ≤ 140737488355000) :
    Calls Tryd.prog 21 #[.slice A n c, .slice A' m c'] w fun e w' => e = .returned (.agg (ba 32 (macF k n b m))) ∧ Below w.heap.size w w' := by
  have B0 := Lib.hid ((Below.refl w.heap.size w).alloc (by simp) (.cells (ba 32 fun _ => 0#8) 41))
  have q0 : row (w.alloc (.cells (ba 32 fun _ => 0#8) 41)) w.heap.size = some (ba 32 fun _ => 0#8) := row_alloc_at _ _ _ _ rfl
  have HT := Lib.hid ht
  have HS := Lib.hid hs
  have HS' := Lib.hid hs'
  have hz : (w.alloc (.cells (ba 32 fun _ => 0#8) 41)).heap.size = w.heap.size + 1 := by simp
  clear ht hs hs'
  go_enter Tryd.func21, Tryd.ntmps21
  go_wp2_with fail
  refine (keyBlock_any k n c A _ (HT.out.below B0.out HT.out.pos) ((HS.out.below B0.out).more (by omega)) hn).mono ?_
  rintro e w1 ⟨rfl, hb1⟩
  have hs1 : w.heap.size + 1 ≤ w1.heap.size := by have := hb1.size; omega
  obtain ⟨w2, hw2⟩ : ∃ w2, w2 = w1.alloc (.cells (ba 64 (keyF k n)) 60) := ⟨_, rfl⟩
  have B2 : Below w.heap.size w w2 := by rw [hw2]; exact (onto B0.out (by omega) hb1).alloc (by omega) _
  have rK : row w2 w1.heap.size = some (ba 64 (keyF k n)) := by rw [hw2]; exact row_alloc_at _ _ _ _ rfl
  have r2 : row w2 w.heap.size = some (ba 32 fun _ => 0#8) := by rw [hw2]; exact row_alloc (carry hb1 q0) _
  have hz2 : w2.heap.size = w1.heap.size + 1 := by rw [hw2]; simp
  clear B0 hb1 q0 hz
  go_wp2_with fail
  rw [← hw2]
  clear hw2
  refine (masked36 (keyF k n) w2).mono ?_
  rintro e w3 ⟨rfl, hb3⟩
  have B3 := Lib.hid (onto B2 (by omega) hb3)
  have K3 := Lib.hid (carry hb3 rK)
  have R3 := Lib.hid (carry hb3 r2)
  have hs3 : w1.heap.size + 1 ≤ w3.heap.size := by have := hb3.size; omega
  clear hb3 rK r2 B2 hz2
  go_wp2_with fail
  refine (hashBehind_any (mskF (keyF k n) 54#8) b m c' A' w3 (HT.out.below B3.out HT.out.pos) ((HS'.out.below B3.out).more (by omega)) hm).mono ?_
  rintro e w4 ⟨rfl, hb4⟩
  obtain ⟨S, hS⟩ : ∃ S, S = innF k n b m := ⟨_, rfl⟩
  rw [show shaF kF iF (catF 64 (mskF (keyF k n) 54#8) b) (64 + m) = S by rw [hS]; rfl]
  have hs4 : w3.heap.size ≤ w4.heap.size := hb4.size
  obtain ⟨w6, hw6⟩ : ∃ w6, w6 = w4.alloc (.cells (ba 32 S) 41) := ⟨_, rfl⟩
  have B6 := Lib.hid (show Below w.heap.size w w6 by rw [hw6]; exact (onto B3.out (by omega) hb4).alloc (by omega) _)
  have K6 := Lib.hid (show row w6 w1.heap.size = some (ba 64 (keyF k n)) by rw [hw6]; exact row_alloc (carry hb4 K3.out) _)
  have R6 := Lib.hid (show row w6 w.heap.size = some (ba 32 fun _ => 0#8) by rw [hw6]; exact row_alloc (carry hb4 R3.out) _)
  have rS : row w6 w4.heap.size = some (ba 32 S) := by rw [hw6]; exact row_alloc_at _ _ _ _ rfl
  have hz6 : w6.heap.size = w4.heap.size + 1 := by rw [hw6]; simp
  have HI := Lib.hid (Sl.of_row rS w6.heap.size (by omega))
  have HT6 := Lib.hid (HT.out.below B6.out HT.out.pos)
  have HD := Lib.hid (show shaF kF iF (catF 64 (mskF (keyF k n) 92#8) S) (64 + 32) = macF k n b m by rw [hS]; rfl)
  have HM := Lib.hid (show ∀ x : After w6, Calls Tryd.prog 29 #[.agg (ba 64 (keyF k n)), .int .u8 92] x.val fun e w' => e = .returned (.agg (ba 64 (mskF (keyF k n) 92#8))) ∧ Below x.val.heap.size x.val w' from fun x => masked5c _ _)
  have HH := Lib.hid (show ∀ x : After w6, Calls Tryd.prog 28 #[.agg (ba 64 (mskF (keyF k n) 92#8)), .slice (some ⟨w4.heap.size, 0, none⟩) 32 32] x.val fun e w' => e = .returned (.agg (ba 32 (macF k n b m))) ∧ Below x.val.heap.size x.val w' from fun x => by
    rw [← HD.out]
    exact hashBehind_any _ S 32 32 _ x.val (HT6.out.after x) (After.sl HI.out x) (by omega))
  have Q := After.row K6.out
  have a1 := sum_sl_all w4.heap.size
  clear hb4 K3 R3 B3 rS hS HS HS' HT
  go_wp2_with fail
  rw [← hw6]
  clear hw6
  refine seen_tail 0 4 (by kernel_rfl) (by kernel_rfl) (fun _ _ _ _ _ h => h) ?_
  simp only [List.take_succ_cons, List.take_zero, List.drop_succ_cons, List.drop_zero]
  repeat (first | go_big_quiet_step ((go_at_call 29; refine After.call _ (HM.out _))) | go_big_quiet_step ((go_at_call 28; refine After.call _ (HH.out _))))
  refine wpQuiet_nil ?_
  rintro _ ⟨x, rfl⟩
  have r9 := After.row R6.out x
  have B9 := Lib.hid (onto B6.out (by omega) x.below)
  clear Q a1
  go_wp2_with fail
  refine bodyPost_ret (v := .agg (ba 32 (macF k n b m))) (res_row rfl _ _ w.heap.size _ _ _ rfl (row_setRow r9 _) sum_u (by rw [ba_size]; exact sum_i)) rfl ⟨rfl, ?_⟩
  exact below_setRow B9.out (by omega) _
end Go.Proofs.YtjggnbncpjoooaaDoor.Oct
