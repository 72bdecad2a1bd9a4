import Derived.Test.YtkgefljjjheobaaGreatDoorShaR
import Derived.Test.YtkgefljjjheobaaGreatDoorConcat
import Derived.Test.YtkgefljjjheobaaGreatDoorTyBs
import Derived.Test.YtkgefljjjheobaaGreatDoorLib
import Derived.Test.YtkgefljjjheobaaGreatDoorShaT

/-! ## MacMath -/
/- HMAC and HKDF over functions: the plain mathematics. -/
namespace Go.Proofs.YtkgefljjjheobaaGreatDoor.Oct
open Go.RowKit

/-- the key as a block of 64 bytes -/
def keyF (k : Bf) (n : Nat) : Bf := fun i => if 64 < n then (if i < 32 then shaF kF iF k n i else 0#8) else if i < n then k i else 0#8
def mskF (f : Bf) (v : BitVec 8) : Bf := fun i => f i ^^^ v
def innF (k : Bf) (n : Nat) (b : Bf) (m : Nat) : Bf := shaF kF iF (catF 64 (mskF (keyF k n) 54#8) b) (64 + m)
def macF (k : Bf) (n : Nat) (b : Bf) (m : Nat) : Bf := shaF kF iF (catF 64 (mskF (keyF k n) 92#8) (innF k n b m)) 96
theorem catF_congr {n m : Nat} {f f' g g' : Bf} (hf : ∀ i, i < n → f i = f' i) (hg : ∀ i, i < m → g i = g' i) : ∀ i, i < n + m → catF n f g i = catF n f' g' i := by
  intro i hi
  unfold catF
  by_cases h : i < n
  · rw [if_pos h, if_pos h, hf i h]
  · rw [if_neg h, if_neg h, hg _ (by omega)]
theorem sha_congr {b b' : Bf} {n : Nat} (hb : ∀ i, i < n → b i = b' i) : ∀ i, i < 32 → shaF kF iF b n i = shaF kF iF b' n i :=
  shaF_congr (fun _ _ => rfl) (fun _ _ => rfl) hb
theorem keyF_congr {k k' : Bf} {n : Nat} (h : ∀ i, i < n → k i = k' i) (i : Nat) : keyF k n i = keyF k' n i := by
  unfold keyF
  by_cases hn : 64 < n
  · rw [if_pos hn, if_pos hn]
    by_cases hi : i < 32
    · rw [if_pos hi, if_pos hi, sha_congr h i hi]
    · rw [if_neg hi, if_neg hi]
  · rw [if_neg hn, if_neg hn]
    by_cases hi : i < n
    · rw [if_pos hi, if_pos hi, h i hi]
    · rw [if_neg hi, if_neg hi]
/-- what macF hangs on: the key's block and the bytes -/
theorem macF_congr {k k' b b' : Bf} {n n' m : Nat} (hk : ∀ i, i < 64 → keyF k n i = keyF k' n' i) (hb : ∀ i, i < m → b i = b' i) : ∀ i, i < 32 → macF k n b m i = macF k' n' b' m i := by
  refine sha_congr (n := 64 + 32) (catF_congr (fun i hi => by unfold mskF; rw [hk i hi]) fun i hi => ?_)
  exact sha_congr (catF_congr (fun i hi => by unfold mskF; rw [hk i hi]) hb) i hi

/-- what is expanded: the sum of number i (from 1 on), by the one ahead -/
def lstL (i : Nat) : Nat := if i = 0 then 0 else 32
def expT (k : Bf) (n : Nat) (b : Bf) (m : Nat) : Nat → Bf
  | 0 => nF
  | i + 1 => macF k n (catF (lstL i + m) (catF (lstL i) (expT k n b m i) b) fun _ => BitVec.ofNat 8 (i + 1)) (lstL i + m + 1)
def expF (k : Bf) (n : Nat) (b : Bf) (m : Nat) : Bf := fun j => expT k n b m (j / 32 + 1) (j % 32)
end Go.Proofs.YtkgefljjjheobaaGreatDoor.Oct

/-! ## MacA -/
/- Contracts of mac's pieces and of mac.Sum. -/
namespace Go.Proofs.YtkgefljjjheobaaGreatDoor.Oct
open Go.ChangeShapes Go.WideShapes Go.ChangeAt Go.RowKit
set_option linter.unusedVariables false

set_option maxHeartbeats 1000000 in
theorem keyBlock_any (k : Bf) (n c : Nat) (A : Option Addr) (w : World) (ht : Tab w) (hs : Sl w w.heap.size A n c k) (hn : n ≤ 140737488355328) :
    Calls Tryz.prog 61 #[.slice A n c] w fun e w' => e = .returned (.agg (ba 64 (keyF k n))) ∧ Below w.heap.size w w' := by
  have B0 := Lib.hid ((Below.refl w.heap.size w).alloc (by simp) (.cells (ba 64 fun _ => 0#8) 84))
  have q0 : row (w.alloc (.cells (ba 64 fun _ => 0#8) 84)) w.heap.size = some (ba 64 fun _ => 0#8) := by simp [go_sem]
  have HT := Lib.hid ht
  have HS := Lib.hid hs
  clear ht hs
  go_enter Tryz.func61, Tryz.ntmps61
  by_cases h64 : 64 < n
  · have hd : decide ((64 : Int) < (n : Int)) = true := by simp; omega
    go_wp2_with fail
    refine (hash_any k n c A _ (HT.out.below B0.out HT.out.pos) ((HS.out.below B0.out).more (by simp)) hn).mono ?_
    rintro e w1 ⟨rfl, hb1⟩
    have hs1 : w.heap.size + 1 ≤ w1.heap.size := by simpa using hb1.size
    have B1 := Lib.hid ((onto B0.out (by simp) hb1).alloc (by omega) (.cells (ba 32 (shaF kF iF k n)) 71))
    have q1 := row_alloc (carry hb1 q0) (.cells (ba 32 (shaF kF iF k n)) 71)
    have r1 : row (w1.alloc (.cells (ba 32 (shaF kF iF k n)) 71)) w1.heap.size = some (ba 32 (shaF kF iF k n)) := row_alloc_at _ _ _ _ rfl
    have hz : (w1.alloc (.cells (ba 32 (shaF kF iF k n)) 71)).heap.size = w1.heap.size + 1 := by simp
    have a1 := sum_sl_all w1.heap.size
    clear hb1 q0 B0 HT HS
    have HS1 := Lib.hid ((Sl.of_row r1 _ (Nat.lt_succ_self _)).below ((Below.refl _ (w1.alloc (.cells (ba 32 (shaF kF iF k n)) 71))).alloc (by simp) (.cells (ba 64 fun _ => 0#8) 84)))
    have HE := Lib.hid (show ba 64 (putF (fun _ => 0#8) 0 32 (shaF kF iF k n)) = ba 64 (keyF k n) from ba_ext fun i hi => by
      unfold putF keyF
      rw [if_pos h64]
      by_cases h : i < 32
      · rw [if_pos h, if_pos (by omega), Nat.sub_zero]
      · rw [if_neg h, if_neg (by omega)])
    have a2 := m64_sl_all (w1.heap.size + 1)
    have q2 := row_alloc q1 (.cells (ba 64 (putF (fun _ => 0#8) 0 32 (shaF kF iF k n))) 84)
    go_wp2_with (refine wpl_copy rfl (.tmp 11) (.tmp 12) 26 26 5 rfl sli_u u8_i (row_alloc_at _ _ _ _ (by simp)) HS1.out (show 32 = min 32 64 by omega) rfl rfl ?_)
    refine bodyPost_ret (v := .agg (ba 64 (putF (fun _ => 0#8) 0 32 (shaF kF iF k n)))) (res_row rfl _ _ w.heap.size _ _ _ rfl (row_setRow q2 _) m64_u (by rw [ba_size]; exact m64_i)) rfl ⟨by rw [HE.out], ?_⟩
    exact below_setRow (B1.out.alloc B1.out.size _) (by omega) _
  · have hd : decide ((64 : Int) < (n : Int)) = false := by simp; omega
    have HS1 := Lib.hid ((HS.out.below B0.out).below ((Below.refl _ (w.alloc (.cells (ba 64 fun _ => 0#8) 84))).alloc (by simp) (.cells (ba 64 fun _ => 0#8) 84)))
    have HE := Lib.hid (show ba 64 (putF (fun _ => 0#8) 0 n k) = ba 64 (keyF k n) from ba_ext fun i hi => by
      unfold putF keyF
      rw [if_neg h64]
      by_cases h : i < n
      · rw [if_pos h, if_pos (by omega), Nat.sub_zero]
      · rw [if_neg h, if_neg (by omega)])
    have a2 := m64_sl_all (w.heap.size + 1)
    have q2 := row_alloc q0 (.cells (ba 64 (putF (fun _ => 0#8) 0 n k)) 84)
    clear q0
    go_wp2_with (refine wpl_copy rfl (.tmp 11) (.tmp 12) 26 26 5 rfl sli_u u8_i (row_alloc_at _ _ _ _ (by simp)) HS1.out (show n = min n 64 by omega) rfl rfl ?_)
    refine bodyPost_ret (v := .agg (ba 64 (putF (fun _ => 0#8) 0 n k))) (res_row rfl _ _ w.heap.size _ _ _ rfl (row_alloc (row_alloc_at _ _ _ _ rfl) _) m64_u (by rw [ba_size]; exact m64_i)) rfl ⟨by rw [HE.out], ?_⟩
    exact ((Below.refl w.heap.size w).alloc (by simp) _).alloc (by simp) _

set_option maxHeartbeats 1000000 in
theorem masked_any (f : Bf) (v : BitVec 8) (w : World) :
    Calls Tryz.prog 63 #[.agg (ba 64 f), .int .u8 (I v)] w fun e w' => e = .returned (.agg (ba 64 (mskF f v))) ∧ Below w.heap.size w w' := by
  have B0 := Lib.hid (((Below.refl w.heap.size w).alloc (by simp) (.cells (ba 64 f) 84)).alloc (by simp) (.cells (ba 64 fun _ => 0#8) 84))
  go_enter Tryz.func63, Tryz.ntmps63
  go_wp2_with fail
  go_loopw [5, 6] (fun _ iv wr => ∃ k : Nat, k ≤ 64 ∧ iv = .int .i64 k ∧ wr = (w.alloc (.cells (ba 64 (upto k (mskF f v) f)) 84)).alloc (.cells (ba 64 fun _ => 0#8) 84)) (fun _ iv _ => 64 - (intOf iv).toNat)
  case atStart => exact ⟨0, by omega, rfl, by rw [upto_zero]⟩
  case round =>
    obtain ⟨k, hk, rfl, rfl⟩ := hrel
    by_cases hlk : k < 64
    · have hd : decide ((k : Int) < 64) = true := by simp; omega
      have HST := Lib.hid (show upd (upto k (mskF f v) f) k (f k ^^^ v) = upto (k + 1) (mskF f v) f by rw [← upto_step]; rfl)
      go_wp2_with fail
      go_roundw
      case rel => exact ⟨k + 1, by omega, by go_num, by rw [HST.out]⟩
      case measure => simp [intOf]; omega
    · obtain rfl : k = 64 := by omega
      rw [upto_all]
      go_wp2_with fail
      refine bodyPost_ret (v := .agg (ba 64 (mskF f v))) (res_row rfl _ _ (w.heap.size + 1) _ _ _ rfl (row_alloc_at _ _ _ _ (by simp)) m64_u (by rw [ba_size]; exact m64_i)) rfl ⟨rfl, ?_⟩
      exact ((Below.refl w.heap.size w).alloc (by simp) _).alloc (by simp) _

theorem masked36 (f : Bf) (w : World) : Calls Tryz.prog 63 #[.agg (ba 64 f), .int .u8 54] w fun e w' => e = .returned (.agg (ba 64 (mskF f 54#8))) ∧ Below w.heap.size w w' := by
  have h := masked_any f 54#8 w
  rw [show I 54#8 = 54 by decide] at h
  exact h
theorem masked5c (f : Bf) (w : World) : Calls Tryz.prog 63 #[.agg (ba 64 f), .int .u8 92] w fun e w' => e = .returned (.agg (ba 64 (mskF f 92#8))) ∧ Below w.heap.size w w' := by
  have h := masked_any f 92#8 w
  rw [show I 92#8 = 92 by decide] at h
  exact h

set_option maxHeartbeats 1000000 in
theorem hashBehind_any (f b : Bf) (n c : Nat) (A : Option Addr) (w : World) (ht : Tab w) (hs : Sl w w.heap.size A n c b) (hn : n ≤ 140737488355000) :
    Calls Tryz.prog 62 #[.agg (ba 64 f), .slice A n c] w fun e w' => e = .returned (.agg (ba 32 (shaF kF iF (catF 64 f b) (64 + n)))) ∧ Below w.heap.size w w' := by
  have HT := Lib.hid ht
  have HS := Lib.hid hs
  have a1 := m64_sl_all w.heap.size
  clear ht hs
  go_enter Tryz.func62, Tryz.ntmps62
  go_wp2_with fail
  obtain ⟨w3, hw3⟩ : ∃ w3, w3 = ((w.alloc (.cells (ba 64 f) 84)).alloc (.cells (ba 32 fun _ => 0#8) 71)).alloc (.cells #[.slice (some ⟨w.heap.size, 0, none⟩) 64 64, .slice A n c] 26) := ⟨_, rfl⟩
  have B3 : Below w.heap.size w w3 := by rw [hw3]; exact (((Below.refl w.heap.size w).alloc (by simp) _).alloc (by simp) _).alloc (by simp; omega) _
  have rC : row w3 (w.heap.size + 1 + 1) = some #[.slice (some ⟨w.heap.size, 0, none⟩) 64 64, .slice A n c] := by rw [hw3]; exact row_alloc_at _ _ _ _ (by simp)
  have r0 : row w3 (w.heap.size + 1) = some (ba 32 fun _ => 0#8) := by rw [hw3]; exact row_alloc (row_alloc_at _ _ _ _ (by simp)) _
  have rF : row w3 w.heap.size = some (ba 64 f) := by rw [hw3]; exact row_alloc (row_alloc (row_alloc_at _ _ _ _ rfl) _) _
  have hz : w3.heap.size = w.heap.size + 1 + 1 + 1 := by rw [hw3]; simp
  rw [← hw3]
  clear hw3 a1
  refine (concat2_any _ _ w3 rC (Sl.of_row rF w3.heap.size (by omega)) ((HS.out.below B3).more (by omega)) (by omega)).mono ?_
  rintro e w4 ⟨v, rfl, ho, hb4⟩
  obtain ⟨A', c', hv, hsl, -, -⟩ := ho.sl
  subst hv
  have HSL := Lib.hid hsl
  have HT4 := Lib.hid ((HT.out.below B3 HT.out.pos).below hb4 (by omega))
  have B4 := Lib.hid (onto B3 (by omega) hb4)
  have r4 := carry hb4 r0
  have hs4 : w.heap.size + 3 ≤ w4.heap.size := by have := hb4.size; omega
  clear ho hsl hb4 r0 rC rF hz B3 HT HS
  go_wp2_with fail
  refine (hash_any (catF 64 f b) (64 + n) c' A' w4 HT4.out HSL.out (by omega)).mono ?_
  rintro e w5 ⟨rfl, hb5⟩
  have r5 := carry hb5 r4
  have B5 := Lib.hid (onto B4.out (by omega) hb5)
  clear hb5 r4
  go_wp2_with fail
  refine bodyPost_ret (v := .agg (ba 32 (shaF kF iF (catF 64 f b) (64 + n)))) (res_row rfl _ _ (w.heap.size + 1) _ _ _ rfl (row_setRow r5 _) sum_u (by rw [ba_size]; exact sum_i)) rfl ⟨rfl, ?_⟩
  exact below_setRow B5.out (by omega) _

set_option maxHeartbeats 1000000 in
theorem msum_any (k b : Bf) (n m c c' : Nat) (A A' : Option Addr) (w : World) (ht : Tab w) (hs : Sl w w.heap.size A n c k) (hs' : Sl w w.heap.size A' m c' b) (hn : n ≤ 140737488355328) (hm : m ≤ 140737488355000) :
    Calls Tryz.prog 47 #[.slice A n c, .slice A' m c'] w fun e w' => e = .returned (.agg (ba 32 (macF k n b m))) ∧ Below w.heap.size w w' := by
  have B0 := Lib.hid ((Below.refl w.heap.size w).alloc (by simp) (.cells (ba 32 fun _ => 0#8) 71))
  have q0 : row (w.alloc (.cells (ba 32 fun _ => 0#8) 71)) w.heap.size = some (ba 32 fun _ => 0#8) := row_alloc_at _ _ _ _ rfl
  have HT := Lib.hid ht
  have HS := Lib.hid hs
  have HS' := Lib.hid hs'
  have hz : (w.alloc (.cells (ba 32 fun _ => 0#8) 71)).heap.size = w.heap.size + 1 := by simp
  clear ht hs hs'
  go_enter Tryz.func47, Tryz.ntmps47
  go_wp2_with fail
  refine (keyBlock_any k n c A _ (HT.out.below B0.out HT.out.pos) ((HS.out.below B0.out).more (by omega)) hn).mono ?_
  rintro e w1 ⟨rfl, hb1⟩
  have hs1 : w.heap.size + 1 ≤ w1.heap.size := by have := hb1.size; omega
  obtain ⟨w2, hw2⟩ : ∃ w2, w2 = w1.alloc (.cells (ba 64 (keyF k n)) 84) := ⟨_, rfl⟩
  have B2 : Below w.heap.size w w2 := by rw [hw2]; exact (onto B0.out (by omega) hb1).alloc (by omega) _
  have rK : row w2 w1.heap.size = some (ba 64 (keyF k n)) := by rw [hw2]; exact row_alloc_at _ _ _ _ rfl
  have r2 : row w2 w.heap.size = some (ba 32 fun _ => 0#8) := by rw [hw2]; exact row_alloc (carry hb1 q0) _
  have hz2 : w2.heap.size = w1.heap.size + 1 := by rw [hw2]; simp
  clear B0 hb1 q0 hz
  go_wp2_with fail
  rw [← hw2]
  clear hw2
  refine (masked36 (keyF k n) w2).mono ?_
  rintro e w3 ⟨rfl, hb3⟩
  have B3 := Lib.hid (onto B2 (by omega) hb3)
  have K3 := Lib.hid (carry hb3 rK)
  have R3 := Lib.hid (carry hb3 r2)
  have hs3 : w1.heap.size + 1 ≤ w3.heap.size := by have := hb3.size; omega
  clear hb3 rK r2 B2 hz2
  go_wp2_with fail
  refine (hashBehind_any (mskF (keyF k n) 54#8) b m c' A' w3 (HT.out.below B3.out HT.out.pos) ((HS'.out.below B3.out).more (by omega)) hm).mono ?_
  rintro e w4 ⟨rfl, hb4⟩
  obtain ⟨S, hS⟩ : ∃ S, S = innF k n b m := ⟨_, rfl⟩
  rw [show shaF kF iF (catF 64 (mskF (keyF k n) 54#8) b) (64 + m) = S by rw [hS]; rfl]
  have hs4 : w3.heap.size ≤ w4.heap.size := hb4.size
  obtain ⟨w6, hw6⟩ : ∃ w6, w6 = w4.alloc (.cells (ba 32 S) 71) := ⟨_, rfl⟩
  have B6 := Lib.hid (show Below w.heap.size w w6 by rw [hw6]; exact (onto B3.out (by omega) hb4).alloc (by omega) _)
  have K6 := Lib.hid (show row w6 w1.heap.size = some (ba 64 (keyF k n)) by rw [hw6]; exact row_alloc (carry hb4 K3.out) _)
  have R6 := Lib.hid (show row w6 w.heap.size = some (ba 32 fun _ => 0#8) by rw [hw6]; exact row_alloc (carry hb4 R3.out) _)
  have rS : row w6 w4.heap.size = some (ba 32 S) := by rw [hw6]; exact row_alloc_at _ _ _ _ rfl
  have hz6 : w6.heap.size = w4.heap.size + 1 := by rw [hw6]; simp
  have HI := Lib.hid (Sl.of_row rS w6.heap.size (by omega))
  have HT6 := Lib.hid (HT.out.below B6.out HT.out.pos)
  have HD := Lib.hid (show shaF kF iF (catF 64 (mskF (keyF k n) 92#8) S) (64 + 32) = macF k n b m by rw [hS]; rfl)
  have HM := Lib.hid (show ∀ x : After w6, Calls Tryz.prog 63 #[.agg (ba 64 (keyF k n)), .int .u8 92] x.val fun e w' => e = .returned (.agg (ba 64 (mskF (keyF k n) 92#8))) ∧ Below x.val.heap.size x.val w' from fun x => masked5c _ _)
  have HH := Lib.hid (show ∀ x : After w6, Calls Tryz.prog 62 #[.agg (ba 64 (mskF (keyF k n) 92#8)), .slice (some ⟨w4.heap.size, 0, none⟩) 32 32] x.val fun e w' => e = .returned (.agg (ba 32 (macF k n b m))) ∧ Below x.val.heap.size x.val w' from fun x => by
    rw [← HD.out]
    exact hashBehind_any _ S 32 32 _ x.val (HT6.out.after x) (After.sl HI.out x) (by omega))
  have Q := After.row K6.out
  have a1 := sum_sl_all w4.heap.size
  clear hb4 K3 R3 B3 rS hS HS HS' HT
  go_wp2_with fail
  rw [← hw6]
  clear hw6
  refine seen_tail 0 4 (by kernel_rfl) (by kernel_rfl) (fun _ _ _ _ _ h => h) ?_
  simp only [List.take_succ_cons, List.take_zero, List.drop_succ_cons, List.drop_zero]
  repeat (first | go_big_quiet_step ((go_at_call 63; refine After.call _ (HM.out _))) | go_big_quiet_step ((go_at_call 62; refine After.call _ (HH.out _))))
  refine wpQuiet_nil ?_
  rintro _ ⟨x, rfl⟩
  have r9 := After.row R6.out x
  have B9 := Lib.hid (onto B6.out (by omega) x.below)
  clear Q a1
  go_wp2_with fail
  refine bodyPost_ret (v := .agg (ba 32 (macF k n b m))) (res_row rfl _ _ w.heap.size _ _ _ rfl (row_setRow r9 _) sum_u (by rw [ba_size]; exact sum_i)) rfl ⟨rfl, ?_⟩
  exact below_setRow B9.out (by omega) _
end Go.Proofs.YtkgefljjjheobaaGreatDoor.Oct

/-! ## MacE -/
/- Contract of mac.Expand. -/
namespace Go.Proofs.YtkgefljjjheobaaGreatDoor.Oct
open Go.ChangeShapes Go.WideShapes Go.ChangeAt Go.RowKit
set_option linter.unusedVariables false

theorem mexp_bad (A A' : Option Addr) (n m c c' : Nat) (x : Int) (w : World) (hx : x < 0 ∨ 8160 < x) :
    Calls Tryz.prog 27 #[.slice A n c, .slice A' m c', .int .i64 x] w fun e w' => e = .returned (.tuple #[.slice none 0 0, .int .i64 1]) ∧ w = w' := by
  by_cases h0 : x < 0
  · have hd : decide (x < 0) = true := by simp; omega
    go_enter Tryz.func27, Tryz.ntmps27
    go_wp2_with fail
    exact bodyPost_ret (v := .tuple #[.slice none 0 0, .int .i64 1]) (by simp [results, Tryz.results27, go_sem]) rfl ⟨rfl, rfl⟩
  · have hd : decide (x < 0) = false := by simp; omega
    have hd2 : decide (8160 < x) = true := by simp; omega
    go_enter Tryz.func27, Tryz.ntmps27
    go_wp2_with fail
    exact bodyPost_ret (v := .tuple #[.slice none 0 0, .int .i64 1]) (by simp [results, Tryz.results27, go_sem]) rfl ⟨rfl, rfl⟩
theorem I_next (j : Nat) : (I (BitVec.ofNat 8 j) + 1) % 256 = I (BitVec.ofNat 8 (j + 1)) := by
  unfold I
  rw [BitVec.toNat_ofNat, BitVec.toNat_ofNat]
  omega
/-- what is known of the world on the way: the row that is filled -/
structure ExInv (w : World) (k : Bf) (n : Nat) (b : Bf) (m L j : Nat) (wr : World) : Prop where
  below : Below w.heap.size w wr
  r : row wr w.heap.size = some (ba L (upto (32 * j) (expF k n b m) fun _ => 0#8))
set_option maxHeartbeats 2000000 in
theorem mexp_any (k b : Bf) (n m c c' : Nat) (A A' : Option Addr) (L : Nat) (w : World) (ht : Tab w) (hs : Sl w w.heap.size A n c k) (hs' : Sl w w.heap.size A' m c' b) (hn : n ≤ 140737488355328) (hm : m ≤ 140737488350000) (hL : L ≤ 8160) :
    Calls Tryz.prog 27 #[.slice A n c, .slice A' m c', .int .i64 L] w fun e w' => e = .returned (.tuple #[.slice (some ⟨w.heap.size, 0, none⟩) L L, .int .i64 0]) ∧ row w' w.heap.size = some (ba L (expF k n b m)) ∧ Below w.heap.size w w' := by
  have hd0 : decide ((L : Int) < 0) = false := by simp
  have hd1 : decide ((8160 : Int) < (L : Int)) = false := by simp; omega
  have hmk := mk_sl L (by omega)
  have HT := Lib.hid ht
  have HS := Lib.hid hs
  have HS' := Lib.hid hs'
  clear ht hs hs'
  go_enter Tryz.func27, Tryz.ntmps27
  have E0 := Lib.hid (show ExInv w k n b m L 0 (w.alloc (.cells (ba L fun _ => 0#8) 5)) from ⟨(Below.refl _ _).alloc (by simp) _, by rw [Nat.mul_zero, upto_zero]; exact row_alloc_at _ _ _ _ rfl⟩)
  go_wp2_with fail
  clear hmk hd0 hd1
  go_loopw [9, 10, 11] (fun sv iv nv wr => ∃ j : Nat, 32 * j < L + 32 ∧ iv = .int .i64 ((min (32 * j) L : Nat) : Int) ∧ nv = .int .u8 (I (BitVec.ofNat 8 (j + 1))) ∧ (∃ Al cl, sv = .slice Al (lstL j) cl ∧ Sl wr wr.heap.size Al (lstL j) cl (expT k n b m j)) ∧ ExInv w k n b m L j wr) (fun _ iv _ _ => L - (intOf iv).toNat)
  case atStart => exact ⟨0, by omega, by rw [Nat.mul_zero, Nat.zero_min]; rfl, rfl, ⟨none, 0, rfl, Sl.nothing _ _ _ _ _⟩, E0.out⟩
  case round =>
    clear E0
    obtain ⟨j, hj, rfl, rfl, ⟨Al, cl, rfl, hl⟩, hE⟩ := hrel
    obtain ⟨wo, rfl⟩ : ∃ wo : World, wo = wr := ⟨_, rfl⟩
    have HL := Lib.hid hl
    have HE := Lib.hid hE
    clear hl hE
    obtain ⟨F, hF⟩ : ∃ F, F = min (32 * j) L := ⟨_, rfl⟩
    rw [← hF]
    have hlen : lstL j ≤ 32 := by unfold lstL; split <;> omega
    have hsz : w.heap.size < wo.heap.size := row_lt HE.out.r
    have HF := Lib.hid hF
    by_cases hlt : F < L
    · have hd : decide ((F : Int) < (L : Int)) = true := by simp; omega
      have HFj := Lib.hid (show F = 32 * j by omega)
      clear hF
      go_wp2_with fail
      obtain ⟨w2, hw2⟩ : ∃ w2, w2 = (wo.alloc (.cells #[.int .u8 (I (BitVec.ofNat 8 (j + 1)))] 5)).alloc (.cells #[.slice Al (lstL j) cl, .slice A' m c', .slice (some ⟨wo.heap.size, 0, none⟩) 1 1] 26) := ⟨_, rfl⟩
      have b2 : Below wo.heap.size wo w2 := by rw [hw2]; exact ((Below.refl _ _).alloc (by simp) _).alloc (by simp) _
      have rC : row w2 (wo.heap.size + 1) = some #[.slice Al (lstL j) cl, .slice A' m c', .slice (some ⟨wo.heap.size, 0, none⟩) 1 1] := by rw [hw2]; exact row_alloc_at _ _ _ _ (by simp)
      have s1 : Sl w2 w2.heap.size (some ⟨wo.heap.size, 0, none⟩) 1 1 (fun _ => BitVec.ofNat 8 (j + 1)) := by
        rw [hw2]
        exact ((Sl.one wo 5 (BitVec.ofNat 8 (j + 1)) (wo.heap.size + 1) (by omega)).below ((Below.refl _ _).alloc (by simp) _)).more (by simp)
      have hz2 : w2.heap.size = wo.heap.size + 2 := by rw [hw2]; simp
      rw [← hw2]
      clear hw2
      have B2 := Lib.hid (onto HE.out.below (by omega) b2)
      refine (concat3_any _ _ w2 rC ((HL.out.below b2).more (by omega)) ((HS'.out.below B2.out).more (by omega)) s1 (by omega)).mono ?_
      rintro e w3 ⟨v, rfl, ho, hb3⟩
      obtain ⟨Am, cm, hv, hsl, -, -⟩ := ho.sl
      subst hv
      have HM := Lib.hid hsl
      have B3 := Lib.hid (onto B2.out (by omega) hb3)
      have b3 := onto b2 (by omega) hb3
      have b3' := Lib.hid b3
      have hs3 : wo.heap.size + 2 ≤ w3.heap.size := by have := hb3.size; omega
      clear ho hsl hb3 s1 rC b2 B2 hz2 b3 HL
      go_wp2_with fail
      refine (msum_any k _ n _ c cm A Am w3 (HT.out.below B3.out HT.out.pos) ((HS.out.below B3.out).more (by omega)) HM.out hn (by omega)).mono ?_
      rintro e w4 ⟨rfl, hb4⟩
      obtain ⟨S, hS⟩ : ∃ S, S = expT k n b m (j + 1) := ⟨_, rfl⟩
      rw [show macF k n (catF (lstL j + m) (catF (lstL j) (expT k n b m j) b) fun _ => BitVec.ofNat 8 (j + 1)) (lstL j + m + 1) = S by rw [hS]; rfl]
      have HSS := Lib.hid hS
      have hs4 : w3.heap.size ≤ w4.heap.size := hb4.size
      have b4 := onto b3'.out (by omega) hb4
      obtain ⟨w6, hw6⟩ : ∃ w6, w6 = w4.alloc (.cells (ba 32 S) 71) := ⟨_, rfl⟩
      have b6 : Below wo.heap.size wo w6 := by rw [hw6]; exact b4.alloc (by omega) _
      have rS : row w6 w4.heap.size = some (ba 32 S) := by rw [hw6]; exact row_alloc_at _ _ _ _ rfl
      have hz6 : w6.heap.size = w4.heap.size + 1 := by rw [hw6]; simp
      have r6 := carry b6 HE.out.r
      have B6 := Lib.hid (onto HE.out.below (by omega) b6)
      have RS := Lib.hid rS
      have a1 := sum_sl_all w4.heap.size
      have hfr := run_from sli_u u8_i (some (⟨w.heap.size, 0, none⟩ : Addr)) L L F (by omega)
      rw [show cutA (some (⟨w.heap.size, 0, none⟩ : Addr)) L F = some ⟨w.heap.size, F, none⟩ by unfold cutA; rw [if_neg (by omega)]; simp only [Option.map_some]; rw [add_mid, Nat.zero_add]] at hfr
      clear hb4 b4 b3' hS HM B3 HE rS
      go_wp2_with fail
      rw [← hw6]
      clear hw6
      refine flow_region [([0, 1, 2, 3, 4], 5, false)] [6, 7] (fun _ => True) (by kernel_rfl) (by kernel_rfl) (fun _ _ _ _ _ h => h) trivial ?_
      have b7 := below_drewN b6 1
      have r7 : row (w6.drewN 1) w.heap.size = some (ba L (upto (32 * j) (expF k n b m) fun _ => 0#8)) := by rw [row_drewN]; exact r6
      have rS7 : row (w6.drewN 1) w4.heap.size = some (ba 32 S) := by rw [row_drewN]; exact RS.out
      have hz7 : (w6.drewN 1).heap.size = w4.heap.size + 1 := by rw [← hz6]; rfl
      have B7' := below_drewN B6.out 1
      obtain ⟨w7, hw7⟩ : ∃ w7, w7 = w6.drewN 1 := ⟨_, rfl⟩
      rw [← hw7] at b7 r7 rS7 hz7 B7' ⊢
      clear hw7 b6 r6 hz6 B6 RS
      have B7 := Lib.hid B7'
      have HI := Lib.hid (Sl.of_row rS7 w7.heap.size (by omega))
      have RS7 := Lib.hid rS7
      clear B7'
      obtain ⟨C, hC⟩ : ∃ C, C = min 32 (L - F) := ⟨_, rfl⟩
      have HC := Lib.hid hC
      have hV : ba L (putF (upto (32 * j) (expF k n b m) fun _ => 0#8) F C S) = ba L (upto (32 * (j + 1)) (expF k n b m) fun _ => 0#8) := ba_ext fun i hi => by
        have h1 := HFj.out
        unfold putF upto
        by_cases h2 : i < 32 * j
        · rw [if_neg (by omega), if_pos h2, if_pos (by omega)]
        · by_cases h3 : i < 32 * (j + 1)
          · rw [if_pos (by omega), if_pos h3, HSS.out]
            unfold expF
            rw [show i / 32 = j by omega, show i % 32 = i - F by omega]
          · rw [if_neg (by omega), if_neg h2, if_neg h3]
      have HV := Lib.hid hV
      have hF2 : ((F : Int) + (C : Int)) = ((min (32 * (j + 1)) L : Nat) : Int) := by have := HFj.out; omega
      have HF2 := Lib.hid hF2
      have hw8 : IntKind.i64.wrap ((F : Int) + (C : Int)) = (F : Int) + (C : Int) := IntWalk.i64_in _ (by omega)
      simp only [wpFl, pk, List.getElem?_cons_zero, List.getElem?_cons_succ]
      clear hV hC hF2 rS7
      repeat (go_big_quiet_step (fail))
      refine wpQuiet_nil ?_
      go_wp2_with (refine wpl_copyAt rfl (.tmp 37) (.tmp 38) 26 26 5 rfl sli_u u8_i r7 (show F + (L - F) ≤ L by omega) HI.out HC.out rfl rfl ?_)
      rw [HV.out]
      obtain ⟨w8, hw8'⟩ : ∃ w8, w8 = w7.setRow w.heap.size (ba L (upto (32 * (j + 1)) (expF k n b m) fun _ => 0#8)) := ⟨_, rfl⟩
      have E8 := Lib.hid (show ExInv w k n b m L (j + 1) w8 by rw [hw8']; exact ⟨below_setRow B7.out (Nat.le_refl _) _, row_setRow r7 _⟩)
      have hg8 : w4.heap.size < w8.heap.size := by rw [hw8']; exact Nat.lt_of_lt_of_eq (by omega : w4.heap.size < w7.heap.size) (by simp)
      have S8 := Lib.hid (show Sl w8 w8.heap.size (some ⟨w4.heap.size, 0, none⟩) 32 32 S from Sl.of_row (by rw [hw8', row_setRow_other _ _ _ _ (by omega)]; exact RS7.out) _ hg8)
      rw [← hw8']
      clear hw8' r7
      refine ⟨fun _ => True, trivial, ?_⟩
      show wpQuiet _ _ _ _ _ _
      repeat (go_big_quiet_step (fail))
      refine wpQuiet_nil ?_
      rw [HF2.out]
      go_wp2_with fail
      go_roundw
      case rel => exact ⟨j + 1, by have := HFj.out; omega, rfl, by rw [I_next], ⟨_, _, rfl, by rw [← HSS.out]; exact S8.out⟩, E8.out⟩
      case measure =>
        have := HFj.out
        simp only [intOf]
        omega
    · have hd : decide ((F : Int) < (L : Int)) = false := by simp; omega
      have HX := Lib.hid (show ba L (upto (32 * j) (expF k n b m) fun _ => 0#8) = ba L (expF k n b m) from ba_ext fun i hi => by unfold upto; rw [if_pos (by omega)])
      clear hF
      go_wp2_with fail
      refine bodyPost_ret (v := .tuple #[.slice (some ⟨w.heap.size, 0, none⟩) L L, .int .i64 0]) (by simp [results, Tryz.results27, go_sem]) rfl ⟨rfl, ?_, HE.out.below⟩
      rw [HE.out.r, HX.out]
end Go.Proofs.YtkgefljjjheobaaGreatDoor.Oct

/-! ## MacR -/
/- Contracts of the reference's Sums and Sum. -/
namespace Go.Proofs.YtkgefljjjheobaaGreatDoor.Oct
open Go.ChangeShapes Go.WideShapes Go.ChangeAt Go.RowKit
set_option linter.unusedVariables false

theorem xor36 (a : BitVec 8) : bits .xor .u8 (I a) 54 = I (a ^^^ 54#8) := by rw [← I_xor]; rfl
theorem xor5c (a : BitVec 8) : bits .xor .u8 (I a) 92 = I (a ^^^ 92#8) := by rw [← I_xor]; rfl
theorem I_lit0 : (Value.int .u8 0) = .int .u8 (I 0#8) := rfl
/-- two rows are not one -/
def Two (v u : Value) : Prop := ∀ g, v.ownBlock = some g → u.ownBlock ≠ some g
/-- a byte more, behind a row of the call's own -/
theorem cat_step {f : Bf} {i : Nat} {x : BitVec 8} (hx : f i = x) (j : Nat) (hj : j < i + 1) : catF i f (fun _ => x) j = f j := by
  unfold catF
  by_cases h : j < i
  · rw [if_pos h]
  · rw [if_neg h, show j = i by omega, hx]

/-- what is known on the way through Sums, from where the key is short on -/
structure SsInv (w w1 : World) (tb : Array Value) (wr : World) : Prop where
  b0 : Below w.heap.size w wr
  b1 : Below w1.heap.size w1 wr
  rt : row wr w.heap.size = some tb
  r0 : row wr (w.heap.size + 1) = some (ba 32 fun _ => 0#8)
  s1 : w.heap.size + 2 ≤ w1.heap.size

theorem SsInv.app {w w1 wr w' : World} {tb : Array Value} {o : Obj} {u : TypeId} {v : Value} {n : Nat} {f : Bf} (h : SsInv w w1 tb wr) (ho : Own (wr.alloc o) w1.heap.size u v n f) (hg : (wr.alloc o).grownBy w' v.ownBlock) : SsInv w w1 tb w' := by
  have s1 := h.s1
  have b1 := h.b1.size
  refine ⟨ho.after hg (h.b0.alloc (by omega) o) (by simp; omega) (by omega), ho.after hg (h.b1.alloc (by omega) o) (by simp; omega) (Nat.le_refl _), grown_row hg (row_alloc h.rt o) (fun e => ?_), grown_row hg (row_alloc h.r0 o) (fun e => ?_), s1⟩
  · have := (ho.lt e).1; omega
  · have := (ho.lt e).1; omega
theorem Two.app {w : World} {B : Nat} {u : TypeId} {v v' x : Value} {n : Nat} {f : Bf} {k : Nat} (h : Two v x) (hx : Own w B u x n f) (ht : v'.ownBlock = v.ownBlock ∨ v'.ownBlock = some k) (hk : w.heap.size ≤ k) : Two v' x := fun g hg e => by
  rcases ht with h1 | h1
  · rw [h1] at hg; exact h g hg e
  · rw [h1] at hg
    have := (hx.lt e).2
    have := Option.some.inj hg
    omega
theorem Two.symm {v x : Value} (h : Two v x) : Two x v := fun g hg e => h g e hg

set_option maxRecDepth 20000 in
set_option maxHeartbeats 4000000 in
theorem rsums_any (k b : Bf) (n m c c' cK : Nat) (A A' AK : Option Addr) (w : World) (hs : Sl w w.heap.size A n c k) (hs' : Sl w w.heap.size A' m c' b) (hn : n ≤ 80000) (hm : m ≤ 80000) (hK : SlG w w.heap.size AK 64 cK kV) :
    Calls Tryz.prog 54 #[.agg (tbA (.slice AK 64 cK) iF), .slice A n c, .slice A' m c'] w fun e w' => e = .returned (.agg (ba 32 (macF k n b m))) ∧ Below w.heap.size w w' := by
  have HS := Lib.hid hs
  have HS' := Lib.hid hs'
  have HK := Lib.hid hK
  obtain ⟨tb, htb⟩ : ∃ tb, tb = tbA (.slice AK 64 cK) iF := ⟨_, rfl⟩
  have HTB := Lib.hid htb
  have hz0 : ((w.alloc (.cells (tbA (.slice AK 64 cK) iF) 63)).alloc (.cells (ba 32 fun _ => 0#8) 71)).heap.size = w.heap.size + 2 := by simp
  have B0 := Lib.hid (((Below.refl w.heap.size w).alloc (by simp) (.cells (tbA (.slice AK 64 cK) iF) 63)).alloc (by simp) (.cells (ba 32 fun _ => 0#8) 71))
  have rt0 : row ((w.alloc (.cells (tbA (.slice AK 64 cK) iF) 63)).alloc (.cells (ba 32 fun _ => 0#8) 71)) w.heap.size = some (tbA (.slice AK 64 cK) iF) := row_alloc (row_alloc_at _ _ _ _ rfl) _
  have r00 : row ((w.alloc (.cells (tbA (.slice AK 64 cK) iF) 63)).alloc (.cells (ba 32 fun _ => 0#8) 71)) (w.heap.size + 1) = some (ba 32 fun _ => 0#8) := row_alloc_at _ _ _ _ (by simp)
  clear hs hs' hK htb
  go_enter Tryz.func54, Tryz.ntmps54
  by_cases h64 : 64 < n
  case' pos =>
    have hd : decide ((64 : Int) < (n : Int)) = true := by simp; omega
    go_wp2_with fail
    refine (rsum_any k n c cK A AK _ ((HS.out.below B0.out).more (by omega)) (by omega) ((HK.out.below B0.out).more (by omega))).mono ?_
    rintro e wa ⟨rfl, hba⟩
    have hsa : w.heap.size + 2 ≤ wa.heap.size := by have := hba.size; omega
    have a1 := sum_sl_all wa.heap.size
    obtain ⟨w1, hw1⟩ : ∃ w1, w1 = wa.alloc (.cells (ba 32 (shaF kF iF k n)) 71) := ⟨_, rfl⟩
    have J1 := Lib.hid (show SsInv w w1 tb w1 from by
      rw [hw1, HTB.out]
      exact ⟨(onto B0.out (by omega) hba).alloc (by omega) _, Below.refl _ _, row_alloc (carry hba rt0) _, row_alloc (carry hba r00) _, by simp; omega⟩)
    obtain ⟨A1, N1, c1, k1, hsl, hN1, hky, hkf⟩ : ∃ A1 N1 c1 k1, Value.slice (some ⟨wa.heap.size, 0, none⟩) 32 32 = .slice A1 N1 c1 ∧ N1 ≤ 64 ∧ Sl w1 w1.heap.size A1 N1 c1 k1 ∧ ∀ i, keyF k n i = if i < N1 then k1 i else 0#8 :=
      ⟨_, _, _, _, rfl, by omega, (by rw [hw1]; exact Sl.of_row (row_alloc_at _ _ _ _ rfl) _ (by simp) : Sl w1 w1.heap.size (some ⟨wa.heap.size, 0, none⟩) 32 32 (shaF kF iF k n)), fun i => by unfold keyF; rw [if_pos h64]⟩
    have HKY := Lib.hid hky
    have HKF := Lib.hid hkf
    have HSL := Lib.hid hsl
    clear hba rt0 r00 hz0 B0 hky hkf hsl
    go_wp2_with fail
    rw [← hw1, HSL.out]
    clear hw1 a1 hd HSL
  case' neg =>
    have hd : decide ((64 : Int) < (n : Int)) = false := by simp; omega
    obtain ⟨w1, hw1⟩ : ∃ w1, w1 = (w.alloc (.cells (tbA (.slice AK 64 cK) iF) 63)).alloc (.cells (ba 32 fun _ => 0#8) 71) := ⟨_, rfl⟩
    have J1 := Lib.hid (show SsInv w w1 tb w1 from by
      rw [hw1, HTB.out]
      exact ⟨B0.out, Below.refl _ _, rt0, r00, by omega⟩)
    obtain ⟨A1, N1, c1, k1, hsl, hN1, hky, hkf⟩ : ∃ A1 N1 c1 k1, Value.slice A n c = .slice A1 N1 c1 ∧ N1 ≤ 64 ∧ Sl w1 w1.heap.size A1 N1 c1 k1 ∧ ∀ i, keyF k n i = if i < N1 then k1 i else 0#8 :=
      ⟨_, _, _, _, rfl, by omega, (by rw [hw1]; exact (HS.out.below B0.out).more (by omega) : Sl w1 w1.heap.size A n c k), fun i => by unfold keyF; rw [if_neg h64]⟩
    have HKY := Lib.hid hky
    have HKF := Lib.hid hkf
    have HSL := Lib.hid hsl
    clear rt0 r00 hz0 B0 hky hkf hsl
    go_wp2_with fail
    rw [← hw1, HSL.out]
    clear hw1 hd HSL
  all_goals
    go_loopw [8, 9, 10] (fun vi vo iv wr => ∃ i : Nat, i ≤ 64 ∧ iv = .int .i64 i ∧ Own wr w1.heap.size 5 vi i (mskF (keyF k n) 54#8) ∧ Own wr w1.heap.size 5 vo i (mskF (keyF k n) 92#8) ∧ Two vi vo ∧ SsInv w w1 tb wr) (fun _ _ iv _ => 64 - (intOf iv).toNat)
    case' atStart => exact ⟨0, by omega, rfl, Own.nil _ _ _ _, Own.nil _ _ _ _, show Two _ _ from (fun g h => by cases h), J1.out⟩
    case' round =>
      clear J1
      obtain ⟨i, hi, rfl, hoi, hoo, htwo, hJ⟩ := hrel
      obtain ⟨wo, rfl⟩ : ∃ wo : World, wo = wr := ⟨_, rfl⟩
      have HOI := Lib.hid hoi
      have HOO := Lib.hid hoo
      have HTW := Lib.hid htwo
      have HJ := Lib.hid hJ
      clear hoi hoo htwo hJ
      by_cases hlt : i < 64
      · have hd : decide ((i : Int) < 64) = true := by simp; omega
        have b1 := HJ.out.b1.size
        obtain ⟨x, hx⟩ : ∃ x, x = keyF k n i := ⟨_, rfl⟩
        have HX := Lib.hid hx
        have HOI1 := Lib.hid (HOI.out.alloc (.cells #[.int .u8 (I (x ^^^ 54#8))] 5))
        have HSO1 := Lib.hid (Sl.one wo 5 (x ^^^ 54#8) (wo.heap.size + 1) (by omega))
        rw [HKF.out] at hx
        by_cases hlk : i < N1
        case' pos =>
          have hd2 : decide ((i : Int) < (N1 : Int)) = true := by simp; omega
          rw [if_pos hlk] at hx
          obtain ⟨g, o, hA, hg, hcell⟩ := (HKY.out.below HJ.out.b1).at_ (by omega)
          subst hA
          have hc : wo.cell? ⟨g, o + i, none⟩ = some (.int .u8 (I x)) := by rw [hx]; exact hcell i hlk
          clear hcell hx
        case' neg =>
          have hd2 : decide ((i : Int) < (N1 : Int)) = false := by simp; omega
          rw [if_neg hlk] at hx
          have hx0 := I_lit0
          rw [← hx] at hx0
          clear hx
        all_goals
          have x1 := xor36 x
          have x2 := xor5c x
          go_wp2_with (at_builtin; first
            | (refine wpl_appB rfl (.tmp 32) (.tmp 35) rfl sli_u u8_info HOI1.out HSO1.out (by omega) (by simp; omega) rfl rfl ?_; intro v2 w2 ho2 hg2 ht2
               have s2 : w1.heap.size ≤ w2.heap.size := by have := hg2.size; simp at this; omega
               have HOO2 := Lib.hid (((HOO.out.alloc (.cells #[.int .u8 (I (x ^^^ 54#8))] 5)).other hg2 (fun k hk e => HTW.out k e hk)).alloc (.cells #[.int .u8 (I (x ^^^ 92#8))] 5))
               have HSO2 := Lib.hid (Sl.one w2 5 (x ^^^ 92#8) (w2.heap.size + 1) (by omega))
               have HTW2 := Lib.hid (HTW.out.app HOO.out ht2 (by simp))
               have HJ2 := Lib.hid (HJ.out.app HOI1.out hg2)
               have HO2 := Lib.hid ho2
               clear ho2 hg2 ht2)
            | (refine wpl_appB rfl (.tmp 37) (.tmp 40) rfl sli_u u8_info HOO2.out HSO2.out (by omega) (by simp; omega) rfl rfl ?_; intro v3 w3 ho3 hg3 ht3))
          have HOI3 := Lib.hid (((HO2.out.alloc (.cells #[.int .u8 (I (x ^^^ 92#8))] 5)).other hg3 (fun k hk e => HTW2.out k hk e)).congr (f' := mskF (keyF k n) 54#8) (cat_step (by unfold mskF; rw [HX.out])))
          have HOO3 := Lib.hid (ho3.congr (f' := mskF (keyF k n) 92#8) (cat_step (by unfold mskF; rw [HX.out])))
          have HTW3 := Lib.hid (HTW2.out.symm.app HO2.out ht3 (by simp)).symm
          have HJ3 := Lib.hid (HJ2.out.app HOO2.out hg3)
          clear ho3 hg3 ht3 HOO2 HSO2 HTW2 HJ2 HO2
          go_roundw
          case rel => exact ⟨i + 1, by omega, by go_num, HOI3.out, HOO3.out, HTW3.out, HJ3.out⟩
          case measure => simp [intOf]; omega
      · obtain rfl : i = 64 := by omega
        have hd : decide ((64 : Int) < 64) = false := by decide
        have rt := HJ.out.rt
        have RT := Lib.hid rt
        clear rt
        have hsw : w.heap.size + 2 ≤ wo.heap.size := by have := HJ.out.b1.size; have := HJ.out.s1; omega
        go_wp2_with fail
        refine flow_many [.inl [0, 1, 2], pS 5, pE 3, pE 4, pU 5, pE 6] (fun y => row y w.heap.size = some (tbA (.slice AK 64 cK) iF)) u8.ownBlock.toList (by kernel_rfl) (by kernel_rfl) (fun _ _ _ _ _ h => h) (fun _ _ _ _ _ h => h) (fun y z h => row_alloc h z) (by rw [row_drewN, RT.out, HTB.out]) (hot_own HOI.out) ?_
        have HOI1 := Lib.hid (HOI.out.drewN 1)
        have HOO1 := Lib.hid (HOO.out.drewN 1)
        have B1 := Lib.hid (below_drewN HJ.out.b0 1)
        have R1 := Lib.hid (show row (wo.drewN 1) (w.heap.size + 1) = some (ba 32 fun _ => 0#8) by rw [row_drewN]; exact HJ.out.r0)
        have TT1 := Lib.hid (show row (wo.drewN 1) w.heap.size = some (tbA (.slice AK 64 cK) iF) by rw [row_drewN, RT.out, HTB.out])
        have hz1 : (wo.drewN 1).heap.size = wo.heap.size := rfl
        have hs1 : w1.heap.size ≤ wo.heap.size := HJ.out.b1.size
        have hs0 : w.heap.size + 2 ≤ w1.heap.size := HJ.out.s1
        obtain ⟨W1, hW1⟩ : ∃ W1, W1 = wo.drewN 1 := ⟨_, rfl⟩
        rw [← hW1] at HOI1 HOO1 B1 R1 TT1 hz1 ⊢
        have HL9 := Lib.hid (fun (g : Nat) (h : u9.ownBlock = some g) => (HOO.out.lt h).2)
        clear hW1 HOI HOO HJ
        have hq : ∀ x : In (fun y => row y w.heap.size = some (tbA (.slice AK 64 cK) iF)), row x.val w.heap.size = some (tbA (.slice AK 64 cK) iF) := fun x => x.ok
        have hne : Nonempty (In (fun y => row y w.heap.size = some (tbA (.slice AK 64 cK) iF))) := ⟨⟨W1, TT1.out⟩⟩
        refine wpM_q ?_
        simp only [pk, List.getElem?_cons_zero, List.getElem?_cons_succ]
        repeat (go_big_quiet_step (fail))
        refine wpQuiet_nil ?_
        clear hq
        refine wpM_s (fun p => .pointer (some ⟨p, 0, none⟩)) (.cells (ba 32 fun _ => 0#8) 71) _ rfl rfl (fun w => by simp only [execOp, go_sem, Sem.run_bind, Result.andThen]; rfl) ?_
        refine wpM_e _ rfl (fun x hx => ?_)
        have hx' : row x.val w.heap.size = some (tbA (.slice AK 64 cK) iF) := hx
        have TX := Lib.hid hx'
        have hsx := x.below.size
        have HOI2 := Lib.hid (HOI1.out.below x.below (Nat.le_refl _))
        have HOO2 := Lib.hid (HOO1.out.below x.below (Nat.le_refl _))
        have BX := Lib.hid (onto B1.out (by omega) x.below)
        have RX := Lib.hid (carry x.below R1.out)
        have HSX := Lib.hid ((HS'.out.below BX.out).more (by omega : w.heap.size ≤ x.val.heap.size))
        clear hx hx' HOI1 HOO1 TT1 R1
        obtain ⟨xv, hxv⟩ : ∃ xv, xv = x.val := ⟨_, rfl⟩
        rw [← hxv] at TX hsx HOI2 HOO2 BX RX HSX ⊢
        clear hxv B1
        go_wp2_with (at_builtin; refine wpl_appB rfl (.tmp 43) (.tmp 44) rfl sli_u u8_info HOI2.out HSX.out (by omega) (by omega) rfl rfl ?_; intro v2 w2 ho2 hg2 ht2)
        have hs2 := hg2.size
        have B2 := Lib.hid (HOI2.out.after hg2 BX.out (by omega) (by omega))
        have T2 := grown_row hg2 TX.out (fun e => by have := (HOI2.out.lt e).1; omega)
        have R2 := Lib.hid (grown_row hg2 RX.out (fun e => by have := (HOI2.out.lt e).1; omega))
        have HOO3 := Lib.hid (HOO2.out.other hg2 (fun k hk e => HTW.out k e hk))
        have HO2 := Lib.hid ho2
        refine same_class (C := fun y => row y w.heap.size = some (tbA (.slice AK 64 cK) iF)) v2.ownBlock.toList (Frm.app hg2) (hot_app ho2 ht2 (fun k hk => by simpa using hk)) T2 (fun y z h => row_alloc h z) ?_
        clear ho2 hg2 ht2 T2 HOI2 HOO2 TX RX BX
        refine wpM_e _ rfl (fun x2 hx2 => ?_)
        have T3 := Lib.hid (show row x2.val w.heap.size = some (tbA (.slice AK 64 cK) iF) from hx2)
        have hsx2 := x2.below.size
        have HO3 := Lib.hid (HO2.out.below x2.below (Nat.le_refl _))
        have HOO4 := Lib.hid (HOO3.out.below x2.below (Nat.le_refl _))
        have B3 := Lib.hid (onto B2.out (by omega) x2.below)
        have R3 := Lib.hid (carry x2.below R2.out)
        have HK3 := Lib.hid ((HK.out.below B3.out).more (by omega : w.heap.size ≤ x2.val.heap.size))
        have hh2 : ∀ k ∈ v2.ownBlock.toList, k < x2.val.heap.size := hot_own HO3.out
        clear hx2 HO2 HOO3 R2 B2
        obtain ⟨xw, hxw⟩ : ∃ xw, xw = x2.val := ⟨_, rfl⟩
        rw [← hxw] at T3 hsx2 HO3 HOO4 B3 R3 HK3 hh2 ⊢
        clear hxw
        obtain ⟨A4, c4, hv4, hsl4, -, -⟩ := HO3.out.sl
        obtain ⟨H4, hH4⟩ : ∃ H4, H4 = v2.ownBlock.toList := ⟨_, rfl⟩
        rw [← hH4] at hh2 ⊢
        rw [hv4]
        have HH4 := Lib.hid hh2
        have HSL4 := Lib.hid hsl4
        clear hsl4 hh2 HO3 hv4 hH4
        go_wp2_with fail
        refine (rsum_any (catF 64 (mskF (keyF k n) 54#8) b) (64 + m) c4 cK A4 AK xw HSL4.out (by omega) HK3.out).mono ?_
        rintro e w4 ⟨rfl, hb4⟩
        obtain ⟨S, hS⟩ : ∃ S, S = innF k n b m := ⟨_, rfl⟩
        have hHS := Lib.hid hS
        rw [show shaF kF iF (catF 64 (mskF (keyF k n) 54#8) b) (64 + m) = S by rw [hS]; rfl]
        have hs4 := hb4.size
        have HOO5 := Lib.hid (HOO4.out.below hb4 (Nat.le_refl _))
        have B4 := Lib.hid (onto B3.out (by omega) hb4)
        have R4 := Lib.hid (carry hb4 R3.out)
        have T4 := Lib.hid (carry hb4 T3.out)
        have HFR := Lib.hid (Frm.of (hot := H4) hb4)
        have HHS := Lib.hid (hot_same HH4.out hb4.size)
        clear hb4 HOO4 B3 R3 T3 HSL4 HK3 hS HH4
        go_wp2_with fail
        refine same_class (C := fun y => row y w.heap.size = some (tbA (.slice AK 64 cK) iF)) H4 HFR.out HHS.out T4.out (fun y z h => row_alloc h z) ?_
        clear HFR HHS
        refine wpM_u _ _ [] 12 (.head _) rfl rfl (fun x5 hx5 p hp1 hp2 hp3 hp4 => ?_)
        refine wpM_e _ rfl (fun x6 hx6 => ?_)
        have b6 := onto x5.below x5.below.size x6.below
        have rp : row x6.val p = some (ba 32 fun _ => 0#8) := carry x6.below (row_of hp4)
        have hs5 := x5.below.size
        have hs6 := x6.below.size
        have HOO6 := Lib.hid (HOO5.out.below b6 (Nat.le_refl _))
        have B6 := Lib.hid (onto B4.out (by omega) b6)
        have R6 := Lib.hid (carry b6 R4.out)
        have T6 := Lib.hid (carry b6 T4.out)
        have HP2 := Lib.hid hp2
        have HP1 := Lib.hid hp1
        clear HOO5 B4 R4 T4 b6 hp4 hx5 hx6 hp3 hp1 hp2
        obtain ⟨xv, hxv⟩ : ∃ xv, xv = x6.val := ⟨_, rfl⟩
        rw [← hxv] at rp hs6 HOO6 B6 R6 T6 ⊢
        clear hxv
        have hpx : p < xv.heap.size := row_lt rp
        go_wp2_with fail
        have hs7 : (xv.setRow p (ba 32 S)).heap.size = xv.heap.size := by simp
        have HOO7 := Lib.hid (HOO6.out.setRow p (fun e => by have := HL9.out p e; have := HP1.out; omega) (ba 32 S))
        have B7 := Lib.hid (below_setRow B6.out (by have := HP1.out; omega : w.heap.size ≤ p) (ba 32 S))
        have R7 := Lib.hid (show row (xv.setRow p (ba 32 S)) (w.heap.size + 1) = some (ba 32 fun _ => 0#8) by rw [row_setRow_other _ _ _ _ (by have := HP1.out; omega)]; exact R6.out)
        have T7 := Lib.hid (show row (xv.setRow p (ba 32 S)) w.heap.size = some (tbA (.slice AK 64 cK) iF) by rw [row_setRow_other _ _ _ _ (by have := HP1.out; omega)]; exact T6.out)
        have P7 := Lib.hid (row_setRow rp (ba 32 S))
        refine same_class (C := fun y => row y w.heap.size = some (tbA (.slice AK 64 cK) iF)) [] (Frm.row xv _ (by simp)) hot_none T7.out (fun y z h => row_alloc h z) ?_
        clear HOO6 B6 R6 T6 rp
        refine wpM_nil (fun x7 => ?_)
        have hs8 := x7.below.size
        have HOO8 := Lib.hid (HOO7.out.below x7.below (Nat.le_refl _))
        have B8 := Lib.hid (onto B7.out (by omega) x7.below)
        have R8 := Lib.hid (carry x7.below R7.out)
        have T8 := Lib.hid (carry x7.below T7.out)
        have P8 := Lib.hid (carry x7.below P7.out)
        clear HOO7 B7 R7 T7 P7
        obtain ⟨y0, hy0⟩ : ∃ y0, y0 = x7.val := ⟨_, rfl⟩
        rw [← hy0] at hs8 HOO8 B8 R8 T8 P8 ⊢
        rw [hs7] at hs8
        clear hy0 hs7
        have hys : w.heap.size + 2 ≤ y0.heap.size := by omega
        have hhot : ∀ g ∈ (w.heap.size + 1) :: u9.ownBlock.toList, g < y0.heap.size := fun g hg => by
          rcases List.mem_cons.1 hg with rfl | hg
          · omega
          · exact hot_own HOO8.out g hg
        go_wp2_with fail
        refine flow_many [.inl [0, 1, 2], pE 3, pE 4, pE 5] (fun y => row y w.heap.size = some (tbA (.slice AK 64 cK) iF)) ((w.heap.size + 1) :: u9.ownBlock.toList) (by kernel_rfl) (by kernel_rfl) (fun _ _ _ _ _ h => h) (fun _ _ _ _ _ h => h) (fun y z h => row_alloc h z) (by rw [row_drewN]; exact T8.out) hhot ?_
        have O1 := Lib.hid (HOO8.out.drewN 1)
        have D1 := Lib.hid (below_drewN B8.out 1)
        have E1 := Lib.hid (show row (y0.drewN 1) (w.heap.size + 1) = some (ba 32 fun _ => 0#8) by rw [row_drewN]; exact R8.out)
        have F1 := Lib.hid (show row (y0.drewN 1) w.heap.size = some (tbA (.slice AK 64 cK) iF) by rw [row_drewN]; exact T8.out)
        have G1 := Lib.hid (show row (y0.drewN 1) p = some (ba 32 S) by rw [row_drewN]; exact P8.out)
        have hz1 : (y0.drewN 1).heap.size = y0.heap.size := rfl
        obtain ⟨Y1, hY1⟩ : ∃ Y1, Y1 = y0.drewN 1 := ⟨_, rfl⟩
        rw [← hY1] at O1 D1 E1 F1 G1 hz1 ⊢
        clear hY1 HOO8 B8 R8 T8 P8 hne hhot
        have hq : ∀ x : In (fun y => row y w.heap.size = some (tbA (.slice AK 64 cK) iF)), row x.val w.heap.size = some (tbA (.slice AK 64 cK) iF) := fun x => x.ok
        have hne : Nonempty (In (fun y => row y w.heap.size = some (tbA (.slice AK 64 cK) iF))) := ⟨⟨Y1, F1.out⟩⟩
        have a1 := sum_sl_all p
        refine wpM_q ?_
        simp only [pk, List.getElem?_cons_zero, List.getElem?_cons_succ]
        repeat (go_big_quiet_step (fail))
        refine wpQuiet_nil ?_
        clear hq a1
        refine wpM_e _ rfl (fun x hx => ?_)
        have hsx := x.below.size
        have O2 := Lib.hid (O1.out.below x.below (Nat.le_refl _))
        have D2 := Lib.hid (onto D1.out (by omega) x.below)
        have E2 := Lib.hid (carry x.below E1.out)
        have F2 := Lib.hid (carry x.below F1.out)
        have G2 := Lib.hid (Sl.of_row (carry x.below G1.out) x.val.heap.size (row_lt (carry x.below G1.out)))
        clear O1 D1 E1 F1 G1 hx
        obtain ⟨Y2, hY2⟩ : ∃ Y2, Y2 = x.val := ⟨_, rfl⟩
        rw [← hY2] at hsx O2 D2 E2 F2 G2 ⊢
        clear hY2
        go_wp2_with (at_builtin; refine wpl_appB rfl (.tmp 48) (.tmp 49) rfl sli_u u8_info O2.out G2.out (by omega) (by omega) rfl rfl ?_; intro v9 w9 ho9 hg9 ht9)
        have hs9 := hg9.size
        have D3 := Lib.hid (O2.out.after hg9 D2.out (by omega) (by omega))
        have F3 := Lib.hid (grown_row hg9 F2.out (fun e => by have := (O2.out.lt e).1; omega))
        have E3 := Lib.hid (grown_row hg9 E2.out (fun e => by have := (O2.out.lt e).1; omega))
        have O3 := Lib.hid ho9
        obtain ⟨A9, c9, hv9, hsl9, -, -⟩ := ho9.sl
        refine same_class (C := fun y => row y w.heap.size = some (tbA (.slice AK 64 cK) iF)) [w.heap.size + 1] ((Frm.app hg9).more (fun k hk => by simp at hk; simp [hk])) (fun k hk => by
          obtain rfl := List.mem_singleton.1 hk
          exact ⟨.inl (by simp), row_lt E3.out⟩) F3.out (fun y z h => row_alloc h z) ?_
        rw [hv9]
        have HSL9 := Lib.hid hsl9
        clear ho9 hg9 ht9 hv9 hsl9 O2 D2 E2 F2 G2 O3
        refine wpM_e _ rfl (fun x2 hx2 => ?_)
        have hsx2 := x2.below.size
        have D4 := Lib.hid (onto D3.out (by omega) x2.below)
        have E4 := Lib.hid (carry x2.below E3.out)
        have F4 := Lib.hid (carry x2.below F3.out)
        have L4 := Lib.hid ((HSL9.out.below x2.below).more hsx2)
        have K4 := Lib.hid ((HK.out.below D4.out).more (by omega : w.heap.size ≤ x2.val.heap.size))
        clear D3 E3 F3 HSL9 hx2
        obtain ⟨Y4, hY4⟩ : ∃ Y4, Y4 = x2.val := ⟨_, rfl⟩
        rw [← hY4] at hsx2 D4 E4 F4 L4 K4 ⊢
        clear hY4
        go_wp2_with fail
        refine (rsum_any (catF 64 (mskF (keyF k n) 92#8) S) (64 + 32) c9 cK A9 AK Y4 L4.out (by omega) K4.out).mono ?_
        rintro e w5 ⟨rfl, hb5⟩
        rw [show shaF kF iF (catF 64 (mskF (keyF k n) 92#8) S) (64 + 32) = macF k n b m by rw [hHS.out]; rfl]
        have hs5' := hb5.size
        have D5 := Lib.hid (onto D4.out (by omega) hb5)
        have E5 := Lib.hid (carry hb5 E4.out)
        have F5 := Lib.hid (carry hb5 F4.out)
        have HFR := Lib.hid (Frm.of (hot := [w.heap.size + 1]) hb5)
        clear hb5 D4 E4 F4 L4 K4
        go_wp2_with fail
        refine same_class (C := fun y => row y w.heap.size = some (tbA (.slice AK 64 cK) iF)) [w.heap.size + 1] HFR.out (fun k hk => by
          obtain rfl := List.mem_singleton.1 hk
          exact ⟨.inl (by simp), row_lt E5.out⟩) F5.out (fun y z h => row_alloc h z) ?_
        clear HFR
        refine wpM_e _ rfl (fun x5 hx5 => ?_)
        have hsx5 := x5.below.size
        have D6 := Lib.hid (onto D5.out (by omega) x5.below)
        have e6 := carry x5.below E5.out
        have F6 := Lib.hid (carry x5.below F5.out)
        clear D5 E5 F5 hx5
        obtain ⟨Y6, hY6⟩ : ∃ Y6, Y6 = x5.val := ⟨_, rfl⟩
        rw [← hY6] at hsx5 D6 e6 F6 ⊢
        clear hY6
        go_wp2_with fail
        have D7 := Lib.hid (below_setRow D6.out (by omega : w.heap.size ≤ w.heap.size + 1) (ba 32 (macF k n b m)))
        have E7 := Lib.hid (row_setRow e6 (ba 32 (macF k n b m)))
        refine same_class (C := fun y => row y w.heap.size = some (tbA (.slice AK 64 cK) iF)) [] (Frm.row Y6 _ (by simp)) hot_none (by rw [row_setRow_other _ _ _ _ (by omega)]; exact F6.out) (fun y z h => row_alloc h z) ?_
        clear D6 e6 F6
        refine wpM_nil (fun x8 => ?_)
        have D8 := Lib.hid (onto D7.out (by have := row_lt E7.out; omega) x8.below)
        have e8 := carry x8.below E7.out
        go_wp2_with fail
        refine bodyPost_ret (v := .agg (ba 32 (macF k n b m))) (res_row rfl _ _ (w.heap.size + 1) _ _ _ rfl e8 sum_u (by rw [ba_size]; exact sum_i)) rfl ⟨rfl, D8.out⟩
end Go.Proofs.YtkgefljjjheobaaGreatDoor.Oct

/-! ## MacX -/
/- Contracts of the reference's Sum, Expands and Expand. -/
namespace Go.Proofs.YtkgefljjjheobaaGreatDoor.Oct
open Go.ChangeShapes Go.WideShapes Go.ChangeAt Go.RowKit
set_option linter.unusedVariables false

theorem rexps_bad (v : Value) (A A' : Option Addr) (n m c c' cK : Nat) (AK : Option Addr) (x : Int) (w : World) (hx : x < 0 ∨ 8160 < x) :
    Calls Tryz.prog 36 #[.agg (tbA (.slice AK 64 cK) iF), .slice A n c, .slice A' m c', .int .i64 x] w fun e w' => e = .returned (.tuple #[.slice none 0 0, .int .i64 1]) ∧ Below w.heap.size w w' := by
  have B0 := Lib.hid ((Below.refl w.heap.size w).alloc (by simp) (.cells (tbA (.slice AK 64 cK) iF) 63))
  by_cases h0 : x < 0
  · have hd : decide (x < 0) = true := by simp; omega
    go_enter Tryz.func36, Tryz.ntmps36
    go_wp2_with fail
    exact bodyPost_ret (v := .tuple #[.slice none 0 0, .int .i64 1]) (by simp [results, Tryz.results36, go_sem]) rfl ⟨rfl, B0.out⟩
  · have hd : decide (x < 0) = false := by simp; omega
    have hd2 : decide (8160 < x) = true := by simp; omega
    go_enter Tryz.func36, Tryz.ntmps36
    go_wp2_with fail
    exact bodyPost_ret (v := .tuple #[.slice none 0 0, .int .i64 1]) (by simp [results, Tryz.results36, go_sem]) rfl ⟨rfl, B0.out⟩

/-- what is known on the way through Expands -/
structure RxInv (w : World) (tb : Array Value) (wr : World) : Prop where
  b : Below w.heap.size w wr
  r : row wr w.heap.size = some tb
set_option maxRecDepth 20000 in
set_option maxHeartbeats 4000000 in
theorem rexps_new (k b : Bf) (n m c c' cK : Nat) (A A' AK : Option Addr) (L : Nat) (w : World) (hs : Sl w w.heap.size A n c k) (hs' : Sl w w.heap.size A' m c' b) (hn : n ≤ 70000) (hm : m ≤ 70000) (hL : L ≤ 8160) (hK : SlG w w.heap.size AK 64 cK kV) :
    Calls Tryz.prog 36 #[.agg (tbA (.slice AK 64 cK) iF), .slice A n c, .slice A' m c', .int .i64 L] w fun e w' => ∃ A9 c9, e = .returned (.tuple #[.slice A9 L c9, .int .i64 0]) ∧ Sl w' w'.heap.size A9 L c9 (expF k n b m) ∧ c9 ≤ maxLen ∧ Below w.heap.size w w' ∧ (∀ a, A9 = some a → w.heap.size ≤ a.block) := by
  have hd0 : decide ((L : Int) < 0) = false := by simp
  have hd1 : decide ((8160 : Int) < (L : Int)) = false := by simp; omega
  have HS := Lib.hid hs
  have HS' := Lib.hid hs'
  have HK := Lib.hid hK
  clear hs hs' hK
  go_enter Tryz.func36, Tryz.ntmps36
  go_wp2_with fail
  obtain ⟨w1, hw1⟩ : ∃ w1, w1 = ((w.alloc (.cells (tbA (.slice AK 64 cK) iF) 63)).alloc (.cells #[] 5)).alloc (.cells #[] 5) := ⟨_, rfl⟩
  have J0 := Lib.hid (show RxInv w (tbA (.slice AK 64 cK) iF) w1 from by
    rw [hw1]
    exact ⟨(((Below.refl w.heap.size w).alloc (by simp) _).alloc (by simp) _).alloc (by simp; omega) _, row_alloc (row_alloc (row_alloc_at _ _ _ _ rfl) _) _⟩)
  have HO0 := Lib.hid (show Own w1 (w.heap.size + 1) 5 (.slice (some ⟨w.heap.size + 1, 0, none⟩) 0 0) (32 * 0) (expF k n b m) from by
    have h := (Own.empty (w.alloc (.cells (tbA (.slice AK 64 cK) iF) 63)) (w.heap.size + 1) 5 (expF k n b m) (by simp)).alloc (.cells #[] 5)
    rw [hw1]
    simpa using h)
  rw [← hw1]
  clear hw1 hd0 hd1
  go_loopw [10, 11, 12] (fun ov lv iv wr => ∃ j : Nat, 32 * j < L + 32 ∧ iv = .int .i64 ((j + 1 : Nat) : Int) ∧ Own wr (w.heap.size + 1) 5 ov (32 * j) (expF k n b m) ∧ (∃ Al cl, lv = .slice Al (lstL j) cl ∧ Sl wr wr.heap.size Al (lstL j) cl (expT k n b m j)) ∧ RxInv w (tbA (.slice AK 64 cK) iF) wr) (fun ov _ _ _ => L + 32 - slN ov)
  case atStart => exact ⟨0, by omega, rfl, HO0.out, ⟨_, _, rfl, Sl.nothing _ _ _ _ _⟩, J0.out⟩
  case round =>
    clear J0 HO0
    obtain ⟨j, hj, rfl, ho, ⟨Al, cl, rfl, hl⟩, hJ⟩ := hrel
    obtain ⟨wo, rfl⟩ : ∃ wo : World, wo = wr := ⟨_, rfl⟩
    obtain ⟨Ao, co, hvo, hslo, hco, hao⟩ := ho.sl
    have HAO := Lib.hid hao
    clear hao
    subst hvo
    have HO := Lib.hid ho
    have HSO := Lib.hid hslo
    have HL := Lib.hid hl
    have HJ := Lib.hid hJ
    have hlen : lstL j ≤ 32 := by unfold lstL; split <;> omega
    have hsz : w.heap.size < wo.heap.size := row_lt hJ.r
    have hjj : j ≤ 255 := by omega
    have hoc := hslo.le
    unfold maxLen at hco
    clear ho hslo hl hJ
    obtain ⟨F, hF⟩ : ∃ F, F = 32 * j := ⟨_, rfl⟩
    rw [← hF] at HO HSO hoc ⊢
    have HF := Lib.hid hF
    by_cases hlt : F < L
    · have hd : decide ((F : Int) < (L : Int)) = true := by simp; omega
      have hFl : F ≤ 8160 := by omega
      clear hF
      obtain ⟨J, hJ1⟩ : ∃ J, J = j + 1 := ⟨_, rfl⟩
      rw [← hJ1]
      have HJ1 := Lib.hid hJ1
      have hcv : ((J : Int) % 256) = I (BitVec.ofNat 8 J) := I_ofN J
      have HCV := Lib.hid hcv
      have hJb : J ≤ 256 := by omega
      clear hcv
      clear hJ1
      go_wp2_with fail
      refine flow_many [.inl [0, 1, 3, 5, 7, 8], pS 2, pS 9, pS 12, pU 2, pE 4, pE 6, pU 9, pE 10, pE 11, pU 12, pE 13] (fun y => row y w.heap.size = some (tbA (.slice AK 64 cK) iF)) [] (by kernel_rfl) (by kernel_rfl) (fun _ _ _ _ _ h => h) (fun _ _ _ _ _ h => h) (fun y z h => row_alloc h z) (by rw [row_drewN]; exact HJ.out.r) (fun k hk => by cases hk) ?_
      have bw := below_drewN (Below.refl wo.heap.size wo) 1
      have hz1 : (wo.drewN 1).heap.size = wo.heap.size := rfl
      obtain ⟨W1, hW1⟩ : ∃ W1, W1 = wo.drewN 1 := ⟨_, rfl⟩
      rw [← hW1] at bw hz1 ⊢
      clear hW1
      have BW := Lib.hid bw
      clear bw
      have hq : ∀ x : In (fun y => row y w.heap.size = some (tbA (.slice AK 64 cK) iF)), row x.val w.heap.size = some (tbA (.slice AK 64 cK) iF) := fun x => x.ok
      have hne : Nonempty (In (fun y => row y w.heap.size = some (tbA (.slice AK 64 cK) iF))) := ⟨⟨wo, HJ.out.r⟩⟩
      refine wpM_q ?_
      simp only [pk, List.getElem?_cons_zero, List.getElem?_cons_succ]
      repeat (go_big_quiet_step (fail))
      refine wpQuiet_nil ?_
      clear hq hne
      refine wpM_s (fun p => .slice (some ⟨p, 0, none⟩) 0 0) (.cells #[] 5) _ rfl rfl (fun w => ex_bs0 _ rfl w) ?_
      refine wpM_s (fun p => .slice (some ⟨p, 0, none⟩) 1 1) (.cells #[.int .u8 ((J : Int) % 256)] 5) _ rfl rfl (fun w => ex_bs1 _ (.tmp 36) rfl _ rfl w) ?_
      refine wpM_s (fun p => .pointer (some ⟨p, 0, none⟩)) (.cells (ba 32 fun _ => 0#8) 71) _ rfl rfl (fun w => by simp only [execOp, go_sem, Sem.run_bind, Result.andThen]; rfl) ?_
      -- the empty row, the last sum
      refine wpM_u _ _ _ 30 (.tail _ (.tail _ (.head _))) rfl rfl (fun x0 hx0 p hp1 hp2 hp3 hp4 => ?_)
      refine wpM_e _ rfl (fun x hx => ?_)
      have hs0 := x0.below.size
      have hsx := x.below.size
      have B1 := Lib.hid (onto (onto BW.out (by omega) x0.below) (by omega) x.below)
      have O1 := Lib.hid (show Own x.val wo.heap.size 5 (.slice (some ⟨p, 0, none⟩) 0 0) 0 nF from own_new (by rw [x.below.block p hp2]; exact hp4) hp1)
      have L1 := Lib.hid ((HL.out.below B1.out))
      clear hx0 hx hp3 hp4 BW
      obtain ⟨X1, hX1⟩ : ∃ X1, X1 = x.val := ⟨_, rfl⟩
      rw [← hX1] at hsx B1 O1 L1 ⊢
      clear hX1
      go_wp2_with (at_builtin; refine wpl_appB rfl (.tmp 30) (.tmp 31) rfl sli_u u8_info O1.out L1.out (by omega) (by omega) rfl rfl ?_; intro v2 w2 ho2 hg2 ht2)
      rw [catF_zero, Nat.zero_add] at ho2
      have hs2 := hg2.size
      have B2 := Lib.hid (O1.out.after hg2 B1.out (by omega) (Nat.le_refl _))
      have O2 := Lib.hid ho2
      refine same_class (C := fun y => row y w.heap.size = some (tbA (.slice AK 64 cK) iF)) v2.ownBlock.toList ((Frm.app hg2).more (fun k hk => by simpa [Value.ownBlock, eq_comm] using hk)) (hot_app ho2 ht2 (fun k hk => by simpa [Value.ownBlock, eq_comm] using hk)) (carry B2.out HJ.out.r) (fun y z h => row_alloc h z) ?_
      clear ho2 hg2 ht2 O1 L1 B1
      -- the info
      refine wpM_e _ rfl (fun x hx => ?_)
      have hsx2 := x.below.size
      have B3 := Lib.hid (onto B2.out (by omega) x.below)
      have O3 := Lib.hid (O2.out.below x.below (Nat.le_refl _))
      have I3 := Lib.hid ((HS'.out.below (onto HJ.out.b (by omega) B3.out)))
      clear hx B2 O2
      obtain ⟨X3, hX3⟩ : ∃ X3, X3 = x.val := ⟨_, rfl⟩
      rw [← hX3] at hsx2 B3 O3 I3 ⊢
      clear hX3
      go_wp2_with (at_builtin; refine wpl_appB rfl (.tmp 32) (.tmp 33) rfl sli_u u8_info O3.out I3.out (by omega) (by omega) rfl rfl ?_; intro v4 w4 ho4 hg4 ht4)
      have hs4 := hg4.size
      have B4 := Lib.hid (O3.out.after hg4 B3.out (by omega) (Nat.le_refl _))
      have O4 := Lib.hid ho4
      refine same_class (C := fun y => row y w.heap.size = some (tbA (.slice AK 64 cK) iF)) v4.ownBlock.toList (Frm.app hg4) (hot_app ho4 ht4 (fun k hk => by simpa using hk)) (carry B4.out HJ.out.r) (fun y z h => row_alloc h z) ?_
      clear ho4 hg4 ht4 O3 I3 B3
      -- the number
      refine wpM_u _ _ _ 37 (.tail _ (.head _)) rfl rfl (fun x0 hx0 p hp1 hp2 hp3 hp4 => ?_)
      refine wpM_e _ rfl (fun x hx => ?_)
      have hs0 := x0.below.size
      have hsx := x.below.size
      have B5 := Lib.hid (onto (onto B4.out (by omega) x0.below) (by omega) x.below)
      have O5 := Lib.hid (O4.out.below (onto x0.below x0.below.size x.below) (Nat.le_refl _))
      have N5 := Lib.hid (sl_new (x := x.val) (p := p) (u := 5) (v := BitVec.ofNat 8 J) (by rw [x.below.block p hp2, hp4, HCV.out]))
      have P3 := Lib.hid hp3
      clear hx0 hx hp4 B4 O4 hp3
      obtain ⟨X5, hX5⟩ : ∃ X5, X5 = x.val := ⟨_, rfl⟩
      rw [← hX5] at hsx B5 O5 N5 ⊢
      clear hX5
      go_wp2_with (at_builtin; refine wpl_appB rfl (.tmp 34) (.tmp 37) rfl sli_u u8_info O5.out N5.out (by omega) (by omega) rfl rfl ?_; intro v6 w6 ho6 hg6 ht6)
      have hs6 := hg6.size
      have B6 := Lib.hid (O5.out.after hg6 B5.out (by omega) (Nat.le_refl _))
      have O6 := Lib.hid ho6
      refine same_class (C := fun y => row y w.heap.size = some (tbA (.slice AK 64 cK) iF)) v6.ownBlock.toList ((Frm.app hg6).more (fun k hk => .tail _ hk)) (hot_app ho6 ht6 (fun k hk => .tail _ (show k ∈ v4.ownBlock.toList by simpa using hk))) (carry B6.out HJ.out.r) (fun y z h => row_alloc h z) ?_
      clear ho6 hg6 ht6 O5 N5 B5
      -- the sum
      refine wpM_e _ rfl (fun x hx => ?_)
      have hsx7 := x.below.size
      have B7 := Lib.hid (onto B6.out (by omega) x.below)
      have O7 := Lib.hid (O6.out.below x.below (Nat.le_refl _))
      have W7 := Lib.hid (onto HJ.out.b (by omega) B7.out)
      have hsw7 := W7.out.size
      have K7 := Lib.hid ((HK.out.below W7.out).more hsw7)
      have S7 := Lib.hid ((HS.out.below W7.out).more hsw7)
      have H7 := Lib.hid (hot_own O7.out)
      clear hx B6 O6
      obtain ⟨X7, hX7⟩ : ∃ X7, X7 = x.val := ⟨_, rfl⟩
      rw [← hX7] at hsx7 B7 O7 W7 hsw7 K7 S7 H7 ⊢
      clear hX7
      obtain ⟨A8, c8, hv8, hsl8, -, -⟩ := O7.out.sl
      obtain ⟨H8, hH8⟩ : ∃ H8, H8 = v6.ownBlock.toList := ⟨_, rfl⟩
      rw [← hH8] at H7 ⊢
      rw [hv8]
      have L8 := Lib.hid hsl8
      clear hsl8 O7 hv8 hH8
      go_wp2_with fail
      refine (rsums_any k _ n _ c c8 cK A A8 AK X7 S7.out L8.out (by omega) (by omega) K7.out).mono ?_
      rintro e w8 ⟨rfl, hb8⟩
      obtain ⟨S, hS⟩ : ∃ S, S = expT k n b m (j + 1) := ⟨_, rfl⟩
      rw [show macF k n (catF (lstL j + m) (catF (lstL j) (expT k n b m j) b) fun _ => BitVec.ofNat 8 J) (lstL j + m + 1) = S by rw [hS, HJ1.out]; rfl]
      have HSS := Lib.hid hS
      have hs8 := hb8.size
      have B8 := Lib.hid (onto B7.out (by omega) hb8)
      have FR8 := Lib.hid (Frm.of (hot := H8) hb8)
      have HH8 := Lib.hid (hot_same H7.out hb8.size)
      clear hb8 hS B7 W7 K7 S7 H7 L8
      go_wp2_with fail
      refine same_class (C := fun y => row y w.heap.size = some (tbA (.slice AK 64 cK) iF)) H8 FR8.out HH8.out (carry B8.out HJ.out.r) (fun y z h => row_alloc h z) ?_
      clear FR8 HH8
      refine wpM_u _ _ _ 13 (.head _) rfl rfl (fun x0 hx0 p hp1 hp2 hp3 hp4 => ?_)
      refine wpM_e _ rfl (fun x hx => ?_)
      have rp := carry x.below (row_of hp4)
      have hs9 := x.below.size
      have hs9' := x0.below.size
      have B9 := Lib.hid (onto (onto B8.out (by omega) x0.below) (by omega) x.below)
      have P1 := Lib.hid hp1
      clear hx0 hx hp3 hp4 B8 hp1
      obtain ⟨X9, hX9⟩ : ∃ X9, X9 = x.val := ⟨_, rfl⟩
      rw [← hX9] at rp hs9 B9 ⊢
      clear hX9
      have hpx : p < X9.heap.size := row_lt rp
      go_wp2_with fail
      have B10 := Lib.hid (below_setRow B9.out P1.out (ba 32 S))
      have rp10 := Lib.hid (row_setRow rp (ba 32 S))
      refine same_class (C := fun y => row y w.heap.size = some (tbA (.slice AK 64 cK) iF)) [] (Frm.row X9 _ (by simp)) hot_none (carry B10.out HJ.out.r) (fun y z h => row_alloc h z) ?_
      clear rp B9
      refine wpM_nil (fun x => ?_)
      have hs11 := x.below.size
      have B11 := Lib.hid (onto B10.out (by simp; omega) x.below)
      have rp11 := Lib.hid (carry x.below rp10.out)
      have hp11 := row_lt rp11.out
      have a1 := sum_sl_all p
      clear B10 rp10
      obtain ⟨Y, hY⟩ : ∃ Y, Y = x.val := ⟨_, rfl⟩
      rw [← hY] at hs11 B11 rp11 hp11 ⊢
      clear hY
      have OO := Lib.hid (HO.out.below B11.out (Nat.le_refl _))
      have SS := Lib.hid (Sl.of_row rp11.out Y.heap.size hp11)
      have hyw : w.heap.size + 1 ≤ Y.heap.size := by have := B11.out.size; omega
      go_wp2_with (at_builtin; refine wpl_appB rfl (.tmp 41) (.tmp 42) rfl sli_u u8_info OO.out SS.out (by omega) hyw rfl rfl ?_; intro v12 w12 ho12 hg12 ht12)
      have hs12 := hg12.size
      have J12 := Lib.hid (show RxInv w (tbA (.slice AK 64 cK) iF) w12 from ⟨OO.out.after hg12 (onto HJ.out.b (by omega) B11.out) (by omega) (by omega), grown_row hg12 (carry B11.out HJ.out.r) (fun e => by have := (OO.out.lt e).1; omega)⟩)
      have rp12 := grown_row hg12 rp11.out (fun e => by have := (HO.out.lt e).2; have := P1.out; omega)
      have L12 := Lib.hid (Sl.of_row rp12 w12.heap.size (row_lt rp12))
      have O12 := Lib.hid (show Own w12 (w.heap.size + 1) 5 v12 (32 * (j + 1)) (expF k n b m) by
        rw [show 32 * (j + 1) = F + 32 by have := HF.out; omega]
        refine ho12.congr fun i hi => ?_
        have hFe := HF.out
        unfold catF
        by_cases h : i < F
        · rw [if_pos h]
        · rw [if_neg h, HSS.out]
          unfold expF
          rw [show i / 32 = j by omega, show i % 32 = i - F by omega])
      obtain ⟨A13, c13, hv13, -, -, -⟩ := O12.out.sl
      have HV13 := Lib.hid hv13
      clear ho12 hg12 ht12 rp12 rp11 OO SS hv13
      go_roundw
      case rel => exact ⟨j + 1, by have := HF.out; omega, by rw [HJ1.out]; rfl, O12.out, ⟨_, _, rfl, by rw [← HSS.out]; exact L12.out⟩, J12.out⟩
      case measure =>
        rw [HV13.out]
        have := HF.out
        simp only [slN]
        omega
    · have hd : decide ((F : Int) < (L : Int)) = false := by simp; omega
      have hup := run_upto sli_u u8_i Ao F co L (by omega)
      clear hF
      go_wp2_with fail
      refine bodyPost_ret (v := .tuple #[.slice Ao L co, .int .i64 0]) (by simp [results, Tryz.results36, go_sem]) rfl ⟨Ao, co, rfl, HSO.out.upto L (by omega), by unfold maxLen; omega, HJ.out.b, fun a ha => by rcases HAO.out with h | ⟨g, h, hg⟩ <;> rw [h] at ha <;> cases ha; exact Nat.le_of_succ_le hg⟩

set_option maxHeartbeats 1000000 in
theorem rexp_new (k b : Bf) (n m c c' : Nat) (A A' : Option Addr) (L : Nat) (w : World) (hs : Sl w w.heap.size A n c k) (hs' : Sl w w.heap.size A' m c' b) (hn : n ≤ 70000) (hm : m ≤ 70000) (hL : L ≤ 8160) :
    Calls Tryz.prog 24 #[.slice A n c, .slice A' m c', .int .i64 L] w fun e w' => ∃ A9 c9, e = .returned (.tuple #[.slice A9 L c9, .int .i64 0]) ∧ Sl w' w'.heap.size A9 L c9 (expF k n b m) ∧ c9 ≤ maxLen ∧ Below w.heap.size w w' ∧ (∀ a, A9 = some a → w.heap.size ≤ a.block) := by
  have HS := Lib.hid hs
  have HS' := Lib.hid hs'
  clear hs hs'
  go_enter Tryz.func24, Tryz.ntmps24
  go_wp2_with fail
  refine (make_any _).mono ?_
  rintro e w1 ⟨AK, cK, rfl, hsl, hb1⟩
  have B1 := Lib.hid hb1
  have HSL := Lib.hid hsl
  have s1 := hb1.size
  have H1 := Lib.hid ((HS.out.below B1.out).more s1)
  have H1' := Lib.hid ((HS'.out.below B1.out).more s1)
  clear hsl hb1
  go_wp2_with fail
  refine (rexps_new k b n m c c' cK A A' AK L w1 H1.out H1'.out hn hm hL HSL.out).mono ?_
  rintro e w2 ⟨A9, c9, rfl, hs2, hc2, hb2, ha2⟩
  have HA2 := Lib.hid ha2
  have B2 := Lib.hid (onto B1.out (by omega) hb2)
  have HS2 := Lib.hid hs2
  have HC2 := Lib.hid hc2
  clear hb2 hs2 hc2 ha2
  go_wp2_with fail
  exact bodyPost_ret (v := .tuple #[.slice A9 L c9, .int .i64 0]) (by simp [results, Tryz.results24, go_sem]) rfl ⟨A9, c9, rfl, HS2.out, HC2.out, B2.out, fun a ha => Nat.le_trans s1 (HA2.out a ha)⟩
/-- the same, without where the result lies -/
theorem rexps_any (k b : Bf) (n m c c' cK : Nat) (A A' AK : Option Addr) (L : Nat) (w : World) (hs : Sl w w.heap.size A n c k) (hs' : Sl w w.heap.size A' m c' b) (hn : n ≤ 70000) (hm : m ≤ 70000) (hL : L ≤ 8160) (hK : SlG w w.heap.size AK 64 cK kV) :
    Calls Tryz.prog 36 #[.agg (tbA (.slice AK 64 cK) iF), .slice A n c, .slice A' m c', .int .i64 L] w fun e w' => ∃ A9 c9, e = .returned (.tuple #[.slice A9 L c9, .int .i64 0]) ∧ Sl w' w'.heap.size A9 L c9 (expF k n b m) ∧ c9 ≤ maxLen ∧ Below w.heap.size w w' :=
  (rexps_new k b n m c c' cK A A' AK L w hs hs' hn hm hL hK).mono fun _ _ ⟨A9, c9, h1, h2, h3, h4, _⟩ => ⟨A9, c9, h1, h2, h3, h4⟩
theorem rexp_any (k b : Bf) (n m c c' : Nat) (A A' : Option Addr) (L : Nat) (w : World) (hs : Sl w w.heap.size A n c k) (hs' : Sl w w.heap.size A' m c' b) (hn : n ≤ 70000) (hm : m ≤ 70000) (hL : L ≤ 8160) :
    Calls Tryz.prog 24 #[.slice A n c, .slice A' m c', .int .i64 L] w fun e w' => ∃ A9 c9, e = .returned (.tuple #[.slice A9 L c9, .int .i64 0]) ∧ Sl w' w'.heap.size A9 L c9 (expF k n b m) ∧ c9 ≤ maxLen ∧ Below w.heap.size w w' :=
  (rexp_new k b n m c c' A A' L w hs hs' hn hm hL).mono fun _ _ ⟨A9, c9, h1, h2, h3, h4, _⟩ => ⟨A9, c9, h1, h2, h3, h4⟩
end Go.Proofs.YtkgefljjjheobaaGreatDoor.Oct
