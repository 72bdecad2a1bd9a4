/- Contracts of gcm's writeNumber, and of the functions that write numbers into blocks. -/
import Derived.Test.YtokhldihfbaeoaaGcmMath
import Derived.Test.YtokhldihfbaeoaaSl2
import Derived.Test.YtokhldihfbaeoaaTyNo
import Derived.Test.YtokhldihfbaeoaaTySl
import Derived.Test.YtokhldihfbaeoaaFlow
import Derived.WalkKit
import Derived.ProofKit
import Derived.OpenShut
import Derived.Lib.Hide
import Derived.Outline
namespace Go.Proofs.Ytokhldihfbaeoaa.Oct
open Go.ChangeShapes Go.WideShapes Go.ChangeAt Go.RowKit
set_option linter.unusedVariables false

/-- the last j of m bytes of x are in, from place o on -/
def wrF (f : Bf) (o m x j : Nat) : Bf := fun i => if o + (m - j) ≤ i ∧ i < o + m then beN m x (i - o) else f i
theorem wrF_zero (f : Bf) (o m x : Nat) : wrF f o m x 0 = f := by funext i; unfold wrF; rw [if_neg (by omega)]
theorem wrF_all (f : Bf) (o m x : Nat) : wrF f o m x m = putF f o m (beN m x) := by
  funext i; unfold wrF putF; rw [Nat.sub_self, Nat.add_zero]
theorem wrF_step (f : Bf) (o m x j : Nat) (h : j < m) : upd (wrF f o m x j) (o + (m - (j + 1))) (BitVec.ofNat 8 (x / 256 ^ j)) = wrF f o m x (j + 1) := by
  funext i
  unfold upd wrF
  by_cases hi : i = o + (m - (j + 1))
  · rw [if_pos hi, if_pos (by omega)]
    unfold beN
    congr 2
    congr 1
    omega
  · rw [if_neg hi]
    by_cases h2 : o + (m - j) ≤ i ∧ i < o + m
    · rw [if_pos h2, if_pos (by omega)]
    · rw [if_neg h2, if_neg (by omega)]
theorem I_of8 (n : Nat) : ((n : Int) % 256) = I (BitVec.ofNat 8 n) := by
  unfold I; rw [BitVec.toNat_ofNat]; omega

set_option maxHeartbeats 1000000 in
theorem wnum_any (g o m c N x : Nat) (f : Bf) (w : World) (hr : row w g = some (ba N f)) (hom : o + m ≤ N) (hN : N ≤ 1000) (hx : x < 18446744073709551616) :
    Calls Try.prog 37 #[.slice (some ⟨g, o, none⟩) m c, .int .u64 x] w fun e w' => e = .returned (.tuple #[]) ∧ w' = w.setRow g (ba N (putF f o m (beN m x))) := by
  go_enter Try.func37, Try.ntmps37
  go_wp2
  go_loopw [1, 4] (fun v i wr => ∃ r j : Nat, r + j = m ∧ v = .int .u64 ((x / 256 ^ j : Nat) : Int) ∧ i = .int .i64 ((r : Int) - 1) ∧ wr = w.setRow g (ba N (wrF f o m x j))) (fun _ i _ => (intOf i + 1).toNat)
  case atStart => exact ⟨m, 0, by omega, by simp, rfl, by rw [wrF_zero, setRow_self hr]⟩
  case round =>
    obtain ⟨r, j, hrj, rfl, rfl, rfl⟩ := hrel
    rcases r with _ | s
    · obtain rfl : j = m := by omega
      rw [wrF_all]
      have hd : decide ((0 : Int) ≤ ((0 : Nat) : Int) - 1) = false := by decide
      go_wp2
      go_end0
      exact ⟨rfl, rfl⟩
    · have e1 : ((s + 1 : Nat) : Int) - 1 = (s : Int) := by omega
      rw [e1]
      have hd : decide ((0 : Int) ≤ (s : Int)) = true := by simp
      have hc := I_of8 (x / 256 ^ j)
      have hlt : x / 256 ^ j < 18446744073709551616 := Nat.lt_of_le_of_lt (Nat.div_le_self _ _) hx
      have hq : ((x / 256 ^ j : Nat) : Int) / 256 = ((x / 256 ^ (j + 1) : Nat) : Int) := by
        rw [Nat.pow_succ, ← Nat.div_div_eq_div_mul]; rfl
      obtain ⟨y, hy⟩ : ∃ y, y = x / 256 ^ j := ⟨_, rfl⟩
      obtain ⟨z, hz⟩ : ∃ z, z = x / 256 ^ (j + 1) := ⟨_, rfl⟩
      rw [← hy] at hc hlt hq ⊢
      rw [← hz] at hq
      have hrow := row_setRow hr (ba N (wrF f o m x j))
      have HST := Lib.hid (wrF_step f o m x j (by omega))
      have HY := Lib.hid hy
      have HZ := Lib.hid hz
      have hs : s < m := by omega
      have hj : j + s + 1 = m := by omega
      have hcl : (w.setRow g (ba N (wrF f o m x j))).cell? ⟨g, o + s, none⟩ = some (.int .u8 (I (wrF f o m x j (o + s)))) := by rw [cell_row hrow, ba_get _ _ _ (by omega)]
      have hfz : (w.setRow g (ba N (wrF f o m x j))).frozen? ⟨g, o + s, none⟩ = false := froz_row hrow _
      have HW := Lib.hid (show ((w.setRow g (ba N (wrF f o m x j))).setCell ⟨g, o + s, none⟩ (.int .u8 (I (BitVec.ofNat 8 y)))) = w.setRow g (ba N (wrF f o m x (j + 1))) by
        rw [setCell_row hrow, ba_set, setRow_setRow, hy, ← wrF_step f o m x j (by omega), show o + (m - (j + 1)) = o + s by omega])
      generalize w.setRow g (ba N (wrF f o m x j)) = wr at hcl hfz HW ⊢
      clear hy hz hrow
      go_wp2
      rw [HW.out]
      go_roundw
      case rel => exact ⟨s, j + 1, by omega, by rw [HZ.out], rfl, rfl⟩
      case measure => simp [intOf]

theorem ctr_put (n : Bf) (x : Nat) : ba 16 (putF (putF (fun _ => 0#8) 0 12 n) 12 4 (beN 4 x)) = ba 16 (ctrF n x) := ba_ext fun i hi => by
  unfold putF ctrF
  by_cases h : i < 12
  · rw [if_neg (by omega), if_pos (by omega), if_pos h, Nat.sub_zero]
  · rw [if_pos (by omega), if_neg h]
set_option maxHeartbeats 1000000 in
theorem cblk_any (n : Bf) (x : Nat) (hx : x < 4294967296) (w : World) :
    Calls Try.prog 20 #[.agg (ba 12 n), .int .u32 x] w fun e w' => e = .returned (.agg (ba 16 (ctrF n x))) ∧ Below w.heap.size w w' := by
  have B0 := Lib.hid ((((Below.refl w.heap.size w).alloc (by simp) (.cells (ba 12 n) 25)).alloc (by simp) (.cells (ba 16 fun _ => 0#8) 35)).alloc (by simp; omega) (.cells (ba 16 fun _ => 0#8) 35))
  have q0 : row (((w.alloc (.cells (ba 12 n) 25)).alloc (.cells (ba 16 fun _ => 0#8) 35)).alloc (.cells (ba 16 fun _ => 0#8) 35)) w.heap.size = some (ba 12 n) := by simp [go_sem]
  have q1 : row (((w.alloc (.cells (ba 12 n) 25)).alloc (.cells (ba 16 fun _ => 0#8) 35)).alloc (.cells (ba 16 fun _ => 0#8) 35)) (w.heap.size + 1) = some (ba 16 fun _ => 0#8) := by simp [go_sem]
  have q2 : row (((w.alloc (.cells (ba 12 n) 25)).alloc (.cells (ba 16 fun _ => 0#8) 35)).alloc (.cells (ba 16 fun _ => 0#8) 35)) (w.heap.size + 1 + 1) = some (ba 16 fun _ => 0#8) := by simp [go_sem]
  go_enter Try.func20, Try.ntmps20
  go_wp2
  refine flow_seen [([0, 1], 2, true)] [3] (by kernel_rfl) (by kernel_rfl) (fun _ _ _ _ _ h => h) fun X => ?_
  have B1 := Lib.hid (onto B0.out (by simp; omega) X.below)
  have r0 := After.row q0 X
  have r1 := After.row q1 X
  have r2 := After.row q2 X
  clear q0 q1 q2 B0
  generalize X.val = w1 at B1 r0 r1 r2 ⊢
  clear X
  have Q0 := After.row r0
  have Q2 := After.row r2
  simp only [wpFs, pk, List.getElem?_cons_zero, List.getElem?_cons_succ]
  repeat (go_big_quiet_step (fail))
  refine wpQuiet_nil ?_
  clear Q0 Q2
  have HS := Sl.of_row r0 w1.heap.size (row_lt r0)
  go_wp2_with (refine wpl_copy rfl (.tmp 7) (.tmp 8) 26 26 5 rfl sli_u u8_i r2 HS (show 12 = min 12 16 by rfl) rfl rfl ?_)
  have B2 := Lib.hid (below_setRow B1.out (by omega : w.heap.size ≤ w.heap.size + 1 + 1) (ba 16 (putF (fun _ => 0#8) 0 12 n)))
  have t1 : row (w1.setRow (w.heap.size + 1 + 1) (ba 16 (putF (fun _ => 0#8) 0 12 n))) (w.heap.size + 1) = some (ba 16 fun _ => 0#8) := by rw [row_setRow_other _ _ _ _ (by omega)]; exact r1
  have t2 : row (w1.setRow (w.heap.size + 1 + 1) (ba 16 (putF (fun _ => 0#8) 0 12 n))) (w.heap.size + 1 + 1) = some (ba 16 (putF (fun _ => 0#8) 0 12 n)) := row_setRow r2 _
  clear HS r0 r1 r2 B1
  generalize w1.setRow (w.heap.size + 1 + 1) (ba 16 (putF (fun _ => 0#8) 0 12 n)) = w2 at B2 t1 t2 ⊢
  show wpQuiet _ _ _ _ _ _
  repeat (go_big_quiet_step (fail))
  refine wpQuiet_nil ?_
  go_wp2_with fail
  refine (wnum_any _ 12 4 4 16 x _ _ t2 (by omega) (by omega) (by omega)).mono ?_
  rintro e w' ⟨rfl, rfl⟩
  rw [ctr_put]
  have B3 := Lib.hid (below_setRow B2.out (by omega : w.heap.size ≤ w.heap.size + 1 + 1) (ba 16 (ctrF n x)))
  have r1 : row (w2.setRow (w.heap.size + 1 + 1) (ba 16 (ctrF n x))) (w.heap.size + 1) = some (ba 16 fun _ => 0#8) := by rw [row_setRow_other _ _ _ _ (by omega)]; exact t1
  have r2 : row (w2.setRow (w.heap.size + 1 + 1) (ba 16 (ctrF n x))) (w.heap.size + 1 + 1) = some (ba 16 (ctrF n x)) := row_setRow t2 _
  clear t1 t2 B2
  generalize w2.setRow (w.heap.size + 1 + 1) (ba 16 (ctrF n x)) = w3 at B3 r1 r2 ⊢
  go_wp2_with fail
  refine bodyPost_ret (v := .agg (ba 16 (ctrF n x))) (res_row rfl _ _ (w.heap.size + 1) _ _ _ rfl (row_setRow r1 _) blk_u (by rw [ba_size]; exact blk_i)) rfl ⟨rfl, ?_⟩
  exact below_setRow B3.out (by omega) _

theorem ctr_upto0 (n : Bf) : ba 16 (upto 12 n (fun _ => 0#8)) = ba 16 (wrF (upto 12 n (fun _ => 0#8)) 12 4 0 0) := by rw [wrF_zero]
/-- the first twelve are in, and k of the last four -/
def rcF (n : Bf) (x k : Nat) : Bf := upto (12 + k) (ctrF n x) (fun _ => 0#8)
theorem rcF_zero (n : Bf) (x : Nat) : upto 12 n (fun _ => 0#8) = rcF n x 0 := by
  funext i; unfold rcF upto ctrF
  by_cases h : i < 12 <;> simp [h]
theorem rcF_step (n : Bf) (x k : Nat) (hk : k < 4) : upd (rcF n x k) (12 + k) (BitVec.ofNat 8 (x / 256 ^ (3 - k))) = rcF n x (k + 1) := by
  unfold rcF
  rw [show 12 + (k + 1) = 12 + k + 1 by omega, ← upto_step]
  congr 1
  unfold ctrF beN
  rw [if_neg (by omega), show 4 - 1 - (12 + k - 12) = 3 - k by omega]
set_option maxHeartbeats 1000000 in
theorem rctr_any (n : Bf) (x : Nat) (hx : x < 4294967296) (w : World) :
    Calls Try.prog 26 #[.agg (ba 12 n), .int .u32 x] w fun e w' => e = .returned (.agg (ba 16 (ctrF n x))) ∧ Below w.heap.size w w' := by
  have B0 := Lib.hid ((((Below.refl w.heap.size w).alloc (by simp) (.cells (ba 12 n) 25)).alloc (by simp) (.cells (ba 16 fun _ => 0#8) 35)))
  go_enter Try.func26, Try.ntmps26
  go_wp2
  go_loopw [6] (fun v wr => ∃ k : Nat, k ≤ 12 ∧ v = .int .i64 k ∧ wr = ((w.alloc (.cells (ba 12 n) 25)).alloc (.cells (ba 16 fun _ => 0#8) 35)).alloc (.cells (ba 16 (upto k n (fun _ => 0#8))) 35)) (fun v _ => 12 - (intOf v).toNat)
  case atStart => exact ⟨0, by omega, rfl, by rw [upto_zero]⟩
  case round =>
    obtain ⟨k, hk, rfl, rfl⟩ := hrel
    by_cases hlt : k < 12
    · have H := Lib.hid (upto_step k n (fun _ => 0#8))
      have h16 : k < 16 := by omega
      go_wp2
      go_roundw
      case rel => exact ⟨k + 1, by omega, by go_num, by rw [H.out]⟩
      case measure => simp [intOf]; omega
    · obtain rfl : k = 12 := by omega
      rw [rcF_zero n x]
      go_wp2
      go_loopw [7] (fun v wr => ∃ k : Nat, k ≤ 4 ∧ v = .int .i64 k ∧ wr = ((w.alloc (.cells (ba 12 n) 25)).alloc (.cells (ba 16 fun _ => 0#8) 35)).alloc (.cells (ba 16 (rcF n x k)) 35)) (fun v _ => 4 - (intOf v).toNat)
      case atStart => exact ⟨0, by omega, rfl, rfl⟩
      case round =>
        obtain ⟨k, hk, rfl, rfl⟩ := hrel
        by_cases hlt : k < 4
        · have H := Lib.hid (rcF_step n x k (by omega))
          have hsh : ((x : Int) / 2 ^ (24 - 8 * k)) % 256 = I (BitVec.ofNat 8 (x / 256 ^ (3 - k))) := by
            rw [← I_of8, show (256 : Nat) = 2 ^ 8 from rfl, ← Nat.pow_mul, show 8 * (3 - k) = 24 - 8 * k by omega, Int.natCast_ediv, Int.natCast_pow]; rfl
          have h16 : 12 + k < 16 := by omega
          have e1 : (24 - 8 * (k : Int)).toNat = 24 - 8 * k := by omega
          have b0 : 0 ≤ 24 - 8 * (k : Int) := by omega
          go_wp2
          go_roundw
          case rel => exact ⟨k + 1, by omega, by go_num, by rw [H.out]⟩
          case measure => simp [intOf]; omega
        · obtain rfl : k = 4 := by omega
          have hfin : ba 16 (rcF n x 4) = ba 16 (ctrF n x) := ba_ext fun i hi => by unfold rcF upto; rw [if_pos (by omega)]
          rw [hfin]
          clear hfin
          go_wp2
          refine bodyPost_ret (v := .agg (ba 16 (ctrF n x))) (res_row rfl _ _ (w.heap.size + 1) _ _ _ rfl (by simp [go_sem]) blk_u (by rw [ba_size]; exact blk_i)) rfl ⟨rfl, ?_⟩
          exact ((((Below.refl w.heap.size w).alloc (by simp) _).alloc (by simp) _).alloc (by simp; omega) _)

/- the first k bytes of x -/
set_option maxHeartbeats 1000000 in
theorem rbits_any (x : Nat) (hx : x < 1152921504606846976) (w : World) :
    Calls Try.prog 34 #[.int .i64 x] w fun e w' => ∃ v, e = .returned v ∧ Own w' w.heap.size 5 v 8 (beN 8 (8 * x)) ∧ Below w.heap.size w w' := by
  go_enter Try.func34, Try.ntmps34
  go_wp2
  go_loopw [3, 4] (fun v i wr => ∃ r j : Nat, r + j = 8 ∧ i = .int .i64 ((r : Int) - 1) ∧ Own wr w.heap.size 5 v j (beN 8 (8 * x)) ∧ Below w.heap.size w wr) (fun _ i _ => (intOf i + 1).toNat)
  case atStart => exact ⟨8, 0, rfl, rfl, Own.nil _ _ _ _, Below.refl _ _⟩
  case round =>
    obtain ⟨r, j, hrj, rfl, ho, hb⟩ := hrel
    have HO := Lib.hid ho
    have HB := Lib.hid hb
    clear ho hb
    rcases r with _ | s
    · obtain rfl : j = 8 := by omega
      have hd : decide ((0 : Int) ≤ ((0 : Nat) : Int) - 1) = false := by decide
      go_wp2
      go_ret
      exact ⟨_, rfl, HO.out, HB.out⟩
    · have e1 : ((s + 1 : Nat) : Int) - 1 = (s : Int) := by omega
      rw [e1]
      have hd : decide ((0 : Int) ≤ (s : Int)) = true := by simp
      have hs8 : s ≤ 7 := by omega
      have e2 : (8 * (s : Int)).toNat = 8 * s := by omega
      have b0 : 0 ≤ 8 * (s : Int) := by omega
      have hsh : (8 * (x : Int)) / 2 ^ (8 * s) % 256 = I (beN 8 (8 * x) j) := by
        unfold beN
        rw [← I_of8, show 8 - 1 - j = s by omega, show (256 : Nat) = 2 ^ 8 from rfl, ← Nat.pow_mul, Int.natCast_ediv, Int.natCast_pow, Int.natCast_mul]; rfl
      have HO1 := HO.out.alloc (.cells #[.int .u8 (I (beN 8 (8 * x) j))] 5)
      have HS1 := Sl.one wr 5 (beN 8 (8 * x) j) (wr.heap.size + 1) (by omega)
      have hsz := HB.out.size
      go_wp2_with (at_builtin; refine wpl_appB rfl (.tmp 9) (.tmp 16) rfl sli_u u8_info HO1 HS1 (by omega) (by simp; omega) rfl rfl ?_; intro v' w2 ho hg ht)
      have HO2 := Lib.hid (ho.congr (f' := beN 8 (8 * x)) fun i hi => by
        unfold catF
        by_cases h : i < j
        · rw [if_pos h]
        · rw [if_neg h, show i = j by omega])
      have HB2 := Lib.hid (HO1.after hg (HB.out.alloc hsz _) (by simp; omega) (Nat.le_refl _))
      clear ho hg ht HO1 HS1
      go_roundw
      case rel => exact ⟨s, j + 1, by omega, rfl, HO2.out, HB2.out⟩
      case measure => simp [intOf]

set_option maxHeartbeats 1000000 in
theorem lens_any (n1 c1 n2 c2 : Nat) (A1 A2 : Option Addr) (h1 : n1 ≤ 1099511627776) (h2 : n2 ≤ 1099511627776) (w : World) :
    Calls Try.prog 29 #[.slice A1 n1 c1, .slice A2 n2 c2] w fun e w' => e = .returned (.agg (ba 16 (catF 8 (beN 8 (8 * n1)) (beN 8 (8 * n2))))) ∧ Below w.heap.size w w' := by
  have B0 := Lib.hid (((Below.refl w.heap.size w).alloc (by simp) (.cells (ba 16 fun _ => 0#8) 35)).alloc (by simp) (.cells (ba 16 fun _ => 0#8) 35))
  have q0 : row ((w.alloc (.cells (ba 16 fun _ => 0#8) 35)).alloc (.cells (ba 16 fun _ => 0#8) 35)) w.heap.size = some (ba 16 fun _ => 0#8) := by simp [go_sem]
  have q1 : row ((w.alloc (.cells (ba 16 fun _ => 0#8) 35)).alloc (.cells (ba 16 fun _ => 0#8) 35)) (w.heap.size + 1) = some (ba 16 fun _ => 0#8) := by simp [go_sem]
  go_enter Try.func29, Try.ntmps29
  go_wp2_with fail
  generalize (w.alloc (.cells (ba 16 fun _ => 0#8) 35)).alloc (.cells (ba 16 fun _ => 0#8) 35) = w1 at B0 q0 q1 ⊢
  have c1 := wnum_any (w.heap.size + 1) 0 8 16 16 (n1 * 8) (fun _ => 0#8) w1 q1 (by omega) (by omega) (by omega)
  rw [Int.natCast_mul] at c1
  refine c1.mono ?_
  rintro e w' ⟨rfl, rfl⟩
  have B1 := Lib.hid (below_setRow B0.out (by omega : w.heap.size ≤ w.heap.size + 1) (ba 16 (putF (fun _ => 0#8) 0 8 (beN 8 (n1 * 8)))))
  have r0 : row (w1.setRow (w.heap.size + 1) (ba 16 (putF (fun _ => 0#8) 0 8 (beN 8 (n1 * 8))))) w.heap.size = some (ba 16 fun _ => 0#8) := by rw [row_setRow_other _ _ _ _ (by omega)]; exact q0
  have r1 : row (w1.setRow (w.heap.size + 1) (ba 16 (putF (fun _ => 0#8) 0 8 (beN 8 (n1 * 8))))) (w.heap.size + 1) = some (ba 16 (putF (fun _ => 0#8) 0 8 (beN 8 (n1 * 8)))) := row_setRow q1 _
  clear q0 q1 B0 c1
  generalize w1.setRow (w.heap.size + 1) (ba 16 (putF (fun _ => 0#8) 0 8 (beN 8 (n1 * 8)))) = w2 at B1 r0 r1 ⊢
  go_wp2_with fail
  have c2 := wnum_any (w.heap.size + 1) 8 8 8 16 (n2 * 8) (putF (fun _ => 0#8) 0 8 (beN 8 (n1 * 8))) w2 r1 (by omega) (by omega) (by omega)
  rw [Int.natCast_mul] at c2
  refine c2.mono ?_
  rintro e w' ⟨rfl, rfl⟩
  have hF : ba 16 (putF (putF (fun _ => 0#8) 0 8 (beN 8 (n1 * 8))) 8 8 (beN 8 (n2 * 8))) = ba 16 (catF 8 (beN 8 (8 * n1)) (beN 8 (8 * n2))) := ba_ext fun i hi => by
    rw [Nat.mul_comm n1, Nat.mul_comm n2]
    unfold putF catF
    by_cases h : i < 8
    · rw [if_neg (by omega), if_pos (by omega), if_pos h, Nat.sub_zero]
    · rw [if_pos (by omega), if_neg h]
  rw [hF]
  have B2 := Lib.hid (below_setRow B1.out (by omega : w.heap.size ≤ w.heap.size + 1) (ba 16 (catF 8 (beN 8 (8 * n1)) (beN 8 (8 * n2)))))
  have t0 : row (w2.setRow (w.heap.size + 1) (ba 16 (catF 8 (beN 8 (8 * n1)) (beN 8 (8 * n2))))) w.heap.size = some (ba 16 fun _ => 0#8) := by rw [row_setRow_other _ _ _ _ (by omega)]; exact r0
  have t1 : row (w2.setRow (w.heap.size + 1) (ba 16 (catF 8 (beN 8 (8 * n1)) (beN 8 (8 * n2))))) (w.heap.size + 1) = some (ba 16 (catF 8 (beN 8 (8 * n1)) (beN 8 (8 * n2)))) := row_setRow r1 _
  clear r0 r1 B1 c2 hF
  generalize w2.setRow (w.heap.size + 1) (ba 16 (catF 8 (beN 8 (8 * n1)) (beN 8 (8 * n2)))) = w3 at B2 t0 t1 ⊢
  go_wp2_with fail
  refine bodyPost_ret (v := .agg (ba 16 (catF 8 (beN 8 (8 * n1)) (beN 8 (8 * n2))))) (res_row rfl _ _ w.heap.size _ _ _ rfl (row_setRow t0 _) blk_u (by rw [ba_size]; exact blk_i)) rfl ⟨rfl, ?_⟩
  exact below_setRow B2.out (Nat.le_refl _) _
end Go.Proofs.Ytokhldihfbaeoaa.Oct
