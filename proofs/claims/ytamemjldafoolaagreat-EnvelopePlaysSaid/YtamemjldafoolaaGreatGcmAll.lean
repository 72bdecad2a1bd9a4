import Derived.Test.YtamemjldafoolaaGreatBlkAll
import Derived.Test.YtamemjldafoolaaGreatAlg
import Derived.Test.YtamemjldafoolaaGreatLib
import Derived.Test.YtamemjldafoolaaGreatTys
import Derived.Test.YtamemjldafoolaaGreatTySl
import Derived.WalkKit
import Derived.ProofKit
import Derived.OpenShut
import Derived.Lib.Hide
import Derived.Outline
import Derived.Test.YtamemjldafoolaaGreatAesAll
import Derived.IntWalk
import Derived.Test.YtamemjldafoolaaGreatConcat

/-! ## GcmMath -/
/- The plain mathematics of gcm: numbers as bytes, counter blocks, the stream, what is hashed, the tag. -/
set_option linter.unusedSimpArgs false
namespace Go.Proofs.YtamemjldafoolaaGreat.Oct

/-- x as m bytes, the highest first -/
def beN (m x : Nat) : Bf := fun i => BitVec.ofNat 8 (x / 256 ^ (m - 1 - i))
/-- the block of a counter -/
def ctrF (n : Bf) (c : Nat) : Bf := fun i => if i < 12 then n i else beN 4 c (i - 12)
def xorS (k n : Bf) (from_ : Nat) (b : Bf) : Bf := fun i => b i ^^^ aenF k (ctrF n ((from_ + i / 16) % 4294967296)) (i % 16)
def up16 (n : Nat) : Nat := 16 * ((n + 15) / 16)
def allF (s : Bf) (ns : Nat) (b : Bf) (nb : Nat) : Bf := fun i =>
  if i < up16 ns then padF s ns i else if i < up16 ns + up16 nb then padF b nb (i - up16 ns) else if i < up16 ns + up16 nb + 8 then beN 8 (8 * ns) (i - (up16 ns + up16 nb)) else beN 8 (8 * nb) (i - (up16 ns + up16 nb + 8))
def tagF (k n : Bf) (s : Bf) (ns : Nat) (b : Bf) (nb : Nat) : Bf := xorF (aenF k (ctrF n 1)) (hshF (aenF k nF) (allF s ns b nb) (up16 ns + up16 nb + 16))

theorem xorS_back (k n : Bf) (from_ : Nat) (b : Bf) : xorS k n from_ (xorS k n from_ b) = b := by
  funext i; unfold xorS; rw [BitVec.xor_assoc, BitVec.xor_self, BitVec.xor_zero]
theorem xorF_comm' (f g : Bf) : xorF f g = xorF g f := by funext i; unfold xorF; rw [BitVec.xor_comm]
theorem hshF_congr {h b b' : Bf} {n : Nat} (e : ∀ i, i < n → b i = b' i) : hshF h b n = hshF h b' n := by
  unfold hshF
  refine hshT_congr _ fun j _ i _ => ?_
  unfold grp
  by_cases hi : 16 * j + i < n
  · rw [if_pos hi, if_pos hi, e _ hi]
  · rw [if_neg hi, if_neg hi]
theorem padF_congr {b b' : Bf} {n : Nat} (e : ∀ i, i < n → b i = b' i) : padF b n = padF b' n := by
  funext i; unfold padF
  by_cases hi : i < n
  · rw [if_pos hi, if_pos hi, e i hi]
  · rw [if_neg hi, if_neg hi]
theorem tagF_congr {k n s s' b b' : Bf} {ns nb : Nat} (hs : ∀ i, i < ns → s i = s' i) (hb : ∀ i, i < nb → b i = b' i) : tagF k n s ns b nb = tagF k n s' ns b' nb := by
  unfold tagF allF
  rw [padF_congr hs, padF_congr hb]
theorem up16_le (n : Nat) : n ≤ up16 n ∧ up16 n ≤ n + 15 := by unfold up16; omega
theorem up16_mod (n : Nat) : up16 n % 16 = 0 := by unfold up16; omega

/- the next counter -/
theorem inc_zero (x : Nat) : (BitVec.ofNat 8 x + 1#8 = 0#8) ↔ x % 256 = 255 := by
  constructor
  · intro h
    have := congrArg BitVec.toNat h
    simp at this
    omega
  · intro h
    apply BitVec.eq_of_toNat_eq
    simp
    omega
theorem ofNat_inc (x : Nat) : BitVec.ofNat 8 x + 1#8 = BitVec.ofNat 8 (x + 1) := by
  apply BitVec.eq_of_toNat_eq; simp
theorem ofNat_congr {x y : Nat} (h : x % 256 = y % 256) : BitVec.ofNat 8 x = BitVec.ofNat 8 y := by
  apply BitVec.eq_of_toNat_eq; simp; omega
theorem ctr_next (n : Bf) (c : Nat) (i : Nat) (hi : i < 16) : nextF (ctrF n c) i = ctrF n ((c + 1) % 4294967296) i := by
  by_cases hl : i < 12
  · rw [nextF_low _ i hl]; unfold ctrF; rw [if_pos hl, if_pos hl]
  · have e15 : ctrF n c 15 = BitVec.ofNat 8 c := by simp [ctrF, beN]
    have e14 : ctrF n c 14 = BitVec.ofNat 8 (c / 256) := by simp [ctrF, beN]
    have e13 : ctrF n c 13 = BitVec.ofNat 8 (c / 65536) := by simp [ctrF, beN]
    have e12 : ctrF n c 12 = BitVec.ofNat 8 (c / 16777216) := by simp [ctrF, beN]
    have hR : ctrF n ((c + 1) % 4294967296) i = BitVec.ofNat 8 ((c + 1) % 4294967296 / 256 ^ (15 - i)) := by
      unfold ctrF beN; rw [if_neg hl, show 4 - 1 - (i - 12) = 15 - i by omega]
    rw [hR]
    unfold nextF
    unfold nxF
    simp only [show 12 + 3 = 15 from rfl]
    rw [e15]
    have hcase : i = 12 ∨ i = 13 ∨ i = 14 ∨ i = 15 := by omega
    by_cases h15 : c % 256 = 255
    · rw [if_pos ((inc_zero c).2 h15)]
      unfold nxF
      simp only [show 12 + 2 = 14 from rfl]
      rw [show upd (ctrF n c) 15 (BitVec.ofNat 8 c + 1#8) 14 = BitVec.ofNat 8 (c / 256) by simp [upd, e14]]
      by_cases h14 : c / 256 % 256 = 255
      · rw [if_pos ((inc_zero _).2 h14)]
        unfold nxF
        simp only [show 12 + 1 = 13 from rfl]
        rw [show upd (upd (ctrF n c) 15 (BitVec.ofNat 8 c + 1#8)) 14 (BitVec.ofNat 8 (c / 256) + 1#8) 13 = BitVec.ofNat 8 (c / 65536) by simp [upd, e13]]
        by_cases h13 : c / 65536 % 256 = 255
        · rw [if_pos ((inc_zero _).2 h13)]
          unfold nxF
          simp only [show 12 + 0 = 12 from rfl]
          rw [show upd (upd (upd (ctrF n c) 15 (BitVec.ofNat 8 c + 1#8)) 14 (BitVec.ofNat 8 (c / 256) + 1#8)) 13 (BitVec.ofNat 8 (c / 65536) + 1#8) 12 = BitVec.ofNat 8 (c / 16777216) by simp [upd, e12]]
          have hx : (if BitVec.ofNat 8 (c / 16777216) + 1#8 = 0#8 then nxF 0 (upd (upd (upd (upd (ctrF n c) 15 (BitVec.ofNat 8 c + 1#8)) 14 (BitVec.ofNat 8 (c / 256) + 1#8)) 13 (BitVec.ofNat 8 (c / 65536) + 1#8)) 12 (BitVec.ofNat 8 (c / 16777216) + 1#8)) else upd (upd (upd (upd (ctrF n c) 15 (BitVec.ofNat 8 c + 1#8)) 14 (BitVec.ofNat 8 (c / 256) + 1#8)) 13 (BitVec.ofNat 8 (c / 65536) + 1#8)) 12 (BitVec.ofNat 8 (c / 16777216) + 1#8)) = upd (upd (upd (upd (ctrF n c) 15 (BitVec.ofNat 8 c + 1#8)) 14 (BitVec.ofNat 8 (c / 256) + 1#8)) 13 (BitVec.ofNat 8 (c / 65536) + 1#8)) 12 (BitVec.ofNat 8 (c / 16777216) + 1#8) := by
            split <;> rfl
          rw [hx]
          rcases hcase with rfl | rfl | rfl | rfl
          all_goals
            simp only [upd]
            simp only [ofNat_inc]
            simp
            exact ofNat_congr (by omega)
        · rw [if_neg (fun h => h13 ((inc_zero _).1 h))]
          rcases hcase with rfl | rfl | rfl | rfl
          all_goals
            simp only [upd]
            simp only [ofNat_inc, e12, e13, e14, e15]
            simp [e12]
            exact ofNat_congr (by omega)
      · rw [if_neg (fun h => h14 ((inc_zero _).1 h))]
        rcases hcase with rfl | rfl | rfl | rfl
        all_goals
          simp only [upd]
          simp only [ofNat_inc, e12, e13, e14, e15]
          simp [e12, e13]
          exact ofNat_congr (by omega)
    · rw [if_neg (fun h => h15 ((inc_zero _).1 h))]
      rcases hcase with rfl | rfl | rfl | rfl
      all_goals
        simp only [upd]
        simp only [ofNat_inc, e12, e13, e14, e15]
        simp [e12, e13, e14]
        exact ofNat_congr (by omega)
theorem ctr_next_ba (n : Bf) (c : Nat) : ba 16 (nextF (ctrF n c)) = ba 16 (ctrF n ((c + 1) % 4294967296)) := ba_ext (ctr_next n c)
theorem cnt_step (a j : Nat) : ((a + j) % 4294967296 + 1) % 4294967296 = (a + (j + 1)) % 4294967296 := by omega
end Go.Proofs.YtamemjldafoolaaGreat.Oct

/-! ## GcmA -/
/- Contracts of gcm's writeNumber, and of the functions that write numbers into blocks. -/
namespace Go.Proofs.YtamemjldafoolaaGreat.Oct
open Go.ChangeShapes Go.WideShapes Go.ChangeAt Go.RowKit
set_option linter.unusedVariables false

/-- the last j of m bytes of x are in, from place o on -/
def wrF (f : Bf) (o m x j : Nat) : Bf := fun i => if o + (m - j) ≤ i ∧ i < o + m then beN m x (i - o) else f i
theorem wrF_zero (f : Bf) (o m x : Nat) : wrF f o m x 0 = f := by funext i; unfold wrF; rw [if_neg (by omega)]
theorem wrF_all (f : Bf) (o m x : Nat) : wrF f o m x m = putF f o m (beN m x) := by
  funext i; unfold wrF putF; rw [Nat.sub_self, Nat.add_zero]
theorem wrF_step (f : Bf) (o m x j : Nat) (h : j < m) : upd (wrF f o m x j) (o + (m - (j + 1))) (BitVec.ofNat 8 (x / 256 ^ j)) = wrF f o m x (j + 1) := by
  funext i
  unfold upd wrF
  by_cases hi : i = o + (m - (j + 1))
  · rw [if_pos hi, if_pos (by omega)]
    unfold beN
    congr 2
    congr 1
    omega
  · rw [if_neg hi]
    by_cases h2 : o + (m - j) ≤ i ∧ i < o + m
    · rw [if_pos h2, if_pos (by omega)]
    · rw [if_neg h2, if_neg (by omega)]
theorem I_of8 (n : Nat) : ((n : Int) % 256) = I (BitVec.ofNat 8 n) := by
  unfold I; rw [BitVec.toNat_ofNat]; omega

set_option maxHeartbeats 1000000 in
theorem wnum_any (g o m c N x : Nat) (f : Bf) (w : World) (hr : row w g = some (ba N f)) (hom : o + m ≤ N) (hN : N ≤ 1000) (hx : x < 18446744073709551616) :
    Calls Tryz.prog 81 #[.slice (some ⟨g, o, none⟩) m c, .int .u64 x] w fun e w' => e = .returned (.tuple #[]) ∧ w' = w.setRow g (ba N (putF f o m (beN m x))) := by
  go_enter Tryz.func81, Tryz.ntmps81
  go_wp2
  go_loopw [1, 4] (fun v i wr => ∃ r j : Nat, r + j = m ∧ v = .int .u64 ((x / 256 ^ j : Nat) : Int) ∧ i = .int .i64 ((r : Int) - 1) ∧ wr = w.setRow g (ba N (wrF f o m x j))) (fun _ i _ => (intOf i + 1).toNat)
  case atStart => exact ⟨m, 0, by omega, by simp, rfl, by rw [wrF_zero, setRow_self hr]⟩
  case round =>
    obtain ⟨r, j, hrj, rfl, rfl, rfl⟩ := hrel
    rcases r with _ | s
    · obtain rfl : j = m := by omega
      rw [wrF_all]
      have hd : decide ((0 : Int) ≤ ((0 : Nat) : Int) - 1) = false := by decide
      go_wp2
      go_end0
      exact ⟨rfl, rfl⟩
    · have e1 : ((s + 1 : Nat) : Int) - 1 = (s : Int) := by omega
      rw [e1]
      have hd : decide ((0 : Int) ≤ (s : Int)) = true := by simp
      have hc := I_of8 (x / 256 ^ j)
      have hlt : x / 256 ^ j < 18446744073709551616 := Nat.lt_of_le_of_lt (Nat.div_le_self _ _) hx
      have hq : ((x / 256 ^ j : Nat) : Int) / 256 = ((x / 256 ^ (j + 1) : Nat) : Int) := by
        rw [Nat.pow_succ, ← Nat.div_div_eq_div_mul]; rfl
      obtain ⟨y, hy⟩ : ∃ y, y = x / 256 ^ j := ⟨_, rfl⟩
      obtain ⟨z, hz⟩ : ∃ z, z = x / 256 ^ (j + 1) := ⟨_, rfl⟩
      rw [← hy] at hc hlt hq ⊢
      rw [← hz] at hq
      have hrow := row_setRow hr (ba N (wrF f o m x j))
      have HST := Lib.hid (wrF_step f o m x j (by omega))
      have HY := Lib.hid hy
      have HZ := Lib.hid hz
      have hs : s < m := by omega
      have hj : j + s + 1 = m := by omega
      have hcl : (w.setRow g (ba N (wrF f o m x j))).cell? ⟨g, o + s, none⟩ = some (.int .u8 (I (wrF f o m x j (o + s)))) := by rw [cell_row hrow, ba_get _ _ _ (by omega)]
      have hfz : (w.setRow g (ba N (wrF f o m x j))).frozen? ⟨g, o + s, none⟩ = false := froz_row hrow _
      have HW := Lib.hid (show ((w.setRow g (ba N (wrF f o m x j))).setCell ⟨g, o + s, none⟩ (.int .u8 (I (BitVec.ofNat 8 y)))) = w.setRow g (ba N (wrF f o m x (j + 1))) by
        rw [setCell_row hrow, ba_set, setRow_setRow, hy, ← wrF_step f o m x j (by omega), show o + (m - (j + 1)) = o + s by omega])
      generalize w.setRow g (ba N (wrF f o m x j)) = wr at hcl hfz HW ⊢
      clear hy hz hrow
      go_wp2
      rw [HW.out]
      go_roundw
      case rel => exact ⟨s, j + 1, by omega, by rw [HZ.out], rfl, rfl⟩
      case measure => simp [intOf]

theorem ctr_put (n : Bf) (x : Nat) : ba 16 (putF (putF (fun _ => 0#8) 0 12 n) 12 4 (beN 4 x)) = ba 16 (ctrF n x) := ba_ext fun i hi => by
  unfold putF ctrF
  by_cases h : i < 12
  · rw [if_neg (by omega), if_pos (by omega), if_pos h, Nat.sub_zero]
  · rw [if_pos (by omega), if_neg h]
set_option maxHeartbeats 1000000 in
theorem cblk_any (n : Bf) (x : Nat) (hx : x < 4294967296) (w : World) :
    Calls Tryz.prog 61 #[.agg (ba 12 n), .int .u32 x] w fun e w' => e = .returned (.agg (ba 16 (ctrF n x))) ∧ Below w.heap.size w w' := by
  have B0 := Lib.hid ((((Below.refl w.heap.size w).alloc (by simp) (.cells (ba 12 n) 78)).alloc (by simp) (.cells (ba 16 fun _ => 0#8) 100)).alloc (by simp; omega) (.cells (ba 16 fun _ => 0#8) 100))
  have q0 : row (((w.alloc (.cells (ba 12 n) 78)).alloc (.cells (ba 16 fun _ => 0#8) 100)).alloc (.cells (ba 16 fun _ => 0#8) 100)) w.heap.size = some (ba 12 n) := by simp [go_sem]
  have q1 : row (((w.alloc (.cells (ba 12 n) 78)).alloc (.cells (ba 16 fun _ => 0#8) 100)).alloc (.cells (ba 16 fun _ => 0#8) 100)) (w.heap.size + 1) = some (ba 16 fun _ => 0#8) := by simp [go_sem]
  have q2 : row (((w.alloc (.cells (ba 12 n) 78)).alloc (.cells (ba 16 fun _ => 0#8) 100)).alloc (.cells (ba 16 fun _ => 0#8) 100)) (w.heap.size + 1 + 1) = some (ba 16 fun _ => 0#8) := by simp [go_sem]
  go_enter Tryz.func61, Tryz.ntmps61
  go_wp2
  refine flow_seen [([0, 1], 2, true)] [3] (by kernel_rfl) (by kernel_rfl) (fun _ _ _ _ _ h => h) fun X => ?_
  have B1 := Lib.hid (onto B0.out (by simp; omega) X.below)
  have r0 := After.row q0 X
  have r1 := After.row q1 X
  have r2 := After.row q2 X
  clear q0 q1 q2 B0
  generalize X.val = w1 at B1 r0 r1 r2 ⊢
  clear X
  have Q0 := After.row r0
  have Q2 := After.row r2
  simp only [wpFs, pk, List.getElem?_cons_zero, List.getElem?_cons_succ]
  repeat (go_big_quiet_step (fail))
  refine wpQuiet_nil ?_
  clear Q0 Q2
  have HS := Sl.of_row r0 w1.heap.size (row_lt r0)
  go_wp2_with (refine wpl_copy rfl (.tmp 7) (.tmp 8) 33 33 5 rfl sli_u u8_i r2 HS (show 12 = min 12 16 by rfl) rfl rfl ?_)
  have B2 := Lib.hid (below_setRow B1.out (by omega : w.heap.size ≤ w.heap.size + 1 + 1) (ba 16 (putF (fun _ => 0#8) 0 12 n)))
  have t1 : row (w1.setRow (w.heap.size + 1 + 1) (ba 16 (putF (fun _ => 0#8) 0 12 n))) (w.heap.size + 1) = some (ba 16 fun _ => 0#8) := by rw [row_setRow_other _ _ _ _ (by omega)]; exact r1
  have t2 : row (w1.setRow (w.heap.size + 1 + 1) (ba 16 (putF (fun _ => 0#8) 0 12 n))) (w.heap.size + 1 + 1) = some (ba 16 (putF (fun _ => 0#8) 0 12 n)) := row_setRow r2 _
  clear HS r0 r1 r2 B1
  generalize w1.setRow (w.heap.size + 1 + 1) (ba 16 (putF (fun _ => 0#8) 0 12 n)) = w2 at B2 t1 t2 ⊢
  show wpQuiet _ _ _ _ _ _
  repeat (go_big_quiet_step (fail))
  refine wpQuiet_nil ?_
  go_wp2_with fail
  refine (wnum_any _ 12 4 4 16 x _ _ t2 (by omega) (by omega) (by omega)).mono ?_
  rintro e w' ⟨rfl, rfl⟩
  rw [ctr_put]
  have B3 := Lib.hid (below_setRow B2.out (by omega : w.heap.size ≤ w.heap.size + 1 + 1) (ba 16 (ctrF n x)))
  have r1 : row (w2.setRow (w.heap.size + 1 + 1) (ba 16 (ctrF n x))) (w.heap.size + 1) = some (ba 16 fun _ => 0#8) := by rw [row_setRow_other _ _ _ _ (by omega)]; exact t1
  have r2 : row (w2.setRow (w.heap.size + 1 + 1) (ba 16 (ctrF n x))) (w.heap.size + 1 + 1) = some (ba 16 (ctrF n x)) := row_setRow t2 _
  clear t1 t2 B2
  generalize w2.setRow (w.heap.size + 1 + 1) (ba 16 (ctrF n x)) = w3 at B3 r1 r2 ⊢
  go_wp2_with fail
  refine bodyPost_ret (v := .agg (ba 16 (ctrF n x))) (res_row rfl _ _ (w.heap.size + 1) _ _ _ rfl (row_setRow r1 _) blk_u (by rw [ba_size]; exact blk_i)) rfl ⟨rfl, ?_⟩
  exact below_setRow B3.out (by omega) _

theorem ctr_upto0 (n : Bf) : ba 16 (upto 12 n (fun _ => 0#8)) = ba 16 (wrF (upto 12 n (fun _ => 0#8)) 12 4 0 0) := by rw [wrF_zero]
/-- the first twelve are in, and k of the last four -/
def rcF (n : Bf) (x k : Nat) : Bf := upto (12 + k) (ctrF n x) (fun _ => 0#8)
theorem rcF_zero (n : Bf) (x : Nat) : upto 12 n (fun _ => 0#8) = rcF n x 0 := by
  funext i; unfold rcF upto ctrF
  by_cases h : i < 12 <;> simp [h]
theorem rcF_step (n : Bf) (x k : Nat) (hk : k < 4) : upd (rcF n x k) (12 + k) (BitVec.ofNat 8 (x / 256 ^ (3 - k))) = rcF n x (k + 1) := by
  unfold rcF
  rw [show 12 + (k + 1) = 12 + k + 1 by omega, ← upto_step]
  congr 1
  unfold ctrF beN
  rw [if_neg (by omega), show 4 - 1 - (12 + k - 12) = 3 - k by omega]
set_option maxHeartbeats 1000000 in
theorem rctr_any (n : Bf) (x : Nat) (hx : x < 4294967296) (w : World) :
    Calls Tryz.prog 71 #[.agg (ba 12 n), .int .u32 x] w fun e w' => e = .returned (.agg (ba 16 (ctrF n x))) ∧ Below w.heap.size w w' := by
  have B0 := Lib.hid ((((Below.refl w.heap.size w).alloc (by simp) (.cells (ba 12 n) 78)).alloc (by simp) (.cells (ba 16 fun _ => 0#8) 100)))
  go_enter Tryz.func71, Tryz.ntmps71
  go_wp2
  go_loopw [6] (fun v wr => ∃ k : Nat, k ≤ 12 ∧ v = .int .i64 k ∧ wr = ((w.alloc (.cells (ba 12 n) 78)).alloc (.cells (ba 16 fun _ => 0#8) 100)).alloc (.cells (ba 16 (upto k n (fun _ => 0#8))) 100)) (fun v _ => 12 - (intOf v).toNat)
  case atStart => exact ⟨0, by omega, rfl, by rw [upto_zero]⟩
  case round =>
    obtain ⟨k, hk, rfl, rfl⟩ := hrel
    by_cases hlt : k < 12
    · have H := Lib.hid (upto_step k n (fun _ => 0#8))
      have h16 : k < 16 := by omega
      go_wp2
      go_roundw
      case rel => exact ⟨k + 1, by omega, by go_num, by rw [H.out]⟩
      case measure => simp [intOf]; omega
    · obtain rfl : k = 12 := by omega
      rw [rcF_zero n x]
      go_wp2
      go_loopw [7] (fun v wr => ∃ k : Nat, k ≤ 4 ∧ v = .int .i64 k ∧ wr = ((w.alloc (.cells (ba 12 n) 78)).alloc (.cells (ba 16 fun _ => 0#8) 100)).alloc (.cells (ba 16 (rcF n x k)) 100)) (fun v _ => 4 - (intOf v).toNat)
      case atStart => exact ⟨0, by omega, rfl, rfl⟩
      case round =>
        obtain ⟨k, hk, rfl, rfl⟩ := hrel
        by_cases hlt : k < 4
        · have H := Lib.hid (rcF_step n x k (by omega))
          have hsh : ((x : Int) / 2 ^ (24 - 8 * k)) % 256 = I (BitVec.ofNat 8 (x / 256 ^ (3 - k))) := by
            rw [← I_of8, show (256 : Nat) = 2 ^ 8 from rfl, ← Nat.pow_mul, show 8 * (3 - k) = 24 - 8 * k by omega, Int.natCast_ediv, Int.natCast_pow]; rfl
          have h16 : 12 + k < 16 := by omega
          have e1 : (24 - 8 * (k : Int)).toNat = 24 - 8 * k := by omega
          have b0 : 0 ≤ 24 - 8 * (k : Int) := by omega
          go_wp2
          go_roundw
          case rel => exact ⟨k + 1, by omega, by go_num, by rw [H.out]⟩
          case measure => simp [intOf]; omega
        · obtain rfl : k = 4 := by omega
          have hfin : ba 16 (rcF n x 4) = ba 16 (ctrF n x) := ba_ext fun i hi => by unfold rcF upto; rw [if_pos (by omega)]
          rw [hfin]
          clear hfin
          go_wp2
          refine bodyPost_ret (v := .agg (ba 16 (ctrF n x))) (res_row rfl _ _ (w.heap.size + 1) _ _ _ rfl (by simp [go_sem]) blk_u (by rw [ba_size]; exact blk_i)) rfl ⟨rfl, ?_⟩
          exact ((((Below.refl w.heap.size w).alloc (by simp) _).alloc (by simp) _).alloc (by simp; omega) _)

/- the first k bytes of x -/
set_option maxHeartbeats 1000000 in
theorem rbits_any (x : Nat) (hx : x < 1152921504606846976) (w : World) :
    Calls Tryz.prog 75 #[.int .i64 x] w fun e w' => ∃ v, e = .returned v ∧ Own w' w.heap.size 5 v 8 (beN 8 (8 * x)) ∧ Below w.heap.size w w' := by
  go_enter Tryz.func75, Tryz.ntmps75
  go_wp2
  go_loopw [3, 4] (fun v i wr => ∃ r j : Nat, r + j = 8 ∧ i = .int .i64 ((r : Int) - 1) ∧ Own wr w.heap.size 5 v j (beN 8 (8 * x)) ∧ Below w.heap.size w wr) (fun _ i _ => (intOf i + 1).toNat)
  case atStart => exact ⟨8, 0, rfl, rfl, Own.nil _ _ _ _, Below.refl _ _⟩
  case round =>
    obtain ⟨r, j, hrj, rfl, ho, hb⟩ := hrel
    have HO := Lib.hid ho
    have HB := Lib.hid hb
    clear ho hb
    rcases r with _ | s
    · obtain rfl : j = 8 := by omega
      have hd : decide ((0 : Int) ≤ ((0 : Nat) : Int) - 1) = false := by decide
      go_wp2
      go_ret
      exact ⟨_, rfl, HO.out, HB.out⟩
    · have e1 : ((s + 1 : Nat) : Int) - 1 = (s : Int) := by omega
      rw [e1]
      have hd : decide ((0 : Int) ≤ (s : Int)) = true := by simp
      have hs8 : s ≤ 7 := by omega
      have e2 : (8 * (s : Int)).toNat = 8 * s := by omega
      have b0 : 0 ≤ 8 * (s : Int) := by omega
      have hsh : (8 * (x : Int)) / 2 ^ (8 * s) % 256 = I (beN 8 (8 * x) j) := by
        unfold beN
        rw [← I_of8, show 8 - 1 - j = s by omega, show (256 : Nat) = 2 ^ 8 from rfl, ← Nat.pow_mul, Int.natCast_ediv, Int.natCast_pow, Int.natCast_mul]; rfl
      have HO1 := HO.out.alloc (.cells #[.int .u8 (I (beN 8 (8 * x) j))] 5)
      have HS1 := Sl.one wr 5 (beN 8 (8 * x) j) (wr.heap.size + 1) (by omega)
      have hsz := HB.out.size
      go_wp2_with (at_builtin; refine wpl_appB rfl (.tmp 9) (.tmp 16) rfl sli_u u8_info HO1 HS1 (by omega) (by simp; omega) rfl rfl ?_; intro v' w2 ho hg ht)
      have HO2 := Lib.hid (ho.congr (f' := beN 8 (8 * x)) fun i hi => by
        unfold catF
        by_cases h : i < j
        · rw [if_pos h]
        · rw [if_neg h, show i = j by omega])
      have HB2 := Lib.hid (HO1.after hg (HB.out.alloc hsz _) (by simp; omega) (Nat.le_refl _))
      clear ho hg ht HO1 HS1
      go_roundw
      case rel => exact ⟨s, j + 1, by omega, rfl, HO2.out, HB2.out⟩
      case measure => simp [intOf]

set_option maxHeartbeats 1000000 in
theorem lens_any (n1 c1 n2 c2 : Nat) (A1 A2 : Option Addr) (h1 : n1 ≤ 1099511627776) (h2 : n2 ≤ 1099511627776) (w : World) :
    Calls Tryz.prog 65 #[.slice A1 n1 c1, .slice A2 n2 c2] w fun e w' => e = .returned (.agg (ba 16 (catF 8 (beN 8 (8 * n1)) (beN 8 (8 * n2))))) ∧ Below w.heap.size w w' := by
  have B0 := Lib.hid (((Below.refl w.heap.size w).alloc (by simp) (.cells (ba 16 fun _ => 0#8) 100)).alloc (by simp) (.cells (ba 16 fun _ => 0#8) 100))
  have q0 : row ((w.alloc (.cells (ba 16 fun _ => 0#8) 100)).alloc (.cells (ba 16 fun _ => 0#8) 100)) w.heap.size = some (ba 16 fun _ => 0#8) := by simp [go_sem]
  have q1 : row ((w.alloc (.cells (ba 16 fun _ => 0#8) 100)).alloc (.cells (ba 16 fun _ => 0#8) 100)) (w.heap.size + 1) = some (ba 16 fun _ => 0#8) := by simp [go_sem]
  go_enter Tryz.func65, Tryz.ntmps65
  go_wp2_with fail
  generalize (w.alloc (.cells (ba 16 fun _ => 0#8) 100)).alloc (.cells (ba 16 fun _ => 0#8) 100) = w1 at B0 q0 q1 ⊢
  have c1 := wnum_any (w.heap.size + 1) 0 8 16 16 (n1 * 8) (fun _ => 0#8) w1 q1 (by omega) (by omega) (by omega)
  rw [Int.natCast_mul] at c1
  refine c1.mono ?_
  rintro e w' ⟨rfl, rfl⟩
  have B1 := Lib.hid (below_setRow B0.out (by omega : w.heap.size ≤ w.heap.size + 1) (ba 16 (putF (fun _ => 0#8) 0 8 (beN 8 (n1 * 8)))))
  have r0 : row (w1.setRow (w.heap.size + 1) (ba 16 (putF (fun _ => 0#8) 0 8 (beN 8 (n1 * 8))))) w.heap.size = some (ba 16 fun _ => 0#8) := by rw [row_setRow_other _ _ _ _ (by omega)]; exact q0
  have r1 : row (w1.setRow (w.heap.size + 1) (ba 16 (putF (fun _ => 0#8) 0 8 (beN 8 (n1 * 8))))) (w.heap.size + 1) = some (ba 16 (putF (fun _ => 0#8) 0 8 (beN 8 (n1 * 8)))) := row_setRow q1 _
  clear q0 q1 B0 c1
  generalize w1.setRow (w.heap.size + 1) (ba 16 (putF (fun _ => 0#8) 0 8 (beN 8 (n1 * 8)))) = w2 at B1 r0 r1 ⊢
  go_wp2_with fail
  have c2 := wnum_any (w.heap.size + 1) 8 8 8 16 (n2 * 8) (putF (fun _ => 0#8) 0 8 (beN 8 (n1 * 8))) w2 r1 (by omega) (by omega) (by omega)
  rw [Int.natCast_mul] at c2
  refine c2.mono ?_
  rintro e w' ⟨rfl, rfl⟩
  have hF : ba 16 (putF (putF (fun _ => 0#8) 0 8 (beN 8 (n1 * 8))) 8 8 (beN 8 (n2 * 8))) = ba 16 (catF 8 (beN 8 (8 * n1)) (beN 8 (8 * n2))) := ba_ext fun i hi => by
    rw [Nat.mul_comm n1, Nat.mul_comm n2]
    unfold putF catF
    by_cases h : i < 8
    · rw [if_neg (by omega), if_pos (by omega), if_pos h, Nat.sub_zero]
    · rw [if_pos (by omega), if_neg h]
  rw [hF]
  have B2 := Lib.hid (below_setRow B1.out (by omega : w.heap.size ≤ w.heap.size + 1) (ba 16 (catF 8 (beN 8 (8 * n1)) (beN 8 (8 * n2)))))
  have t0 : row (w2.setRow (w.heap.size + 1) (ba 16 (catF 8 (beN 8 (8 * n1)) (beN 8 (8 * n2))))) w.heap.size = some (ba 16 fun _ => 0#8) := by rw [row_setRow_other _ _ _ _ (by omega)]; exact r0
  have t1 : row (w2.setRow (w.heap.size + 1) (ba 16 (catF 8 (beN 8 (8 * n1)) (beN 8 (8 * n2))))) (w.heap.size + 1) = some (ba 16 (catF 8 (beN 8 (8 * n1)) (beN 8 (8 * n2)))) := row_setRow r1 _
  clear r0 r1 B1 c2 hF
  generalize w2.setRow (w.heap.size + 1) (ba 16 (catF 8 (beN 8 (8 * n1)) (beN 8 (8 * n2)))) = w3 at B2 t0 t1 ⊢
  go_wp2_with fail
  refine bodyPost_ret (v := .agg (ba 16 (catF 8 (beN 8 (8 * n1)) (beN 8 (8 * n2))))) (res_row rfl _ _ w.heap.size _ _ _ rfl (row_setRow t0 _) blk_u (by rw [ba_size]; exact blk_i)) rfl ⟨rfl, ?_⟩
  exact below_setRow B2.out (Nat.le_refl _) _
end Go.Proofs.YtamemjldafoolaaGreat.Oct

/-! ## GcmB -/
/- Contracts of gcm's padded, the reference's whole, and of slices.Grow and slices.Concat of bytes. -/
namespace Go.Proofs.YtamemjldafoolaaGreat.Oct
open Go.ChangeShapes Go.WideShapes Go.ChangeAt Go.RowKit
set_option linter.unusedVariables false

theorem pad_cat (b z : Bf) (n m : Nat) (hz : ∀ i, z i = 0#8) : ∀ i, i < n + m → catF n b z i = padF b n i := fun i _ => by
  unfold catF padF
  by_cases h : i < n
  · rw [if_pos h, if_pos h]
  · rw [if_neg h, if_neg h, hz]
set_option maxHeartbeats 1000000 in
theorem padded_any (n c : Nat) (A : Option Addr) (b : Bf) (w : World) (hs : Sl w w.heap.size A n c b) (hn : n ≤ 1099511627776) :
    Calls Tryz.prog 66 #[.slice A n c] w fun e w' => ∃ A' c', e = .returned (.slice A' (up16 n) c') ∧ Sl w' w'.heap.size A' (up16 n) c' (padF b n) ∧ c' ≤ maxLen ∧ Below w.heap.size w w' := by
  obtain ⟨m, hm⟩ : ∃ m, m = (16 - n % 16) % 16 := ⟨_, rfl⟩
  have hup : n + m = up16 n := by unfold up16; omega
  have hm16 : m ≤ 16 := by omega
  have hmi : (16 - (n : Int) % 16) % 16 = (m : Int) := by omega
  have B0 := Lib.hid ((Below.refl w.heap.size w).alloc (by simp) (.cells (ba 16 fun _ => 0#8) 100))
  have q0 : row (w.alloc (.cells (ba 16 fun _ => 0#8) 100)) w.heap.size = some (ba 16 fun _ => 0#8) := by simp [go_sem]
  have hfull := run_full sli_u u8_i A n c n hs.le
  have hsl := blk_sl_h w.heap.size m hm16
  have HS := Lib.hid (hs.below B0.out)
  have HMM := Lib.hid hup
  clear hs hm hup
  go_enter Tryz.func66, Tryz.ntmps66
  go_wp2
  refine flow_seen [([0, 1, 2, 3, 4, 5, 6, 7], 8, true)] [9] (by kernel_rfl) (by kernel_rfl) (fun _ _ _ _ _ h => h) fun X => ?_
  have B1 := Lib.hid (onto B0.out (by simp) X.below)
  have r0 := After.row q0 X
  have HS1 := Lib.hid (HS.out.below (X.below.mono (by simp)))
  have hsz : w.heap.size ≤ X.val.heap.size := B1.out.size
  clear q0 B0 HS hmi
  generalize X.val = w1 at B1 r0 HS1 hsz ⊢
  clear X
  simp only [wpFs, pk, List.getElem?_cons_zero, List.getElem?_cons_succ]
  repeat (go_big_quiet_step (fail))
  refine wpQuiet_nil ?_
  have HZ : Sl w1 w1.heap.size (some ⟨w.heap.size, 0, none⟩) m 16 (fun _ => 0#8) := ((Sl.of_row r0 w1.heap.size (row_lt r0)).upto m hm16)
  clear hfull hsl
  go_wp2_with (at_builtin; refine wpl_appF rfl (.tmp 15) (.tmp 17) rfl sli_u u8_info HS1.out.full (by unfold maxLen; omega) hsz HS1.out.nil_zero HZ (by omega) rfl rfl ?_; intro A2 c2 w2 h2 hc2 hg)
  have HB2 := Lib.hid (onto B1.out hsz (Below.of_grown hg))
  have H2 := Lib.hid ((h2.congr (pad_cat b (fun _ => 0#8) n m (fun _ => rfl))))
  have HC2 := Lib.hid hc2
  clear h2 hc2 hg HZ
  rw [HMM.out] at H2 ⊢
  show wpQuiet _ _ _ _ _ _
  repeat (go_big_quiet_step (fail))
  refine wpQuiet_nil ?_
  go_wp2
  go_ret
  exact ⟨_, _, rfl, H2.out, HC2.out, HB2.out⟩

set_option maxHeartbeats 1000000 in
theorem whole_any (n c : Nat) (A : Option Addr) (b : Bf) (w : World) (hs : Sl w w.heap.size A n c b) (hn : n ≤ 1099511627776) :
    Calls Tryz.prog 74 #[.slice A n c] w fun e w' => ∃ v, e = .returned v ∧ Own w' w.heap.size 5 v (up16 n) (padF b n) ∧ Below w.heap.size w w' := by
  have HS := Lib.hid (hs.below ((Below.refl w.heap.size w).alloc (Nat.le_refl _) (.cells #[] 5)))
  have HOE := Lib.hid (Own.empty w w.heap.size 5 nF (Nat.le_refl _))
  clear hs
  go_enter Tryz.func74, Tryz.ntmps74
  go_wp2_with (at_builtin; refine wpl_appB rfl (.tmp 4) (.tmp 5) rfl sli_u u8_info HOE.out HS.out (by omega) (by simp) rfl rfl ?_; intro v' w2 ho hg ht)
  rw [catF_zero, Nat.zero_add] at ho
  have HB2 := Lib.hid (HOE.out.after hg ((Below.refl w.heap.size w).alloc (Nat.le_refl _) _) (by simp) (Nat.le_refl _))
  have HO2 := Lib.hid (ho.congr (f' := padF b n) fun i hi => by unfold padF; rw [if_pos hi])
  clear ho hg ht HS HOE
  go_loopw [3] (fun v wr => ∃ m : Nat, n ≤ m ∧ m ≤ up16 n ∧ Own wr w.heap.size 5 v m (padF b n) ∧ Below w.heap.size w wr) (fun v _ => up16 n - slLen v)
  case atStart => exact ⟨n, Nat.le_refl _, (up16_le n).1, HO2.out, HB2.out⟩
  case round =>
    clear HO2 HB2
    obtain ⟨m, hnm, hm16, ho, hb⟩ := hrel
    obtain ⟨A3, c3, hv, hsl, hc3, -⟩ := ho.sl
    subst hv
    have hmc := hsl.le
    have HU := Lib.hid (up16_le n)
    have HO := Lib.hid ho
    have HB := Lib.hid hb
    clear ho hb hsl
    by_cases h16 : m % 16 = 0
    · have hd : decide ((0 : Int) < (m : Int) % 16) = false := by simp; omega
      obtain rfl : m = up16 n := by have := up16_mod n; have := HU.out; unfold up16 at *; omega
      go_wp2
      go_ret
      exact ⟨_, rfl, HO.out, HB.out⟩
    · have hd : decide ((0 : Int) < (m : Int) % 16) = true := by simp; omega
      have hlt : m + 1 ≤ up16 n := by have := up16_mod n; omega
      have HO1 := HO.out.alloc (.cells #[.int .u8 0] 5)
      have HS1 : Sl (wr.alloc (.cells #[.int .u8 0] 5)) (wr.heap.size + 1) (some ⟨wr.heap.size, 0, none⟩) 1 1 (fun _ => 0#8) := Sl.one wr 5 0#8 (wr.heap.size + 1) (by omega)
      have hsz := HB.out.size
      go_wp2_with (at_builtin; refine wpl_appB rfl (.tmp 11) (.tmp 12) rfl sli_u u8_info HO1 HS1 (by have := HU.out; omega) (by simp; omega) rfl rfl ?_; intro v' w2 ho hg ht)
      have HO2 := Lib.hid (ho.congr (f' := padF b n) fun i hi => by
        unfold catF
        by_cases h : i < m
        · rw [if_pos h]
        · rw [if_neg h]; unfold padF; rw [if_neg (by omega)])
      have HB2 := Lib.hid (HO1.after hg (HB.out.alloc hsz _) (by simp; omega) (Nat.le_refl _))
      clear ho hg ht HO1 HS1
      go_roundw
      case rel => exact ⟨m + 1, by omega, hlt, HO2.out, HB2.out⟩
      case measure =>
        obtain ⟨A4, c4, hv, -⟩ := HO2.out.sl
        subst hv
        simp only [slLen]; omega
end Go.Proofs.YtamemjldafoolaaGreat.Oct

/-! ## GcmC -/
/- Contracts of gcm.Xor and of the reference's. -/
namespace Go.Proofs.YtamemjldafoolaaGreat.Oct
open Go.ChangeShapes Go.WideShapes Go.ChangeAt Go.RowKit
set_option linter.unusedVariables false

theorem xor_grp (k n : Bf) (a : Nat) (b : Bf) (j m : Nat) (hm : m ≤ 16) (i : Nat) (hi : i < 16 * j + m) :
    catF (16 * j) (xorS k n a b) (xorF (putF (fun _ => 0#8) 0 m (offF b (16 * j))) (aenF k (ctrF n ((a + j) % 4294967296)))) i = xorS k n a b i := by
  unfold catF
  by_cases h : i < 16 * j
  · rw [if_pos h]
  · rw [if_neg h]
    unfold xorF putF offF xorS
    rw [if_pos (by omega), Nat.sub_zero, show 16 * j + (i - 16 * j) = i by omega, show i / 16 = j by omega, show i % 16 = i - 16 * j by omega]

/-- what is known of the world on the way through Xor: the counter lies in block C -/
structure XrInv (w : World) (k ct : Bf) (C : Nat) (wr : World) : Prop where
  below : Below w.heap.size w wr
  key : row wr w.heap.size = some (ba 32 k)
  ctr : row wr C = some (ba 16 ct)
  hC : w.heap.size + 2 ≤ C
theorem XrInv.lt {w : World} {k ct : Bf} {C : Nat} {wr : World} (h : XrInv w k ct C wr) : C < wr.heap.size := row_lt h.ctr
theorem XrInv.call {w : World} {k ct : Bf} {C : Nat} {wr w' : World} (h : XrInv w k ct C wr) (hb : Below wr.heap.size wr w') : XrInv w k ct C w' :=
  ⟨onto h.below h.below.size hb, carry hb h.key, carry hb h.ctr, h.hC⟩
theorem XrInv.grown {w : World} {k ct : Bf} {C : Nat} {wr w' : World} {base : Nat} {u : TypeId} {v : Value} {n : Nat} {f : Bf} (h : XrInv w k ct C wr) (ho : Own wr base u v n f) (hg : wr.grownBy w' v.ownBlock) (hbase : w.heap.size + 1 ≤ base) (hv : v.ownBlock ≠ some C) : XrInv w k ct C w' :=
  ⟨ho.after hg h.below h.below.size (by omega), grown_row hg h.key (fun e => by
    unfold Own at ho
    rcases ho.2 with ⟨rfl, _⟩ | ⟨g, cap, cur, rfl, hb, _⟩
    · cases e
    · simp only [Value.ownBlock, Option.some.injEq] at e
      omega), grown_row hg h.ctr hv, h.hC⟩
theorem XrInv.put {w : World} {k ct : Bf} {C : Nat} {wr : World} (h : XrInv w k ct C wr) (ct' : Bf) : XrInv w k ct' C (wr.setRow C (ba 16 ct')) :=
  ⟨below_setRow h.below (by have := h.hC; omega) _, by rw [row_setRow_other _ _ _ _ (by have := h.hC; omega)]; exact h.key, row_setRow h.ctr _, h.hC⟩

set_option maxRecDepth 20000 in
set_option maxHeartbeats 4000000 in
theorem gxor_any (k n : Bf) (a : Nat) (ha : a < 4294967296) (b : Bf) (L c : Nat) (A : Option Addr) (w : World) (hs : Sl w w.heap.size A L c b) (hL : L ≤ 1099511627776) :
    Calls Tryz.prog 49 #[.agg (ba 32 k), .agg (ba 12 n), .int .u32 a, .slice A L c] w fun e w' => ∃ v, e = .returned v ∧ Own w' w.heap.size 5 v L (xorS k n a b) ∧ Below w.heap.size w w' := by
  obtain ⟨iu, hiu, z0, z1, z2⟩ := info_parts (P := Tryz.prog) u8_info
  have B0 := ((Below.refl w.heap.size w).alloc (by simp) (.cells (ba 32 k) 32)).alloc (by simp) (.cells (ba 12 n) 78)
  have HS := Lib.hid (hs.below B0)
  have HB0 := Lib.hid B0
  have q0 : row ((w.alloc (.cells (ba 32 k) 32)).alloc (.cells (ba 12 n) 78)) w.heap.size = some (ba 32 k) := by simp [go_sem]
  have q1 : row ((w.alloc (.cells (ba 32 k) 32)).alloc (.cells (ba 12 n) 78)) (w.heap.size + 1) = some (ba 12 n) := by simp [go_sem]
  clear hs B0
  go_enter Tryz.func49, Tryz.ntmps49
  go_wp2_with (at_make; refine wpList_make_own _ rfl (.const (.int .i64 0)) (.tmp 14) _ rfl (w.heap.size + 2) 5 iu (.int .u8 0) 1 sli_u hiu z0 z1 .i64 .i64 _ L rfl rfl rfl (by rw [z2]; omega) (by unfold maxLen; omega) (by simp) ?_; intro w2 ho hg; have hb2 := Below.of_grown hg; have r0 := carry hb2 q0; have r1 := carry hb2 q1)
  have HO := Lib.hid (Own.of_zero ho (xorS k n a b))
  have HB2 := Lib.hid (onto HB0.out (by simp; omega) hb2)
  have HS2 := Lib.hid (HS.out.below (hb2.mono (by simp; omega)))
  have s2 : w.heap.size + 3 ≤ w2.heap.size := by
    rcases ho.2 with ⟨h, _⟩ | ⟨g, cap, cur, h, hb, hh, _⟩
    · cases h
    · have := (Array.getElem?_eq_some_iff.1 hh).1
      simp only [Value.slice.injEq, Option.some.injEq, Addr.mk.injEq] at h
      obtain ⟨⟨h, _⟩, _⟩ := h
      simp at h; omega
  clear ho hg hb2 q0 q1 HS HB0 z0 z1 z2 hiu
  refine (cblk_any n a ha _).mono ?_
  rintro e w3 ⟨rfl, hb3⟩
  have t0 := carry hb3 r0
  have t1 := carry hb3 r1
  have hO3 : Own (w3.alloc (.cells (ba 16 (ctrF n a)) 100)) (w.heap.size + 2) 5 (.slice (some ⟨w.heap.size + 1 + 1, 0, none⟩) 0 L) 0 (xorS k n a b) := by
    have := (HO.out.below hb3 (Nat.le_refl _)).alloc (.cells (ba 16 (ctrF n a)) 100)
    simpa using this
  have hX : XrInv w k (ctrF n a) w3.heap.size (w3.alloc (.cells (ba 16 (ctrF n a)) 100)) :=
    ⟨(onto HB2.out HB2.out.size hb3).alloc (by have := hb3.size; omega) _, row_alloc t0 _, row_alloc_at _ _ _ _ rfl, by have := hb3.size; omega⟩
  have hS3 : Sl (w3.alloc (.cells (ba 16 (ctrF n a)) 100)) w.heap.size A L c b := (HS2.out.below (hb3.mono (by omega))).below ((Below.refl _ _).alloc (by have := hb3.size; omega) _)
  have hne : (Value.slice (some ⟨w.heap.size + 1 + 1, 0, none⟩) 0 L).ownBlock ≠ some w3.heap.size := by
    have := hb3.size
    simp [Value.ownBlock]; omega
  have HO3 := Lib.hid hO3
  have HX := Lib.hid hX
  have HS3 := Lib.hid hS3
  have HNE := Lib.hid hne
  have HA := Lib.hid ha
  clear hO3 hX hS3 hne HO HS2 HB2 hb3 r0 r1 t0 t1 s2 ha
  go_wp2_with fail
  generalize w3.heap.size = C at HX HNE ⊢
  generalize w3.alloc (.cells (ba 16 (ctrF n a)) 100) = w4 at HO3 HX HS3 ⊢
  go_loopw [3, 9] (fun v s wr => ∃ j : Nat, ∃ A' : Option Addr, ∃ c' : Nat, 16 * j < L + 16 ∧ v = .slice A' (L - 16 * j) c' ∧ Sl wr w.heap.size A' (L - 16 * j) c' (offF b (16 * j)) ∧ Own wr (w.heap.size + 2) 5 s (min L (16 * j)) (xorS k n a b) ∧ s.ownBlock ≠ some C ∧ XrInv w k (ctrF n ((a + j) % 4294967296)) C wr) (fun v _ _ => slLen v)
  case atStart => exact ⟨0, A, c, by omega, rfl, by rw [Nat.mul_zero, offF_zero]; exact HS3.out, by rw [Nat.mul_zero, Nat.min_zero]; exact HO3.out, HNE.out, by rw [Nat.add_zero, Nat.mod_eq_of_lt HA.out]; exact HX.out⟩
  case round =>
    clear HO3 HX HS3 HNE
    obtain ⟨j, A', c', hj, rfl, hs, ho, hne, hI⟩ := hrel
    obtain ⟨wo, rfl⟩ : ∃ wo : World, wo = wr := ⟨_, rfl⟩
    obtain ⟨r, hr⟩ : ∃ r, r = L - 16 * j := ⟨_, rfl⟩
    rw [← hr] at hs ⊢
    have HR := Lib.hid hr
    have HS := Lib.hid hs
    have HO := Lib.hid ho
    have HNE := Lib.hid hne
    have HI := Lib.hid hI
    have HJ := Lib.hid hj
    clear hr hs ho hne hI hj
    rcases Nat.eq_zero_or_pos r with rfl | hpos
    · have hd : decide ((0 : Int) < 0) = false := by decide
      go_wp2_with fail
      go_ret
      refine ⟨_, rfl, ?_, HI.out.below⟩
      have := HO.out.base (b' := w.heap.size) (by omega)
      rw [show min L (16 * j) = L by have := HR.out; omega] at this
      exact this
    · have hd : decide ((0 : Int) < (r : Int)) = true := by simp; omega
      obtain ⟨m, hm⟩ : ∃ m, m = min r 16 := ⟨_, rfl⟩
      have HM := Lib.hid hm
      have hfrom := run_from sli_u u8_i A' r c' m (by omega)
      have hm16 : m ≤ 16 := by omega
      have hmp : 0 < m := by omega
      clear hm
      go_wp2_with (refine wpl_copy rfl (.tmp 22) (.tmp 23) 33 33 5 rfl sli_u u8_i (row_alloc_at _ _ _ _ rfl) (HS.out.below ((Below.refl _ _).alloc (by have := HI.out.below.size; omega) _)) HM.out rfl rfl ?_)
      obtain ⟨f, hf⟩ : ∃ f, f = putF (fun _ => 0#8) 0 m (offF b (16 * j)) := ⟨_, rfl⟩
      obtain ⟨ct, hct⟩ : ∃ ct, ct = ctrF n ((a + j) % 4294967296) := ⟨_, rfl⟩
      have hI0 := HI.out
      rw [← hf]
      rw [← hct] at hI0
      have HF := Lib.hid hf
      have HCT := Lib.hid hct
      clear hf hct
      have rg : row (wo.alloc (.cells (ba 16 f) 100)) wo.heap.size = some (ba 16 f) := row_alloc_at _ _ _ _ rfl
      have hB1 : Below wo.heap.size wo (wo.alloc (.cells (ba 16 f) 100)) := (Below.refl _ _).alloc (Nat.le_refl _) _
      have HI1 := Lib.hid (hI0.call hB1)
      have HS1 := Lib.hid (HS.out.below (hB1.mono HI.out.below.size))
      have HO1 := Lib.hid (HO.out.below hB1 (Nat.le_refl _))
      have HCG := Lib.hid (show C < wo.heap.size from hI0.lt)
      have HWG := Lib.hid (show w.heap.size ≤ wo.heap.size from hI0.below.size)
      have HOG := Lib.hid (show u9.ownBlock ≠ some wo.heap.size by
        intro e
        have := HO.out
        unfold Own at this
        have := (World.ownsRow.lt this _ e).2
        omega)
      have hsl := blk_sl_h wo.heap.size m hm16
      clear HS HO HI hI0 hB1
      generalize wo.heap.size = G at rg HCG HWG HOG hsl ⊢
      generalize wo.alloc (.cells (ba 16 f) 100) = w1 at rg HI1 HS1 HO1 ⊢
      have q0 := After.row HI1.out.key
      have q1 := After.row HI1.out.ctr
      have qg := After.row rg
      refine seen_tail 0 5 (by kernel_rfl) (by kernel_rfl) (fun _ _ _ _ _ h => h) ?_
      simp only [List.take_succ_cons, List.take_zero, List.drop_succ_cons, List.drop_zero]
      repeat (go_big_quiet_step ((first | (go_at_call 63; refine After.call _ (encrypt_any k ct _)) | (go_at_call 62; refine After.call _ (bxor_any f (aenF k ct) _)))))
      refine wpQuiet_nil ?_
      rintro _ ⟨z, rfl⟩
      have hbz := z.below
      have HI2 := Lib.hid (HI1.out.call hbz)
      have HS2 := Lib.hid (HS1.out.below (hbz.mono HI1.out.below.size))
      have HO2 := Lib.hid (HO1.out.below hbz (Nat.le_refl _))
      have rg2 := carry hbz rg
      clear q0 q1 qg rg hbz HI1 HS1 HO1
      generalize z.val = w2 at HI2 HS2 HO2 rg2 ⊢
      have rg3 := row_setRow rg2 (ba 16 (xorF f (aenF k ct)))
      have HI3 := Lib.hid (show XrInv w k ct C (w2.setRow G (ba 16 (xorF f (aenF k ct)))) from
        ⟨below_setRow HI2.out.below HWG.out _, by rw [row_setRow_other _ _ _ _ (by have := HI2.out.hC; have := HCG.out; omega)]; exact HI2.out.key, by rw [row_setRow_other _ _ _ _ (by have := HCG.out; omega)]; exact HI2.out.ctr, HI2.out.hC⟩)
      have HO3 := Lib.hid (HO2.out.setRow G HOG.out (ba 16 (xorF f (aenF k ct))))
      have HS3 := Lib.hid (HS2.out.below (below_setRow (Below.refl w.heap.size w2) HWG.out (ba 16 (xorF f (aenF k ct)))))
      have hG : G < w2.heap.size := row_lt rg2
      clear HI2 HS2 HO2
      have hb : (w2.setRow G (ba 16 (xorF f (aenF k ct)))).heap.size = w2.heap.size := by simp
      rw [← hb] at hG
      clear hb
      have HSG := (Sl.of_row rg3 (w2.setRow G (ba 16 (xorF f (aenF k ct)))).heap.size hG).upto m hm16
      rw [show min L (16 * j) = 16 * j by have := HR.out; omega] at HO3
      clear rg3 hG
      have hbs : w.heap.size + 2 ≤ (w2.setRow G (ba 16 (xorF f (aenF k ct)))).heap.size := by have := HI3.out.hC; have := HI3.out.lt; omega
      go_wp2_with (at_builtin; refine wpl_appB rfl (.tmp 30) (.tmp 32) rfl sli_u u8_info HO3.out HSG (by have := HR.out; omega) hbs rfl rfl ?_; intro v' w6 ho hg ht; have rc := (HI3.out.grown HO3.out hg (by omega) HNE.out).ctr)
      have HI6 := Lib.hid (HI3.out.grown HO3.out hg (by omega) HNE.out)
      have HO6 := Lib.hid (ho.congr (f' := xorS k n a b) fun i hi => by
        have := xor_grp k n a b j m hm16 i hi
        rw [HF.out, HCT.out]; exact this)
      have HS6 := Lib.hid (HS3.out.below (HO3.out.after hg (Below.refl w.heap.size _) HI3.out.below.size (by omega)))
      have HN6 := Lib.hid (show v'.ownBlock ≠ some C by
        rcases ht with e | e
        · rw [e]; exact HNE.out
        · rw [e]; have := HI3.out.lt; simp at this ⊢; omega)
      clear ho hg ht HO3 HS3 HSG hbs
      refine (bnext_any ct _).mono ?_
      rintro e w7 ⟨rfl, hb7⟩
      have r7 := carry hb7 rc
      have HI7 := Lib.hid ((HI6.out.call hb7).put (ctrF n ((a + (j + 1)) % 4294967296)))
      have HO7 := Lib.hid ((HO6.out.below hb7 (Nat.le_refl _)).setRow C HN6.out (ba 16 (ctrF n ((a + (j + 1)) % 4294967296))))
      have HS7 := Lib.hid ((HS6.out.below (hb7.mono HI6.out.below.size)).below (below_setRow (Below.refl w.heap.size w7) (show w.heap.size ≤ C by have := HI6.out.hC; omega) (ba 16 (ctrF n ((a + (j + 1)) % 4294967296)))))
      have HNX := Lib.hid (show ba 16 (nextF ct) = ba 16 (ctrF n ((a + (j + 1)) % 4294967296)) by rw [HCT.out, ctr_next_ba, cnt_step])
      have HLE := Lib.hid (show r - m = L - 16 * (j + 1) by have := HR.out; have := HM.out; omega)
      have HLM := Lib.hid (show 16 * j + m = min L (16 * (j + 1)) by have := HR.out; have := HM.out; omega)
      have HJ1 := Lib.hid (show 16 * (j + 1) < L + 16 by have := HR.out; omega)
      have HFF := Lib.hid ((HS7.out.from_ m (by have := HM.out; omega)).congr (b' := offF b (16 * (j + 1))) fun i hi => by
        have := HR.out; have := HM.out
        unfold offF; congr 1; omega)
      clear rc hb7 HS6 HO6 HI6
      go_wp2_with fail
      rw [HNX.out]
      go_roundw
      case rel =>
        rw [HLE.out] at HFF ⊢
        rw [HLM.out] at HO7
        exact ⟨j + 1, _, _, HJ1.out, rfl, HFF.out, HO7.out, HN6.out, HI7.out⟩
      case measure => simp only [slLen]; omega
end Go.Proofs.YtamemjldafoolaaGreat.Oct

/-! ## GcmD -/
/- Contract of the reference's Xor. -/
namespace Go.Proofs.YtamemjldafoolaaGreat.Oct
open Go.ChangeShapes Go.WideShapes Go.ChangeAt Go.RowKit
set_option linter.unusedVariables false

/-- what is known of the world on the way through the reference's Xor -/
structure XsInv (w : World) (k ct : Bf) (E X C base : Nat) (wr : World) (v : Value) (n : Nat) (F : Bf) : Prop where
  below : Below w.heap.size w wr
  e : row wr E = some (ba 240 (axpF k))
  x : row wr X = some (ba 256 boxF)
  c : row wr C = some (ba 16 ct)
  own : Own wr base 5 v n F
  ne : v.ownBlock ≠ some C
  hE : w.heap.size ≤ E ∧ E < base
  hX : w.heap.size ≤ X ∧ X < base
  hC : base ≤ C
theorem XsInv.lt {w : World} {k ct : Bf} {E X C base : Nat} {wr : World} {v : Value} {n : Nat} {F : Bf} (h : XsInv w k ct E X C base wr v n F) : C < wr.heap.size := row_lt h.c
theorem XsInv.call {w : World} {k ct : Bf} {E X C base : Nat} {wr w' : World} {v : Value} {n : Nat} {F : Bf} (h : XsInv w k ct E X C base wr v n F) (hb : Below wr.heap.size wr w') : XsInv w k ct E X C base w' v n F :=
  ⟨onto h.below h.below.size hb, carry hb h.e, carry hb h.x, carry hb h.c, h.own.below hb (Nat.le_refl _), h.ne, h.hE, h.hX, h.hC⟩
theorem XsInv.put {w : World} {k ct : Bf} {E X C base : Nat} {wr : World} {v : Value} {n : Nat} {F : Bf} (h : XsInv w k ct E X C base wr v n F) (ct' : Bf) : XsInv w k ct' E X C base (wr.setRow C (ba 16 ct')) v n F :=
  have hC := h.hC
  have hE := h.hE
  have hX := h.hX
  ⟨below_setRow h.below (by omega) _, by rw [row_setRow_other _ _ _ _ (by omega)]; exact h.e, by rw [row_setRow_other _ _ _ _ (by omega)]; exact h.x, row_setRow h.c _, h.own.setRow C h.ne _, h.ne, h.hE, h.hX, h.hC⟩
theorem XsInv.grown {w : World} {k ct : Bf} {E X C base : Nat} {wr w' : World} {v v' : Value} {n n' : Nat} {F F' : Bf} (h : XsInv w k ct E X C base wr v n F) (hg : wr.grownBy w' v.ownBlock) (ho : Own w' base 5 v' n' F') (ht : v'.ownBlock = v.ownBlock ∨ v'.ownBlock = some wr.heap.size) : XsInv w k ct E X C base w' v' n' F' :=
  have hE := h.hE
  have hX := h.hX
  have low : ∀ b, b < base → v.ownBlock ≠ some b := fun b hb e => by
    have := h.own
    unfold Own at this
    have := (World.ownsRow.lt this b e).1
    omega
  ⟨h.own.after hg h.below h.below.size (by omega), grown_row hg h.e (low E hE.2), grown_row hg h.x (low X hX.2), grown_row hg h.c h.ne, ho, by
    rcases ht with e | e
    · rw [e]; exact h.ne
    · rw [e]; have := h.lt; simp; omega, h.hE, h.hX, h.hC⟩

set_option maxRecDepth 20000 in
set_option maxHeartbeats 4000000 in
theorem rgxor_any (k n : Bf) (a : Nat) (ha : a < 4294967296) (b : Bf) (L c : Nat) (A : Option Addr) (w : World) (hs : Sl w w.heap.size A L c b) (hL : L ≤ 1099511627776) :
    Calls Tryz.prog 52 #[.agg (ba 32 k), .agg (ba 12 n), .int .u32 a, .slice A L c] w fun e w' => ∃ v, e = .returned v ∧ Own w' w.heap.size 5 v L (xorS k n a b) ∧ Below w.heap.size w w' := by
  have B0 := ((Below.refl w.heap.size w).alloc (by simp) (.cells (ba 32 k) 32)).alloc (by simp) (.cells (ba 12 n) 78)
  have HS := Lib.hid (hs.below B0)
  have HB0 := Lib.hid B0
  have q0 : row ((w.alloc (.cells (ba 32 k) 32)).alloc (.cells (ba 12 n) 78)) w.heap.size = some (ba 32 k) := by simp [go_sem]
  have q1 : row ((w.alloc (.cells (ba 32 k) 32)).alloc (.cells (ba 12 n) 78)) (w.heap.size + 1) = some (ba 12 n) := by simp [go_sem]
  have s0 : ((w.alloc (.cells (ba 32 k) 32)).alloc (.cells (ba 12 n) 78)).heap.size = w.heap.size + 2 := by simp
  clear hs B0
  go_enter Tryz.func52, Tryz.ntmps52
  go_wp2_with fail
  generalize (w.alloc (.cells (ba 32 k) 32)).alloc (.cells (ba 12 n) 78) = w0 at HS HB0 q0 q1 s0 ⊢
  refine (refexpand_any k _).mono ?_
  rintro e w1 ⟨rfl, hb1⟩
  have HS1 := Lib.hid (HS.out.below (hb1.mono (by omega)))
  have HB1 := Lib.hid (onto HB0.out HB0.out.size hb1)
  have t1 := row_alloc (carry hb1 q1) (.cells (ba 240 (axpF k)) 111)
  have te : row (w1.alloc (.cells (ba 240 (axpF k)) 111)) w1.heap.size = some (ba 240 (axpF k)) := row_alloc_at _ _ _ _ rfl
  have hw1 : w.heap.size + 2 ≤ w1.heap.size := by have := hb1.size; omega
  clear q0 q1 HS HB0 hb1 s0
  go_wp2_with fail
  have HS1' := Lib.hid (HS1.out.below ((Below.refl w.heap.size w1).alloc (by omega) (.cells (ba 240 (axpF k)) 111)))
  have HB1' := Lib.hid (HB1.out.alloc (by omega) (.cells (ba 240 (axpF k)) 111))
  have hE : w.heap.size ≤ w1.heap.size := by omega
  have s1 : (w1.alloc (.cells (ba 240 (axpF k)) 111)).heap.size = w1.heap.size + 1 := by simp
  clear HS1 HB1
  generalize w1.alloc (.cells (ba 240 (axpF k)) 111) = wa at HS1' HB1' t1 te s1 ⊢
  generalize w1.heap.size = E at te s1 hw1 hE ⊢
  refine (rboxes_any _).mono ?_
  rintro e w2 ⟨rfl, hb2⟩
  have HS2 := Lib.hid (HS1'.out.below (hb2.mono (by omega)))
  have HB2 := Lib.hid (onto HB1'.out HB1'.out.size hb2)
  have t1' := row_alloc (carry hb2 t1) (.cells (ba 256 boxF) 113)
  have te' := row_alloc (carry hb2 te) (.cells (ba 256 boxF) 113)
  have tx' : row (w2.alloc (.cells (ba 256 boxF) 113)) w2.heap.size = some (ba 256 boxF) := row_alloc_at _ _ _ _ rfl
  have hw2 : E < w2.heap.size := by have := hb2.size; omega
  have p1 := row_alloc t1' (.cells #[] 5)
  have pe := row_alloc te' (.cells #[] 5)
  have px := row_alloc tx' (.cells #[] 5)
  have B3 := ((HB2.out.alloc (by omega) (.cells (ba 256 boxF) 113)).alloc (by simp; omega) (.cells #[] 5))
  have HS3 := Lib.hid ((HS2.out.below ((Below.refl w.heap.size w2).alloc (by omega) (.cells (ba 256 boxF) 113))).below ((Below.refl w.heap.size _).alloc (by simp; omega) (.cells #[] 5)))
  have HO3 := Own.empty (w2.alloc (.cells (ba 256 boxF) 113)) (w2.heap.size + 1) 5 (xorS k n a b) (by simp)
  have s3 : ((w2.alloc (.cells (ba 256 boxF) 113)).alloc (.cells #[] 5)).heap.size = w2.heap.size + 2 := by simp
  rw [show (w2.alloc (.cells (ba 256 boxF) 113)).heap.size = w2.heap.size + 1 by simp] at HO3
  have HB3 := Lib.hid B3
  have HO3' := Lib.hid HO3
  clear t1 te t1' te' tx' HS1' HB1' hb2 s1 B3 HO3 HS2 HB2
  go_wp2_with fail
  generalize (w2.alloc (.cells (ba 256 boxF) 113)).alloc (.cells #[] 5) = w3 at p1 pe px HS3 HO3' s3 HB3 ⊢
  generalize w2.heap.size = X at px HO3' s3 hw2 ⊢
  refine (rctr_any n a ha _).mono ?_
  rintro e w4 ⟨rfl, hb4⟩
  have hX4 : XsInv w k (ctrF n a) E X w4.heap.size (X + 1) (w4.alloc (.cells (ba 16 (ctrF n a)) 100)) (.slice (some ⟨X + 1, 0, none⟩) 0 0) 0 (xorS k n a b) :=
    ⟨(onto HB3.out HB3.out.size hb4).alloc (by have := hb4.size; omega) _, row_alloc (carry hb4 pe) _, row_alloc (carry hb4 px) _, row_alloc_at _ _ _ _ rfl, (HO3'.out.below hb4 (Nat.le_refl _)).alloc _,
      by have := hb4.size; simp [Value.ownBlock]; omega, by omega, by omega, by have := hb4.size; omega⟩
  have HX4 := Lib.hid hX4
  have HS4 := Lib.hid ((HS3.out.below (hb4.mono (by omega))).below ((Below.refl w.heap.size w4).alloc (by have := hb4.size; omega) (.cells (ba 16 (ctrF n a)) 100)))
  have HA := Lib.hid ha
  clear hX4 hb4 HS3 HO3' HB3 p1 pe px s3 ha hw1 hw2 hE
  go_wp2_with fail
  generalize w4.heap.size = C at HX4 ⊢
  generalize w4.alloc (.cells (ba 16 (ctrF n a)) 100) = w5 at HX4 HS4 ⊢
  go_loopw [11, 13] (fun v i wr => ∃ j : Nat, 16 * j < L + 16 ∧ i = .int .i64 ((16 * j : Nat) : Int) ∧ XsInv w k (ctrF n ((a + j) % 4294967296)) E X C (X + 1) wr v (min L (16 * j)) (xorS k n a b)) (fun _ i _ => L + 16 - (intOf i).toNat)
  case atStart => exact ⟨0, by omega, rfl, by rw [Nat.mul_zero, Nat.min_zero, Nat.add_zero, Nat.mod_eq_of_lt HA.out]; exact HX4.out⟩
  case round =>
    obtain ⟨j, hj, rfl, hI⟩ := hrel
    obtain ⟨wo, rfl⟩ : ∃ wo : World, wo = wr := ⟨_, rfl⟩
    have HS := Lib.hid ((HS4.out.keep (w' := w) (fun g o hg => (HX4.out.below.cell (p := ⟨g, o, none⟩) hg).symm)))
    clear HX4 HS4
    have HI := Lib.hid hI
    clear hI
    obtain ⟨q, hq⟩ : ∃ q, q = 16 * j := ⟨_, rfl⟩
    rw [← hq]
    rw [← hq] at hj
    have HQ := Lib.hid hq
    clear hq
    by_cases hlt : q < L
    · have hd : decide ((q : Int) < (L : Int)) = true := by simp; omega
      obtain ⟨ct, hct⟩ : ∃ ct, ct = ctrF n ((a + j) % 4294967296) := ⟨_, rfl⟩
      have hI0 := HI.out
      rw [← hct] at hI0
      have HCT := Lib.hid hct
      have re := hI0.e
      have rx := hI0.x
      have rc := hI0.c
      clear hct
      have hmin : min L (16 * j) = q := by have := HQ.out; omega
      rw [hmin] at hI0
      clear HI hmin
      go_wp2_with fail
      refine (encrypts_any k ct _).mono ?_
      rintro e w6 ⟨rfl, hb6⟩
      obtain ⟨g, hg⟩ : ∃ g, g = aenF k ct := ⟨_, rfl⟩
      rw [← hg]
      have HG := Lib.hid hg
      have hI6 := (hI0.call hb6).call ((Below.refl w6.heap.size w6).alloc (Nat.le_refl _) (.cells (ba 16 g) 100))
      have rg : row (w6.alloc (.cells (ba 16 g) 100)) w6.heap.size = some (ba 16 g) := row_alloc_at _ _ _ _ rfl
      have hne : u11.ownBlock ≠ some w6.heap.size := by
        intro e
        have := (hI0.call hb6).own
        unfold Own at this
        have := (World.ownsRow.lt this _ e).2
        omega
      have HI6 := Lib.hid hI6
      have HN6 := Lib.hid hne
      have HR6 := Lib.hid rg
      clear re rx rc hI0 hb6 hg hI6 hne rg
      go_wp2_with fail
      generalize w6.heap.size = G at HN6 HR6 ⊢
      generalize w6.alloc (.cells (ba 16 g) 100) = w7 at HI6 HR6 ⊢
      obtain ⟨gb, o, hA, hgb, hcell⟩ := HS.out.at_ (by omega)
      subst hA
      have HC := Lib.hid hcell
      clear HS hcell
      go_loopw [11, 15] (fun v i wr => ∃ m : Nat, m ≤ 16 ∧ q + m ≤ L ∧ i = .int .i64 m ∧ XsInv w k ct E X C (X + 1) wr v (q + m) (xorS k n a b) ∧ row wr G = some (ba 16 g) ∧ v.ownBlock ≠ some G) (fun _ i _ => 16 - (intOf i).toNat)
      case atStart => exact ⟨0, by omega, by omega, rfl, HI6.out, HR6.out, HN6.out⟩
      case round =>
        clear HI6 HR6 HN6
        obtain ⟨m, hm, hqm, rfl, hI, rg, hne⟩ := hrel
        obtain ⟨wo, rfl⟩ : ∃ wo : World, wo = wr := ⟨_, rfl⟩
        by_cases hin : m < 16 ∧ q + m < L
        · obtain ⟨hm16, hqm'⟩ := hin
          have d1 : decide ((m : Int) < 16) = true := by simp; omega
          have d2 : decide ((q : Int) + (m : Int) < (L : Int)) = true := by simp; omega
          have hc := HC.out (q + m) hqm'
          rw [← hI.below.cell (p := ⟨gb, o + (q + m), none⟩) hgb] at hc
          go_wp2_with fail
          refine flow_seen [([0, 1, 2, 3, 4, 5, 6, 7, 8, 9, 10], 11, false), ([], 12, true)] [13] (by kernel_rfl) (by kernel_rfl) (fun _ _ _ _ _ h => h) fun Z => ?_
          have hbz := Z.below
          have HI1 := Lib.hid (hI.call hbz)
          have rg1 := carry hbz rg
          have hc1 := (hbz.cell (p := ⟨gb, o + (q + m), none⟩) (show gb < wo.heap.size by have := hI.below.size; omega)).trans hc
          have HNE := Lib.hid hne
          clear hc hI rg hne
          generalize Z.val = w8 at hbz HI1 rg1 hc1 ⊢
          clear Z
          have Q1 : ∀ x : After w8, x.val.cell? ⟨G, m, none⟩ = some (.int .u8 (I (g m))) := fun x => by rw [After.cell rg1 x, ba_get _ _ _ hm16]
          have Q2 : ∀ x : After w8, x.val.cell? ⟨gb, o + (q + m), none⟩ = some (.int .u8 (I (b (q + m)))) := fun x => (x.below.cell (p := ⟨gb, o + (q + m), none⟩) (show gb < w8.heap.size by have := HI1.out.below.size; omega)).trans hc1
          have e0 : (0 : Int) ≤ (q : Int) + (m : Int) := by omega
          have e2 : ((q : Int) + (m : Int)).toNat = q + m := by omega
          have e3 : (q : Int) + (m : Int) < (L : Int) := by omega
          have e4 : IntKind.i64.wrap ((q : Int) + (m : Int)) = (q : Int) + (m : Int) := IntWalk.i64_in _ (by omega)
          simp only [wpFs, pk, List.getElem?_cons_zero, List.getElem?_cons_succ]
          repeat (go_big_quiet_step (fail))
          refine wpQuiet_nil ?_
          clear Q1 Q2 e0 e2 e3 e4 hc1
          go_wp2_with fail
          refine ⟨.inr ((Below.refl _ _).alloc (Nat.le_refl _) _), ?_⟩
          have HI2 := Lib.hid (HI1.out.call ((Below.refl _ _).alloc (Nat.le_refl _) (.cells #[.int .u8 (I (b (q + m) ^^^ g m))] 5)))
          have rg2 := row_alloc rg1 (.cells #[.int .u8 (I (b (q + m) ^^^ g m))] 5)
          have HS2 := Sl.one w8 5 (b (q + m) ^^^ g m) (w8.heap.size + 1) (by omega)
          have hsz : X + 1 ≤ (w8.alloc (.cells #[.int .u8 (I (b (q + m) ^^^ g m))] 5)).heap.size := by have := HI1.out.lt; have := HI1.out.hC; simp; omega
          show wpQuiet _ _ _ _ _ _
          refine wpQuiet_nil ?_
          go_wp2_with (at_builtin; refine wpl_appB rfl (.tmp 45) (.tmp 56) rfl sli_u u8_info HI2.out.own HS2 (by omega) hsz rfl rfl ?_; intro v' w9 ho hg ht)
          have HI3 := Lib.hid (HI2.out.grown hg (ho.congr (f' := xorS k n a b) fun i hi => by
            unfold catF
            by_cases h : i < q + m
            · rw [if_pos h]
            · rw [if_neg h]
              have := HQ.out
              unfold xorS
              rw [show i = q + m by omega, HG.out, HCT.out, show (q + m) / 16 = j by omega, show (q + m) % 16 = m by omega]) ht)
          have HR3 := Lib.hid (grown_row hg rg2 HNE.out)
          have HN3 := Lib.hid (show v'.ownBlock ≠ some G by
            rcases ht with e | e
            · rw [e]; exact HNE.out
            · rw [e]; have := row_lt rg2; simp only [ne_eq, Option.some.injEq]; omega)
          clear ho hg ht HS2 rg2 HI2 hsz
          show wpQuiet _ _ _ _ _ _
          repeat (go_big_quiet_step (fail))
          refine wpQuiet_nil ?_
          go_wp2_with fail
          go_roundw
          case rel => exact ⟨m + 1, by omega, by omega, by go_num, HI3.out, HR3.out, HN3.out⟩
          case measure => simp [intOf]; omega
        · have hcases : (decide ((m : Int) < 16) = false) ∨ (decide ((m : Int) < 16) = true ∧ decide ((q : Int) + (m : Int) < (L : Int)) = false) := by
            simp only [decide_eq_false_iff_not, decide_eq_true_eq]; omega
          have HI := Lib.hid hI
          have hrc := hI.c
          have HQM := Lib.hid (show q + m = min L (16 * (j + 1)) by have := HQ.out; omega)
          clear hin rg hne hI
          rcases hcases with d1 | ⟨d1, d2⟩
          all_goals
            go_wp2_with fail
            refine (rbnext_any ct _).mono ?_
            rintro e wn ⟨rfl, hbn⟩
            have hrn := carry hbn hrc
            have HIN := Lib.hid ((HI.out.call hbn).put (ctrF n ((a + (j + 1)) % 4294967296)))
            have HNX := Lib.hid (show ba 16 (nextF ct) = ba 16 (ctrF n ((a + (j + 1)) % 4294967296)) by rw [HCT.out, ctr_next_ba, cnt_step])
            have HQJ := Lib.hid (show q + 16 = 16 * (j + 1) by have := HQ.out; omega)
            have HQL := Lib.hid (show 16 * (j + 1) < L + 16 by have := HQ.out; omega)
            clear hbn HI
            go_wp2_with fail
            rw [HNX.out]
            go_roundw
            case rel =>
              have e := HIN.out
              rw [HQM.out] at e
              exact ⟨j + 1, HQL.out, by rw [← HQJ.out]; go_num, e⟩
            case measure => simp [intOf]; omega
    · have hd : decide ((q : Int) < (L : Int)) = false := by simp; omega
      go_wp2_with fail
      have HIO := HI.out.own.base (b' := w.heap.size) (by have := HI.out.hX; omega)
      have HIB := HI.out.below
      rw [show min L (16 * j) = L by have := HQ.out; omega] at HIO
      go_ret
      exact ⟨_, rfl, HIO, HIB⟩
end Go.Proofs.YtamemjldafoolaaGreat.Oct

/-! ## GcmE -/
/- Contract of gcm.Tag. -/
namespace Go.Proofs.YtamemjldafoolaaGreat.Oct
open Go.ChangeShapes Go.WideShapes Go.ChangeAt Go.RowKit
set_option linter.unusedVariables false

def three {α : Type} (x y z : α) : Nat → α
  | 0 => x
  | 1 => y
  | _ => z
theorem three_lt {i : Nat} (h : i < 3) : i = 0 ∨ i = 1 ∨ i = 2 := by omega
theorem three_len (a b c : Nat) : lenL (three a b c) 3 = a + b + c := by simp [lenL, three]
theorem all_cats (s b : Bf) (ns nb : Nat) : ∀ i, i < up16 ns + up16 nb + 16 → catsF (three (up16 ns) (up16 nb) 16) (three (padF s ns) (padF b nb) (catF 8 (beN 8 (8 * ns)) (beN 8 (8 * nb)))) 3 i = allF s ns b nb i := fun i _ => by
  simp only [catsF, lenL, three, Nat.zero_add, catF_zero]
  unfold catF allF
  by_cases h1 : i < up16 ns
  · rw [if_pos (by omega), if_pos h1, if_pos h1]
  · by_cases h2 : i < up16 ns + up16 nb
    · rw [if_pos h2, if_neg h1, if_neg h1, if_pos h2]
    · rw [if_neg h2, if_neg h1, if_neg h2]
      by_cases h3 : i < up16 ns + up16 nb + 8
      · rw [if_pos (by omega), if_pos h3]
      · rw [if_neg (by omega), if_neg h3, show i - (up16 ns + up16 nb) - 8 = i - (up16 ns + up16 nb + 8) by omega]

set_option maxRecDepth 20000 in
set_option maxHeartbeats 4000000 in
theorem gtag_any (k n : Bf) (s : Bf) (ns cs : Nat) (As : Option Addr) (b : Bf) (nb cb : Nat) (Ab : Option Addr) (w : World) (hs : Sl w w.heap.size As ns cs s) (hb : Sl w w.heap.size Ab nb cb b) (hns : ns ≤ 1099511627776) (hnb : nb ≤ 1099511627776) :
    Calls Tryz.prog 50 #[.agg (ba 32 k), .agg (ba 12 n), .slice As ns cs, .slice Ab nb cb] w fun e w' => e = .returned (.agg (ba 16 (tagF k n s ns b nb))) ∧ Below w.heap.size w w' := by
  have B0 := (((Below.refl w.heap.size w).alloc (by simp) (.cells (ba 32 k) 32)).alloc (by simp) (.cells (ba 12 n) 78)).alloc (by simp; omega) (.cells (ba 16 fun _ => 0#8) 100)
  have HS := Lib.hid (hs.below B0)
  have HB := Lib.hid (hb.below B0)
  have HB0 := Lib.hid B0
  have q0 : row (((w.alloc (.cells (ba 32 k) 32)).alloc (.cells (ba 12 n) 78)).alloc (.cells (ba 16 fun _ => 0#8) 100)) w.heap.size = some (ba 32 k) := by simp [go_sem]
  have q1 : row (((w.alloc (.cells (ba 32 k) 32)).alloc (.cells (ba 12 n) 78)).alloc (.cells (ba 16 fun _ => 0#8) 100)) (w.heap.size + 1) = some (ba 12 n) := by simp [go_sem]
  have q2 : row (((w.alloc (.cells (ba 32 k) 32)).alloc (.cells (ba 12 n) 78)).alloc (.cells (ba 16 fun _ => 0#8) 100)) (w.heap.size + 1 + 1) = some (ba 16 fun _ => 0#8) := by simp [go_sem]
  clear hs hb B0
  go_enter Tryz.func50, Tryz.ntmps50
  go_wp2_with fail
  generalize ((w.alloc (.cells (ba 32 k) 32)).alloc (.cells (ba 12 n) 78)).alloc (.cells (ba 16 fun _ => 0#8) 100) = w0 at HS HB HB0 q0 q1 q2 ⊢
  refine (lens_any ns cs nb cb As Ab hns hnb _).mono ?_
  rintro e w1 ⟨rfl, hb1⟩
  obtain ⟨z, hz⟩ : ∃ z, z = catF 8 (beN 8 (8 * ns)) (beN 8 (8 * nb)) := ⟨_, rfl⟩
  rw [← hz]
  have HZ := Lib.hid hz
  have hbz := HB0.out.size
  have HS1 := Lib.hid ((HS.out.below (hb1.mono hbz)).below ((Below.refl w.heap.size w1).alloc (by have := hb1.size; omega) (.cells (ba 16 z) 100)))
  have HB1 := Lib.hid ((HB.out.below (hb1.mono hbz)).below ((Below.refl w.heap.size w1).alloc (by have := hb1.size; omega) (.cells (ba 16 z) 100)))
  have HBB := Lib.hid ((onto HB0.out hbz hb1).alloc (by have := hb1.size; omega) (.cells (ba 16 z) 100))
  have t0 := row_alloc (carry hb1 q0) (.cells (ba 16 z) 100)
  have t1 := row_alloc (carry hb1 q1) (.cells (ba 16 z) 100)
  have t2 := row_alloc (carry hb1 q2) (.cells (ba 16 z) 100)
  have tz : row (w1.alloc (.cells (ba 16 z) 100)) w1.heap.size = some (ba 16 z) := row_alloc_at _ _ _ _ rfl
  clear hz hbz hb1 q0 q1 q2 HS HB HB0
  go_wp2_with fail
  generalize w1.heap.size = Z at tz ⊢
  generalize w1.alloc (.cells (ba 16 z) 100) = w2 at HS1 HB1 HBB t0 t1 t2 tz ⊢
  refine flow_seen [([0, 2, 4], 1, false), ([], 3, false), ([], 5, false), ([], 6, false)] [7] (by kernel_rfl) (by kernel_rfl) (fun _ _ _ _ _ h => h) fun Y => ?_
  have hby := Y.below
  have HS2 := Lib.hid (HS1.out.below (hby.mono HBB.out.size))
  have HB2 := Lib.hid (HB1.out.below (hby.mono HBB.out.size))
  have HBC := Lib.hid (onto HBB.out HBB.out.size hby)
  have r0 := carry hby t0
  have r1 := carry hby t1
  have r2 := carry hby t2
  have rz := carry hby tz
  clear t0 t1 t2 tz HS1 HB1 HBB hby
  generalize Y.val = w3 at HS2 HB2 HBC r0 r1 r2 rz ⊢
  clear Y
  simp only [wpFs, pk, List.getElem?_cons_zero, List.getElem?_cons_succ]
  repeat (go_big_quiet_step (fail))
  refine wpQuiet_nil ?_
  go_wp2_with fail
  refine (padded_any ns cs As s _ (HS2.out.more HBC.out.size) hns).mono ?_
  rintro e w4 ⟨A1, c1, rfl, h1, hc1, hb4⟩
  go_wp2_with fail
  refine ⟨.inr hb4, ?_⟩
  have HP1 := Lib.hid h1
  have HB4 := Lib.hid (HB2.out.below (hb4.mono HBC.out.size))
  have HBD := Lib.hid (onto HBC.out HBC.out.size hb4)
  have t0 := carry hb4 r0
  have t1 := carry hb4 r1
  have t2 := carry hb4 r2
  have tz := carry hb4 rz
  clear r0 r1 r2 rz h1 hc1 hb4 HS2 HB2 HBC
  show wpQuiet _ _ _ _ _ _
  refine wpQuiet_nil ?_
  go_wp2_with fail
  refine (padded_any nb cb Ab b _ (HB4.out.more HBD.out.size) hnb).mono ?_
  rintro e w5 ⟨A2, c2, rfl, h2, hc2, hb5⟩
  go_wp2_with fail
  refine ⟨.inr hb5, ?_⟩
  have HP1' := Lib.hid (HP1.out.below hb5)
  have HP2 := Lib.hid h2
  have HBE := Lib.hid (onto HBD.out HBD.out.size hb5)
  have HSZ := Lib.hid hb5.size
  have r0 := carry hb5 t0
  have r1 := carry hb5 t1
  have r2 := carry hb5 t2
  have rz := carry hb5 tz
  clear t0 t1 t2 tz h2 hc2 hb5 HB4 HBD HP1
  show wpQuiet _ _ _ _ _ _
  refine wpQuiet_nil ?_
  go_wp2_with fail
  refine ⟨.inr ((Below.refl _ _).alloc (Nat.le_refl _) _), ?_⟩
  have hb6 : Below w5.heap.size w5 (w5.alloc (.cells #[.slice A1 (up16 ns) c1, .slice A2 (up16 nb) c2, .slice (some ⟨Z, 0, none⟩) 16 16] 33)) := (Below.refl _ _).alloc (Nat.le_refl _) _
  have hrow : row (w5.alloc (.cells #[.slice A1 (up16 ns) c1, .slice A2 (up16 nb) c2, .slice (some ⟨Z, 0, none⟩) 16 16] 33)) w5.heap.size = some #[.slice A1 (up16 ns) c1, .slice A2 (up16 nb) c2, .slice (some ⟨Z, 0, none⟩) 16 16] := row_alloc_at _ _ _ _ rfl
  have HQ1 := Lib.hid (HP1'.out.below (hb6.mono HSZ.out))
  have HQ2 := Lib.hid (HP2.out.below hb6)
  have HBF := Lib.hid (onto HBE.out HBE.out.size hb6)
  have t0 := carry hb6 r0
  have t1 := carry hb6 r1
  have t2 := carry hb6 r2
  have tz := carry hb6 rz
  have hZ5 : Z < w5.heap.size := row_lt rz
  clear r0 r1 r2 rz HP1' HP2 HBE
  have hs6 : (w5.alloc (.cells #[.slice A1 (up16 ns) c1, .slice A2 (up16 nb) c2, .slice (some ⟨Z, 0, none⟩) 16 16] 33)).heap.size = w5.heap.size + 1 := by simp
  have HS45 := Lib.hid HSZ.out
  clear HSZ hb6
  generalize w5.alloc (.cells #[.slice A1 (up16 ns) c1, .slice A2 (up16 nb) c2, .slice (some ⟨Z, 0, none⟩) 16 16] 33) = w6 at HQ1 HQ2 HBF t0 t1 t2 tz hrow hs6 ⊢
  show wpQuiet _ _ _ _ _ _
  refine wpQuiet_nil ?_
  go_wp2_with fail
  have hu1 := up16_le ns
  have hu2 := up16_le nb
  refine (concat_any 3 w5.heap.size 3 (three A1 A2 (some ⟨Z, 0, none⟩)) (three (up16 ns) (up16 nb) 16) (three c1 c2 16) (three (padF s ns) (padF b nb) z) w6 (fun i hi => by
      rw [cell_row hrow]; rcases three_lt hi with rfl | rfl | rfl <;> rfl) (by omega) (fun i hi => by
      rcases three_lt hi with rfl | rfl | rfl
      · exact HQ1.out.more (by have := HS45.out; omega)
      · exact HQ2.out.more (by omega)
      · exact Sl.of_row tz _ (row_lt tz)) (by omega) (by rw [three_len]; omega)).mono ?_
  rintro e w7 ⟨v, rfl, ho, hb7⟩
  rw [three_len, HZ.out] at ho
  obtain ⟨A7, c7, rfl, h7, hc7, -⟩ := ho.sl
  go_wp2_with fail
  refine ⟨.inr hb7, ?_⟩
  have H7 := Lib.hid (h7.congr (all_cats s b ns nb))
  have HBG := Lib.hid (onto HBF.out HBF.out.size hb7)
  have r0 := carry hb7 t0
  have r1 := carry hb7 t1
  have r2 := carry hb7 t2
  clear t0 t1 t2 tz ho h7 hc7 hb7 HQ1 HQ2 HBF hrow hs6 hZ5 HS45 hu1 hu2
  show wpQuiet _ _ _ _ _ _
  repeat (go_big_quiet_step (fail))
  refine wpQuiet_nil ?_
  go_wp2_with fail
  refine (encrypt_any k (fun _ => 0#8) _).mono ?_
  rintro e w8 ⟨rfl, hb8⟩
  obtain ⟨hk, hhk⟩ : ∃ hk, hk = aenF k nF := ⟨_, rfl⟩
  rw [show (aenF k fun _ => 0#8) = hk from hhk.symm]
  have HHK := Lib.hid hhk
  obtain ⟨al, hal⟩ : ∃ al, al = allF s ns b nb := ⟨_, rfl⟩
  have HAL := Lib.hid hal
  obtain ⟨N, hN⟩ : ∃ N, N = up16 ns + up16 nb + 16 := ⟨_, rfl⟩
  have HN := Lib.hid hN
  have h7 := H7.out
  rw [← hal, ← hN] at h7
  rw [← hN]
  have H8 := Lib.hid (((h7.below hb8).below ((Below.refl _ w8).alloc hb8.size (.cells (ba 16 hk) 100))).more (by have := hb8.size; simp; omega : _ ≤ (w8.alloc (.cells (ba 16 hk) 100)).heap.size))
  have HBH := Lib.hid ((onto HBG.out HBG.out.size hb8).alloc (by have := hb8.size; have := HBG.out.size; omega) (.cells (ba 16 hk) 100))
  have t0 := row_alloc (carry hb8 r0) (.cells (ba 16 hk) 100)
  have t1 := row_alloc (carry hb8 r1) (.cells (ba 16 hk) 100)
  have t2 := row_alloc (carry hb8 r2) (.cells (ba 16 hk) 100)
  have th : row (w8.alloc (.cells (ba 16 hk) 100)) w8.heap.size = some (ba 16 hk) := row_alloc_at _ _ _ _ rfl
  clear r0 r1 r2 hb8 h7 H7 HBG hhk hal hN
  go_wp2_with fail
  generalize w8.heap.size = HH at th ⊢
  generalize w8.alloc (.cells (ba 16 hk) 100) = w9 at H8 HBH t0 t1 t2 th ⊢
  obtain ⟨ct, hct⟩ : ∃ ct, ct = ctrF n 1 := ⟨_, rfl⟩
  have HCT := Lib.hid hct
  have cC := cblk_any n 1 (by decide)
  rw [← hct] at cC
  have HC := Lib.hid cC
  have hs9 : ∀ x : After w9, Sl x.val x.val.heap.size A7 N c7 al := fun x => After.sl H8.out x
  have HS9 := Lib.hid hs9
  have q0 := After.row t0
  have q1 := After.row t1
  have qh := After.row th
  clear hct cC hs9 t0 t1 th
  refine seen_tail 0 8 (by kernel_rfl) (by kernel_rfl) (fun _ _ _ _ _ h => h) ?_
  simp only [List.take_succ_cons, List.take_zero, List.drop_succ_cons, List.drop_zero]
  repeat (go_big_quiet_step ((first | (go_at_call 61; refine After.call _ (HC.out _)) | (go_at_call 63; refine After.call _ (encrypt_any k ct _)) | (go_at_call 67; refine After.call _ (bhash_any hk al N c7 A7 _ (HS9.out _))) | (go_at_call 62; refine After.call _ (bxor_any (aenF k ct) (hshF hk al N) _)))))
  refine wpQuiet_nil ?_
  rintro _ ⟨x, rfl⟩
  have r2 := carry x.below t2
  have HBJ := Lib.hid (onto HBH.out HBH.out.size x.below)
  have HT := Lib.hid (show xorF (aenF k ct) (hshF hk al N) = tagF k n s ns b nb by rw [HCT.out, HHK.out, HAL.out, HN.out]; rfl)
  clear q0 q1 qh t2 H8 HBH
  go_wp2_with fail
  rw [HT.out]
  refine bodyPost_ret (v := .agg (ba 16 (tagF k n s ns b nb))) (res_row rfl _ _ (w.heap.size + 1 + 1) _ _ _ rfl (row_setRow r2 _) blk_u (by rw [ba_size]; exact blk_i)) rfl ⟨rfl, ?_⟩
  exact below_setRow HBJ.out (by omega) _
end Go.Proofs.YtamemjldafoolaaGreat.Oct

/-! ## GcmF -/
/- Contract of the reference's Tag. -/
namespace Go.Proofs.YtamemjldafoolaaGreat.Oct
open Go.ChangeShapes Go.WideShapes Go.ChangeAt Go.RowKit
set_option linter.unusedVariables false

/-- what is known of the world on the way through the reference's Tag -/
structure RtInv (w : World) (k n hk : Bf) (E X H base : Nat) (wr : World) : Prop where
  below : Below w.heap.size w wr
  r1 : row wr (w.heap.size + 1) = some (ba 12 n)
  r2 : row wr (w.heap.size + 1 + 1) = some (ba 16 fun _ => 0#8)
  e : row wr E = some (ba 240 (axpF k))
  x : row wr X = some (ba 256 boxF)
  h : row wr H = some (ba 16 hk)
  hb : w.heap.size + 3 ≤ base ∧ E < base ∧ X < base ∧ H < base ∧ base ≤ wr.heap.size
theorem RtInv.call {w : World} {k n hk : Bf} {E X H base : Nat} {wr w' : World} (h : RtInv w k n hk E X H base wr) (hb : Below wr.heap.size wr w') : RtInv w k n hk E X H base w' :=
  ⟨onto h.below h.below.size hb, carry hb h.r1, carry hb h.r2, carry hb h.e, carry hb h.x, carry hb h.h, h.hb.1, h.hb.2.1, h.hb.2.2.1, h.hb.2.2.2.1, Nat.le_trans h.hb.2.2.2.2 hb.size⟩
theorem RtInv.grown {w : World} {k n hk : Bf} {E X H base : Nat} {wr w' : World} {v : Value} {m : Nat} {F : Bf} (h : RtInv w k n hk E X H base wr) (ho : Own wr base 5 v m F) (hg : wr.grownBy w' v.ownBlock) : RtInv w k n hk E X H base w' :=
  have hb := h.hb
  have low : ∀ b, b < base → v.ownBlock ≠ some b := fun b hb e => by
    unfold Own at ho
    have := (World.ownsRow.lt ho b e).1
    omega
  ⟨ho.after hg h.below h.below.size (by omega), grown_row hg h.r1 (low _ (by omega)), grown_row hg h.r2 (low _ (by omega)), grown_row hg h.e (low _ (by omega)), grown_row hg h.x (low _ (by omega)), grown_row hg h.h (low _ (by omega)), hb.1, hb.2.1, hb.2.2.1, hb.2.2.2.1, Nat.le_trans hb.2.2.2.2 hg.size⟩

theorem all_cats2 (s b : Bf) (ns nb : Nat) : ∀ i, i < up16 ns + up16 nb + 8 + 8 → catF (up16 ns + up16 nb + 8) (catF (up16 ns + up16 nb) (catF (up16 ns) (padF s ns) (padF b nb)) (beN 8 (8 * ns))) (beN 8 (8 * nb)) i = allF s ns b nb i := fun i _ => by
  unfold catF allF
  by_cases h1 : i < up16 ns
  · rw [if_pos (by omega), if_pos (by omega), if_pos h1, if_pos h1]
  · by_cases h2 : i < up16 ns + up16 nb
    · rw [if_pos (by omega), if_pos h2, if_neg h1, if_neg h1, if_pos h2]
    · by_cases h3 : i < up16 ns + up16 nb + 8
      · rw [if_pos h3, if_neg h2, if_neg h1, if_neg h2, if_pos h3]
      · rw [if_neg h3, if_neg h1, if_neg h2, if_neg h3]

set_option maxRecDepth 20000 in
set_option maxHeartbeats 4000000 in
theorem rgtag_any (k n : Bf) (s : Bf) (ns cs : Nat) (As : Option Addr) (b : Bf) (nb cb : Nat) (Ab : Option Addr) (w : World) (hs : Sl w w.heap.size As ns cs s) (hb : Sl w w.heap.size Ab nb cb b) (hns : ns ≤ 1099511627776) (hnb : nb ≤ 1099511627776) :
    Calls Tryz.prog 53 #[.agg (ba 32 k), .agg (ba 12 n), .slice As ns cs, .slice Ab nb cb] w fun e w' => e = .returned (.agg (ba 16 (tagF k n s ns b nb))) ∧ Below w.heap.size w w' := by
  have B0 := (((Below.refl w.heap.size w).alloc (by simp) (.cells (ba 32 k) 32)).alloc (by simp) (.cells (ba 12 n) 78)).alloc (by simp; omega) (.cells (ba 16 fun _ => 0#8) 100)
  have HSS := Lib.hid hs
  have HSB := Lib.hid hb
  have HB0 := Lib.hid B0
  have q0 : row (((w.alloc (.cells (ba 32 k) 32)).alloc (.cells (ba 12 n) 78)).alloc (.cells (ba 16 fun _ => 0#8) 100)) w.heap.size = some (ba 32 k) := by simp [go_sem]
  have q1 : row (((w.alloc (.cells (ba 32 k) 32)).alloc (.cells (ba 12 n) 78)).alloc (.cells (ba 16 fun _ => 0#8) 100)) (w.heap.size + 1) = some (ba 12 n) := by simp [go_sem]
  have q2 : row (((w.alloc (.cells (ba 32 k) 32)).alloc (.cells (ba 12 n) 78)).alloc (.cells (ba 16 fun _ => 0#8) 100)) (w.heap.size + 1 + 1) = some (ba 16 fun _ => 0#8) := by simp [go_sem]
  have s0 : (((w.alloc (.cells (ba 32 k) 32)).alloc (.cells (ba 12 n) 78)).alloc (.cells (ba 16 fun _ => 0#8) 100)).heap.size = w.heap.size + 3 := by simp
  have hus := up16_le ns
  have hub := up16_le nb
  clear hs hb B0
  go_enter Tryz.func53, Tryz.ntmps53
  go_wp2_with fail
  generalize ((w.alloc (.cells (ba 32 k) 32)).alloc (.cells (ba 12 n) 78)).alloc (.cells (ba 16 fun _ => 0#8) 100) = w0 at HB0 q0 q1 q2 s0 ⊢
  refine (refexpand_any k _).mono ?_
  rintro e w1 ⟨rfl, hb1⟩
  have HB1 := Lib.hid ((onto HB0.out HB0.out.size hb1).alloc (by have := hb1.size; omega) (.cells (ba 240 (axpF k)) 111))
  have t1 := row_alloc (carry hb1 q1) (.cells (ba 240 (axpF k)) 111)
  have t2 := row_alloc (carry hb1 q2) (.cells (ba 240 (axpF k)) 111)
  have te : row (w1.alloc (.cells (ba 240 (axpF k)) 111)) w1.heap.size = some (ba 240 (axpF k)) := row_alloc_at _ _ _ _ rfl
  have s1 : (w1.alloc (.cells (ba 240 (axpF k)) 111)).heap.size = w1.heap.size + 1 := by simp
  have s1' : w.heap.size + 3 ≤ w1.heap.size := by have := hb1.size; omega
  clear q0 q1 q2 s0 HB0 hb1
  go_wp2_with fail
  generalize w1.heap.size = E at te s1 s1' ⊢
  generalize w1.alloc (.cells (ba 240 (axpF k)) 111) = w2 at HB1 t1 t2 te s1 ⊢
  refine (rboxes_any _).mono ?_
  rintro e w3 ⟨rfl, hb3⟩
  have HB3 := Lib.hid ((onto HB1.out HB1.out.size hb3).alloc (by have := hb3.size; omega) (.cells (ba 256 boxF) 113))
  have r1 := row_alloc (carry hb3 t1) (.cells (ba 256 boxF) 113)
  have r2 := row_alloc (carry hb3 t2) (.cells (ba 256 boxF) 113)
  have re := row_alloc (carry hb3 te) (.cells (ba 256 boxF) 113)
  have rx : row (w3.alloc (.cells (ba 256 boxF) 113)) w3.heap.size = some (ba 256 boxF) := row_alloc_at _ _ _ _ rfl
  have s3 : (w3.alloc (.cells (ba 256 boxF) 113)).heap.size = w3.heap.size + 1 := by simp
  have s3' : E < w3.heap.size := by have := hb3.size; omega
  clear t1 t2 te HB1 hb3
  go_wp2_with fail
  generalize w3.heap.size = X at rx s3 s3' ⊢
  generalize w3.alloc (.cells (ba 256 boxF) 113) = w4 at HB3 r1 r2 re rx s3 ⊢
  refine (encrypts_any k (fun _ => 0#8) _).mono ?_
  rintro e w5 ⟨rfl, hb5⟩
  obtain ⟨hk, hhk⟩ : ∃ hk, hk = aenF k nF := ⟨_, rfl⟩
  rw [show (aenF k fun _ => 0#8) = hk from hhk.symm]
  have HHK := Lib.hid hhk
  have hI : RtInv w k n hk E X w5.heap.size (w5.heap.size + 1) (w5.alloc (.cells (ba 16 hk) 100)) :=
    ⟨(onto HB3.out HB3.out.size hb5).alloc (by have := hb5.size; omega) _, row_alloc (carry hb5 r1) _, row_alloc (carry hb5 r2) _, row_alloc (carry hb5 re) _, row_alloc (carry hb5 rx) _, row_alloc_at _ _ _ _ rfl,
      by have := hb5.size; omega, by have := hb5.size; omega, by have := hb5.size; omega, by omega, by simp⟩
  have HI5 := Lib.hid hI
  clear r1 r2 re rx s1 s1' s3 s3' HB3 hhk hI hb5
  go_wp2_with fail
  generalize w5.heap.size = H at HI5 ⊢
  generalize w5.alloc (.cells (ba 16 hk) 100) = w6 at HI5 ⊢
  have hbase := HI5.out.hb.2.2.2.2
  refine (whole_any ns cs As s _ ((HSS.out.below HI5.out.below).more HI5.out.below.size) hns).mono ?_
  rintro e w7 ⟨v1, rfl, ho1, hb7⟩
  have HI7 := Lib.hid (HI5.out.call hb7)
  have HO7 := Lib.hid (ho1.base hbase)
  clear ho1 hb7 HI5 hbase
  go_wp2_with fail
  refine (whole_any nb cb Ab b _ ((HSB.out.below HI7.out.below).more HI7.out.below.size) hnb).mono ?_
  rintro e w8 ⟨v2, rfl, ho2, hb8⟩
  have HI8 := Lib.hid (HI7.out.call hb8)
  have HO8 := HO7.out.below hb8 (Nat.le_refl _)
  obtain ⟨A2, c2, rfl, h2, hc2, -⟩ := ho2.sl
  have hbase := HI8.out.hb.2.2.2.2
  clear hb8 HI7 HO7 ho2
  go_wp2_with (at_builtin; refine wpl_appB rfl (.tmp 21) (.tmp 23) rfl sli_u u8_info HO8 h2 (by omega) hbase rfl rfl ?_; intro v3 w9 ho hg ht)
  have HI9 := Lib.hid (HI8.out.grown HO8 hg)
  have HO9 := Lib.hid ho
  clear ho hg ht h2 hc2 HO8 HI8 hbase
  refine (rbits_any ns (by omega) _).mono ?_
  rintro e w10 ⟨v4, rfl, ho4, hb10⟩
  have HI10 := Lib.hid (HI9.out.call hb10)
  have HO10 := HO9.out.below hb10 (Nat.le_refl _)
  obtain ⟨A4, c4, rfl, h4, hc4, -⟩ := ho4.sl
  have hbase := HI10.out.hb.2.2.2.2
  clear hb10 HI9 HO9 ho4
  go_wp2_with (at_builtin; refine wpl_appB rfl (.tmp 25) (.tmp 28) rfl sli_u u8_info HO10 h4 (by omega) hbase rfl rfl ?_; intro v5 w11 ho hg ht)
  have HI11 := Lib.hid (HI10.out.grown HO10 hg)
  have HO11 := Lib.hid ho
  clear ho hg ht h4 hc4 HO10 HI10 hbase
  refine (rbits_any nb (by omega) _).mono ?_
  rintro e w12 ⟨v6, rfl, ho6, hb12⟩
  have HI12 := Lib.hid (HI11.out.call hb12)
  have HO12 := HO11.out.below hb12 (Nat.le_refl _)
  obtain ⟨A6, c6, rfl, h6, hc6, -⟩ := ho6.sl
  have hbase := HI12.out.hb.2.2.2.2
  clear hb12 HI11 HO11 ho6
  go_wp2_with (at_builtin; refine wpl_appB rfl (.tmp 29) (.tmp 32) rfl sli_u u8_info HO12 h6 (by omega) hbase rfl rfl ?_; intro v7 w13 ho hg ht)
  have HI13 := Lib.hid (HI12.out.grown HO12 hg)
  obtain ⟨A7, c7, rfl, h7, hc7, -⟩ := (ho.congr (all_cats2 s b ns nb)).sl
  obtain ⟨al, hal⟩ : ∃ al, al = allF s ns b nb := ⟨_, rfl⟩
  have HAL := Lib.hid hal
  obtain ⟨N, hN⟩ : ∃ N, N = up16 ns + up16 nb + 8 + 8 := ⟨_, rfl⟩
  have HN := Lib.hid hN
  rw [← hal, ← hN] at h7
  rw [← hN]
  have hNb : N ≤ 140737488355328 := by omega
  obtain ⟨ct, hct⟩ : ∃ ct, ct = ctrF n 1 := ⟨_, rfl⟩
  have HCT := Lib.hid hct
  have cC := rctr_any n 1 (by decide)
  rw [← hct] at cC
  have HC := Lib.hid cC
  have hs13 : ∀ x : After w13, Sl x.val x.val.heap.size A7 N c7 al := fun x => After.sl h7 x
  have HS13 := Lib.hid hs13
  have q1 := After.row HI13.out.r1
  have qe := After.row HI13.out.e
  have qx := After.row HI13.out.x
  have qh := After.row HI13.out.h
  clear hct cC hs13 hal hN ho hg ht h7 hc7 h6 hc6 HO12 HI12 hbase
  refine seen_tail 0 9 (by kernel_rfl) (by kernel_rfl) (fun _ _ _ _ _ h => h) ?_
  simp only [List.take_succ_cons, List.take_zero, List.drop_succ_cons, List.drop_zero]
  repeat (go_big_quiet_step ((first | (go_at_call 71; refine After.call _ (HC.out _)) | (go_at_call 72; refine After.call _ (encrypts_any k ct _)) | (go_at_call 77; refine After.call _ (rbhash_any hk al N c7 A7 _ (HS13.out _) hNb)) | (go_at_call 76; refine After.call _ (rbxor_any (hshF hk al N) (aenF k ct) _)))))
  refine wpQuiet_nil ?_
  rintro _ ⟨x, rfl⟩
  have r2 := carry x.below HI13.out.r2
  have HBJ := Lib.hid (onto HI13.out.below HI13.out.below.size x.below)
  have HT := Lib.hid (show xorF (hshF hk al N) (aenF k ct) = tagF k n s ns b nb by rw [HCT.out, HHK.out, HAL.out, HN.out, xorF_comm']; rfl)
  clear q1 qe qx qh HI13
  go_wp2_with fail
  rw [HT.out]
  refine bodyPost_ret (v := .agg (ba 16 (tagF k n s ns b nb))) (res_row rfl _ _ (w.heap.size + 1 + 1) _ _ _ rfl (row_setRow r2 _) blk_u (by rw [ba_size]; exact blk_i)) rfl ⟨rfl, ?_⟩
  exact below_setRow HBJ.out (by omega) _
end Go.Proofs.YtamemjldafoolaaGreat.Oct

/-! ## GcmG -/
/- Contracts of gcm.Seal, gcm.Open, and of the reference's. -/
namespace Go.Proofs.YtamemjldafoolaaGreat.Oct
open Go.ChangeShapes Go.WideShapes Go.ChangeAt Go.RowKit
set_option linter.unusedVariables false

/-- a whole array out of cells, wherever they lie -/
theorem ldR_cells {P : Program} (t n : Nat) (e : TypeId) (hu : P.underlying t = some (.array n e)) (m : Nat) (hi : (P.info? t).map (·.size) = some m) (w : World) (g o : Nat) (f : Bf) (hc : ∀ i, i < m → w.cell? ⟨g, o + i, none⟩ = some (.int .u8 (I (f i)))) :
    ldR P t m w g o (row w g) = .ok (.agg (ba m f)) w := by
  rw [← ld_rule t n e hu m hi w g o]
  have h := run_loadAt_mid (P := P) w g o t (ba m f).toList _ (fun j v hv => by
    rw [Array.getElem?_toList] at hv
    by_cases hj : j < m
    · rw [ba_get m f j hj] at hv; rw [hc j hj, hv]
    · rw [ba_none m f j hj] at hv; cases hv) hu rfl (by rw [hi, Array.length_toList, ba_size])
  rw [Array.toArray_toList] at h
  exact h
theorem blk_at (a : Option Addr) (cap : Nat) (w : World) : (Instr.arrayAt 100 (.slice a 16 cap)).run Tryz.prog w = .ok (.pointer a) w := by
  simp [Instr.arrayAt, run_underlying blk_u]

def sealF (k n s : Bf) (ns : Nat) (b : Bf) (L : Nat) : Bf := catF L (xorS k n 2 b) (tagF k n s ns (xorS k n 2 b) L)
/-- what Open says -/
def opC (k n s : Bf) (ns : Nat) (b : Bf) (L : Nat) : Int := if L < 16 then 3 else if eqB 16 (tagF k n s ns b (L - 16)) (offF b (L - 16)) = true then 0 else 40
def opL (k n s : Bf) (ns : Nat) (b : Bf) (L : Nat) : Nat := if opC k n s ns b L = 0 then L - 16 else 0

set_option maxRecDepth 20000 in
set_option maxHeartbeats 2000000 in
theorem gseal_any (k n : Bf) (s : Bf) (ns cs : Nat) (As : Option Addr) (b : Bf) (L c : Nat) (A : Option Addr) (w : World) (hs : Sl w w.heap.size As ns cs s) (hb : Sl w w.heap.size A L c b) (hns : ns ≤ 1099511627776) (hL : L ≤ 1099511627776) :
    Calls Tryz.prog 34 #[.agg (ba 32 k), .agg (ba 12 n), .slice As ns cs, .slice A L c] w fun e w' => ∃ v, e = .returned v ∧ Own w' w.heap.size 5 v (L + 16) (sealF k n s ns b L) ∧ Below w.heap.size w w' := by
  have B0 := ((Below.refl w.heap.size w).alloc (by simp) (.cells (ba 32 k) 32)).alloc (by simp) (.cells (ba 12 n) 78)
  have HSS := Lib.hid hs
  have HSB := Lib.hid hb
  have HB0 := Lib.hid B0
  have q0 : row ((w.alloc (.cells (ba 32 k) 32)).alloc (.cells (ba 12 n) 78)) w.heap.size = some (ba 32 k) := by simp [go_sem]
  have q1 : row ((w.alloc (.cells (ba 32 k) 32)).alloc (.cells (ba 12 n) 78)) (w.heap.size + 1) = some (ba 12 n) := by simp [go_sem]
  clear hs hb B0
  go_enter Tryz.func34, Tryz.ntmps34
  go_wp2_with fail
  generalize (w.alloc (.cells (ba 32 k) 32)).alloc (.cells (ba 12 n) 78) = w0 at HB0 q0 q1 ⊢
  refine (gxor_any k n 2 (by decide) b L c A _ ((HSB.out.below HB0.out).more HB0.out.size) hL).mono ?_
  rintro e w1 ⟨v1, rfl, ho1, hb1⟩
  have HB1 := Lib.hid (onto HB0.out HB0.out.size hb1)
  have HO1 := Lib.hid (ho1.base HB0.out.size)
  obtain ⟨A1, c1, rfl, h1, hc1, -⟩ := ho1.sl
  have t0 := carry hb1 q0
  have t1 := carry hb1 q1
  clear q0 q1 ho1 hb1 HB0
  go_wp2_with fail
  refine (gtag_any k n s ns cs As (xorS k n 2 b) L c1 A1 _ ((HSS.out.below HB1.out).more HB1.out.size) h1 hns hL).mono ?_
  rintro e w2 ⟨rfl, hb2⟩
  obtain ⟨tg, htg⟩ : ∃ tg, tg = tagF k n s ns (xorS k n 2 b) L := ⟨_, rfl⟩
  rw [← htg]
  have HTG := Lib.hid htg
  have hs2 := hb2.size
  have hsz := HB1.out.size
  have HB2 := Lib.hid ((onto HB1.out HB1.out.size hb2).alloc (by omega) (.cells (ba 16 tg) 100))
  have HO2 := (HO1.out.below hb2 (Nat.le_refl _)).alloc (.cells (ba 16 tg) 100)
  have rt : row (w2.alloc (.cells (ba 16 tg) 100)) w2.heap.size = some (ba 16 tg) := row_alloc_at _ _ _ _ rfl
  have HST := Sl.of_row rt (w2.heap.size + 1) (by omega)
  have hb3 : w.heap.size ≤ (w2.alloc (.cells (ba 16 tg) 100)).heap.size := by simp; omega
  clear t0 t1 h1 hc1 hb2 htg HB1 HO1
  go_wp2_with (at_builtin; refine wpl_appB rfl (.tmp 20) (.tmp 21) rfl sli_u u8_info HO2 HST (by omega) hb3 rfl rfl ?_; intro v3 w3 ho hg ht)
  have HF := Lib.hid (ho.congr (f' := sealF k n s ns b L) fun i _ => by unfold sealF; rw [HTG.out])
  have HB3 := Lib.hid (HO2.after hg HB2.out hb3 (Nat.le_refl _))
  clear ho hg ht
  go_ret
  exact ⟨_, rfl, HF.out, HB3.out⟩

set_option maxRecDepth 20000 in
set_option maxHeartbeats 2000000 in
theorem rgseal_any (k n : Bf) (s : Bf) (ns cs : Nat) (As : Option Addr) (b : Bf) (L c : Nat) (A : Option Addr) (w : World) (hs : Sl w w.heap.size As ns cs s) (hb : Sl w w.heap.size A L c b) (hns : ns ≤ 1099511627776) (hL : L ≤ 1099511627776) :
    Calls Tryz.prog 37 #[.agg (ba 32 k), .agg (ba 12 n), .slice As ns cs, .slice A L c] w fun e w' => ∃ v, e = .returned v ∧ Own w' w.heap.size 5 v (L + 16) (sealF k n s ns b L) ∧ Below w.heap.size w w' := by
  have B0 := ((Below.refl w.heap.size w).alloc (by simp) (.cells (ba 32 k) 32)).alloc (by simp) (.cells (ba 12 n) 78)
  have HSS := Lib.hid hs
  have HSB := Lib.hid hb
  have HB0 := Lib.hid B0
  have q0 : row ((w.alloc (.cells (ba 32 k) 32)).alloc (.cells (ba 12 n) 78)) w.heap.size = some (ba 32 k) := by simp [go_sem]
  have q1 : row ((w.alloc (.cells (ba 32 k) 32)).alloc (.cells (ba 12 n) 78)) (w.heap.size + 1) = some (ba 12 n) := by simp [go_sem]
  clear hs hb B0
  go_enter Tryz.func37, Tryz.ntmps37
  go_wp2_with fail
  generalize (w.alloc (.cells (ba 32 k) 32)).alloc (.cells (ba 12 n) 78) = w0 at HB0 q0 q1 ⊢
  refine (rgxor_any k n 2 (by decide) b L c A _ ((HSB.out.below HB0.out).more HB0.out.size) hL).mono ?_
  rintro e w1 ⟨v1, rfl, ho1, hb1⟩
  have HB1 := Lib.hid (onto HB0.out HB0.out.size hb1)
  have HO1 := Lib.hid (ho1.base HB0.out.size)
  obtain ⟨A1, c1, rfl, h1, hc1, -⟩ := ho1.sl
  have t0 := carry hb1 q0
  have t1 := carry hb1 q1
  clear q0 q1 ho1 hb1 HB0
  go_wp2_with fail
  refine (rgtag_any k n s ns cs As (xorS k n 2 b) L c1 A1 _ ((HSS.out.below HB1.out).more HB1.out.size) h1 hns hL).mono ?_
  rintro e w2 ⟨rfl, hb2⟩
  obtain ⟨tg, htg⟩ : ∃ tg, tg = tagF k n s ns (xorS k n 2 b) L := ⟨_, rfl⟩
  rw [← htg]
  have HTG := Lib.hid htg
  have hs2 := hb2.size
  have hsz := HB1.out.size
  have HB2 := Lib.hid ((onto HB1.out HB1.out.size hb2).alloc (by omega) (.cells (ba 16 tg) 100))
  have HO2 := (HO1.out.below hb2 (Nat.le_refl _)).alloc (.cells (ba 16 tg) 100)
  have rt : row (w2.alloc (.cells (ba 16 tg) 100)) w2.heap.size = some (ba 16 tg) := row_alloc_at _ _ _ _ rfl
  have HST := Sl.of_row rt (w2.heap.size + 1) (by omega)
  have hb3 : w.heap.size ≤ (w2.alloc (.cells (ba 16 tg) 100)).heap.size := by simp; omega
  clear t0 t1 h1 hc1 hb2 htg HB1 HO1
  go_wp2_with (at_builtin; refine wpl_appB rfl (.tmp 20) (.tmp 21) rfl sli_u u8_info HO2 HST (by omega) hb3 rfl rfl ?_; intro v3 w3 ho hg ht)
  have HF := Lib.hid (ho.congr (f' := sealF k n s ns b L) fun i _ => by unfold sealF; rw [HTG.out])
  have HB3 := Lib.hid (HO2.after hg HB2.out hb3 (Nat.le_refl _))
  clear ho hg ht
  go_ret
  exact ⟨_, rfl, HF.out, HB3.out⟩

set_option maxRecDepth 20000 in
set_option maxHeartbeats 4000000 in
theorem gopen_any (k n : Bf) (s : Bf) (ns cs : Nat) (As : Option Addr) (b : Bf) (L c : Nat) (A : Option Addr) (w : World) (hs : Sl w w.heap.size As ns cs s) (hb : Sl w w.heap.size A L c b) (hns : ns ≤ 1099511627776) (hL : L ≤ 1099511627776) :
    Calls Tryz.prog 56 #[.agg (ba 32 k), .agg (ba 12 n), .slice As ns cs, .slice A L c] w fun e w' => ∃ v, e = .returned (.tuple #[v, .int .i64 (opC k n s ns b L)]) ∧ Own w' w.heap.size 5 v (opL k n s ns b L) (xorS k n 2 b) ∧ Below w.heap.size w w' := by
  have B0 := ((Below.refl w.heap.size w).alloc (by simp) (.cells (ba 32 k) 32)).alloc (by simp) (.cells (ba 12 n) 78)
  have HSS := Lib.hid hs
  have HSB := Lib.hid hb
  have HB0 := Lib.hid B0
  have q0 : row ((w.alloc (.cells (ba 32 k) 32)).alloc (.cells (ba 12 n) 78)) w.heap.size = some (ba 32 k) := by simp [go_sem]
  have q1 : row ((w.alloc (.cells (ba 32 k) 32)).alloc (.cells (ba 12 n) 78)) (w.heap.size + 1) = some (ba 12 n) := by simp [go_sem]
  have hcap := hb.le
  clear hs hb B0
  by_cases hlt : L < 16
  · have hd : decide ((L : Int) < 16) = true := by simp; omega
    have HCO := Lib.hid (show opC k n s ns b L = 3 by unfold opC; rw [if_pos hlt])
    go_enter Tryz.func56, Tryz.ntmps56
    go_wp2_with fail
    rw [show opL k n s ns b L = 0 by unfold opL; rw [HCO.out]; rfl, HCO.out]
    exact bodyPost_ret (v := .tuple #[.slice none 0 0, .int .i64 3]) (by simp [results, Tryz.results56, go_sem]) rfl ⟨_, rfl, Own.nil _ _ _ _, HB0.out⟩
  · have hd : decide ((L : Int) < 16) = false := by simp; omega
    obtain ⟨m, hm⟩ : ∃ m, m = L - 16 := ⟨_, rfl⟩
    have hmL : m + 16 = L := by omega
    have hmi : (L : Int) - 16 = (m : Int) := by omega
    obtain ⟨g, o, hA, hg, hcell⟩ := HSB.out.at_ (by omega)
    subst hA
    have hup := run_upto sli_u u8_i (some ⟨g, o, none⟩) L c m (by omega)
    have hfrom := run_from sli_u u8_i (some ⟨g, o, none⟩) L c m (by omega)
    rw [show cutA (some ⟨g, o, none⟩) c m = some ⟨g, o + m, none⟩ by unfold cutA; rw [if_neg (by omega)]; simp only [Option.map_some]; rw [add_mid], show L - m = 16 by omega] at hfrom
    have hat := blk_at (some ⟨g, o + m, none⟩) (c - m)
    have HC := Lib.hid hcell
    clear hcell hm
    go_enter Tryz.func56, Tryz.ntmps56
    go_wp2_with fail
    refine flow_seen [([0, 1, 2, 3, 4, 5, 6, 7], 8, false), ([9], 10, true)] [] (by kernel_rfl) (by kernel_rfl) (fun _ _ _ _ _ h => h) fun X => ?_
    have hbx := X.below
    have HB1 := Lib.hid (onto HB0.out HB0.out.size hbx)
    have t0 := carry hbx q0
    have t1 := carry hbx q1
    clear q0 q1 HB0 hbx
    generalize X.val = w1 at HB1 t0 t1 ⊢
    clear X
    obtain ⟨f, hf⟩ : ∃ f, f = offF b m := ⟨_, rfl⟩
    have HF := Lib.hid hf
    have hld : ∀ x : After w1, ldR Tryz.prog 100 16 x.val g (o + m) (row x.val g) = .ok (.agg (ba 16 f)) x.val := fun x => ldR_cells _ 16 _ blk_u 16 blk_i x.val g (o + m) f fun i hi => by
      rw [show o + m + i = o + (m + i) by omega, (onto HB1.out HB1.out.size x.below).cell (p := ⟨g, o + (m + i), none⟩) hg, HC.out (m + i) (by omega), hf]; rfl
    clear hf
    simp only [wpFs, pk, List.getElem?_cons_zero, List.getElem?_cons_succ]
    repeat (go_big_quiet_step (fail))
    refine wpQuiet_nil ?_
    clear hld hup hfrom hat
    go_wp2_with fail
    have hb2 : Below w1.heap.size w1 (w1.alloc (.cells (ba 16 fun _ => 0#8) 100)) := (Below.refl _ _).alloc (Nat.le_refl _) _
    have rz : row (w1.alloc (.cells (ba 16 fun _ => 0#8) 100)) w1.heap.size = some (ba 16 fun _ => 0#8) := row_alloc_at _ _ _ _ rfl
    have HBS := Lib.hid (show w.heap.size + 2 ≤ w1.heap.size by have := row_lt t1; omega)
    refine ⟨.inr hb2, ?_⟩
    have HB2 := Lib.hid (onto HB1.out HB1.out.size hb2)
    have r0 := carry hb2 t0
    have r1 := carry hb2 t1
    clear t0 t1 HB1 hb2
    generalize w1.heap.size = Z at rz HBS ⊢
    generalize w1.alloc (.cells (ba 16 fun _ => 0#8) 100) = w2 at HB2 r0 r1 rz ⊢
    show wpQuiet _ _ _ _ _ _
    repeat (go_big_quiet_step (fail))
    refine wpQuiet_nil ?_
    go_wp2_with fail
    refine ⟨.inl trivial, ?_⟩
    have HB3 := Lib.hid (below_setRow HB2.out (show w.heap.size ≤ Z by have := HBS.out; omega) (ba 16 f))
    have t0 : row (w2.setRow Z (ba 16 f)) w.heap.size = some (ba 32 k) := by rw [row_setRow_other _ _ _ _ (by have := HBS.out; omega)]; exact r0
    have t1 : row (w2.setRow Z (ba 16 f)) (w.heap.size + 1) = some (ba 12 n) := by rw [row_setRow_other _ _ _ _ (by have := HBS.out; omega)]; exact r1
    have tz : row (w2.setRow Z (ba 16 f)) Z = some (ba 16 f) := row_setRow rz _
    clear r0 r1 rz HB2
    generalize w2.setRow Z (ba 16 f) = w3 at HB3 t0 t1 tz ⊢
    show wpQuiet _ _ _ _ _ _
    refine wpQuiet_nil ?_
    obtain ⟨tg, htg⟩ : ∃ tg, tg = tagF k n s ns b m := ⟨_, rfl⟩
    have HTG := Lib.hid htg
    have hcT : ∀ x : After w3, Calls Tryz.prog 50 #[.agg (ba 32 k), .agg (ba 12 n), .slice As ns cs, .slice (some ⟨g, o, none⟩) m c] x.val fun e w' => e = .returned (.agg (ba 16 tg)) ∧ Below x.val.heap.size x.val w' := fun x => by
      rw [htg]
      have hx : Below w.heap.size w x.val := onto HB3.out HB3.out.size x.below
      exact gtag_any k n s ns cs As b m c _ _ ((HSS.out.below hx).more hx.size) (((HSB.out.upto m (by omega)).below hx).more hx.size) hns (by omega)
    have HCT := Lib.hid hcT
    have q0 := After.row t0
    have q1 := After.row t1
    have qz := After.row tz
    have hmL16 : L - 16 = m := by omega
    have HML := Lib.hid hmL16
    have HMB := Lib.hid (show m ≤ 1099511627776 ∧ m ≤ L by omega)
    clear htg hcT hmL16 hmL hmi hd
    cases he : eqB 16 tg f
    · go_wp2_with fail
      refine seen_region (by kernel_rfl) (by kernel_rfl) ?_
      repeat (first | rw [he] | go_big_quiet_step ((go_at_call 50; exact After.call _ (HCT.out _))))
      refine wpQuiet_nil ?_
      rintro _ ⟨x, rfl⟩
      have HB4 := Lib.hid (onto HB3.out HB3.out.size x.below)
      clear q0 q1 qz
      go_wp2_with fail
      have hC : opC k n s ns b L = 40 := by
        unfold opC
        rw [if_neg hlt, HML.out, ← HTG.out, ← HF.out, he]
        rfl
      rw [show opL k n s ns b L = 0 by unfold opL; rw [hC]; rfl, hC]
      exact bodyPost_ret (v := .tuple #[.slice none 0 0, .int .i64 40]) (by simp [results, Tryz.results56, go_sem]) rfl ⟨_, rfl, Own.nil _ _ _ _, HB4.out⟩
    · go_wp2_with fail
      refine seen_region (by kernel_rfl) (by kernel_rfl) ?_
      repeat (first | rw [he] | go_big_quiet_step ((go_at_call 50; exact After.call _ (HCT.out _))))
      refine wpQuiet_nil ?_
      rintro _ ⟨x, rfl⟩
      have HB4 := Lib.hid (onto HB3.out HB3.out.size x.below)
      have r0 := q0 x
      have r1 := q1 x
      clear q0 q1 qz
      go_wp2_with fail
      refine (gxor_any k n 2 (by decide) b m c _ _ (((HSB.out.upto m HMB.out.2).below HB4.out).more HB4.out.size) HMB.out.1).mono ?_
      rintro e w5 ⟨v, rfl, ho, hb5⟩
      have HO := Lib.hid (ho.base HB4.out.size)
      have HB5 := Lib.hid (onto HB4.out HB4.out.size hb5)
      clear ho hb5
      go_wp2_with fail
      have hC : opC k n s ns b L = 0 := by
        unfold opC
        rw [if_neg hlt, HML.out, ← HTG.out, ← HF.out, he]
        rfl
      rw [show opL k n s ns b L = m by unfold opL; rw [hC, if_pos rfl, HML.out], hC]
      exact bodyPost_ret (v := .tuple #[v, .int .i64 0]) (by simp [results, Tryz.results56, go_sem]) rfl ⟨_, rfl, HO.out, HB5.out⟩
end Go.Proofs.YtamemjldafoolaaGreat.Oct

/-! ## GcmH -/
/- Contract of the reference's Open. -/
namespace Go.Proofs.YtamemjldafoolaaGreat.Oct
open Go.ChangeShapes Go.WideShapes Go.ChangeAt Go.RowKit
set_option linter.unusedVariables false

theorem str_ne {n : Nat} {f g : Bf} (h : eqB n f g = false) : strOf n f ≠ strOf n g := by
  intro e
  have := (eqB_iff n f g).2 (str_inj e)
  rw [h] at this
  cases this
theorem str_nel {n : Nat} {f g : Bf} (h : eqB n f g = false) : ((strOf n f).toList == (strOf n g).toList) = false := by
  rw [beq_eq_false_iff_ne]
  intro e
  rw [ByteArray.toList_eq, ByteArray.toList_eq] at e
  exact str_ne h (by
    have : (strOf n f).data = (strOf n g).data := by simpa using e
    cases hf : strOf n f; cases hg : strOf n g
    rw [hf, hg] at this
    exact congrArg ByteArray.mk this)
theorem str_eq {n : Nat} {f g : Bf} (h : eqB n f g = true) : strOf n f = strOf n g := str_congr ((eqB_iff n f g).1 h)

set_option maxRecDepth 20000 in
set_option maxHeartbeats 4000000 in
theorem rgopen_any (k n : Bf) (s : Bf) (ns cs : Nat) (As : Option Addr) (b : Bf) (L c : Nat) (A : Option Addr) (w : World) (hs : Sl w w.heap.size As ns cs s) (hb : Sl w w.heap.size A L c b) (hns : ns ≤ 1099511627776) (hL : L ≤ 1099511627776) :
    Calls Tryz.prog 41 #[.agg (ba 32 k), .agg (ba 12 n), .slice As ns cs, .slice A L c] w fun e w' => ∃ v, e = .returned (.tuple #[v, .int .i64 (opC k n s ns b L)]) ∧ Own w' w.heap.size 5 v (opL k n s ns b L) (xorS k n 2 b) ∧ Below w.heap.size w w' := by
  have B0 := ((Below.refl w.heap.size w).alloc (by simp) (.cells (ba 32 k) 32)).alloc (by simp) (.cells (ba 12 n) 78)
  have HSS := Lib.hid hs
  have HSB := Lib.hid hb
  have HB0 := Lib.hid B0
  have q0 : row ((w.alloc (.cells (ba 32 k) 32)).alloc (.cells (ba 12 n) 78)) w.heap.size = some (ba 32 k) := by simp [go_sem]
  have q1 : row ((w.alloc (.cells (ba 32 k) 32)).alloc (.cells (ba 12 n) 78)) (w.heap.size + 1) = some (ba 12 n) := by simp [go_sem]
  have hcap := hb.le
  clear hs hb B0
  by_cases hlt : L < 16
  · have hd : decide ((L : Int) - 16 < 0) = true := by simp; omega
    have HCO := Lib.hid (show opC k n s ns b L = 3 by unfold opC; rw [if_pos hlt])
    go_enter Tryz.func41, Tryz.ntmps41
    go_wp2_with fail
    rw [show opL k n s ns b L = 0 by unfold opL; rw [HCO.out]; rfl, HCO.out]
    exact bodyPost_ret (v := .tuple #[.slice none 0 0, .int .i64 3]) (by simp [results, Tryz.results41, go_sem]) rfl ⟨_, rfl, Own.nil _ _ _ _, HB0.out⟩
  · obtain ⟨m, hm⟩ : ∃ m, m = L - 16 := ⟨_, rfl⟩
    have hmL : m + 16 = L := by omega
    have hmi : (L : Int) - 16 = (m : Int) := by omega
    have hd : decide ((m : Int) < 0) = false := by simp
    obtain ⟨g, o, hA, hg, hcell⟩ := HSB.out.at_ (by omega)
    subst hA
    have hup := run_upto sli_u u8_i (some ⟨g, o, none⟩) L c m (by omega)
    have hfrom := run_from sli_u u8_i (some ⟨g, o, none⟩) L c m (by omega)
    rw [show cutA (some ⟨g, o, none⟩) c m = some ⟨g, o + m, none⟩ by unfold cutA; rw [if_neg (by omega)]; simp only [Option.map_some]; rw [add_mid], show L - m = 16 by omega] at hfrom
    obtain ⟨f, hf⟩ : ∃ f, f = offF b m := ⟨_, rfl⟩
    have HF := Lib.hid hf
    have HSF := Lib.hid (show Sl w w.heap.size (some ⟨g, o + m, none⟩) 16 (c - m) f from ⟨by omega, fun _ => ⟨g, o + m, rfl, hg, fun i hi => by
      rw [show o + m + i = o + (m + i) by omega, hcell (m + i) (by omega), hf]; rfl⟩⟩)
    clear hcell hm hf
    go_enter Tryz.func41, Tryz.ntmps41
    go_wp2_with fail
    obtain ⟨tg, htg⟩ : ∃ tg, tg = tagF k n s ns b m := ⟨_, rfl⟩
    have HTG := Lib.hid htg
    clear htg
    refine flow_float 7 _ (ba 16 fun _ => 0#8) [([0, 1, 2, 3, 4, 5], 6)] [] [([], 8, true)] [] (by kernel_rfl) (by kernel_rfl) rfl rfl (fun _ _ _ _ _ h => h) (fun _ _ _ _ _ h => h) (fun ρ w => ?_) fun X => ?_
    · simp only [execOp, go_sem, Sem.run_bind, Result.andThen]
      exact ⟨_, rfl, by simp [go_sem], (Below.refl _ _).alloc (Nat.le_refl _) _⟩
    have HB1 := Lib.hid (onto HB0.out HB0.out.size X.below)
    have HSZ := Lib.hid (show w.heap.size + 2 ≤ X.val.heap.size by have := X.below.size; simp at this; omega)
    have t0 := carry X.below q0
    have t1 := carry X.below q1
    clear q0 q1
    have hPG : ((w.alloc (.cells (ba 32 k) 32)).alloc (.cells (ba 12 n) 78)).heap.size = w.heap.size + 2 := by simp
    rw [hPG]
    clear hPG
    generalize X.val = w1 at HB1 t0 t1 HSZ ⊢
    clear X HB0
    have r0 := After.row t0
    have r1 := After.row t1
    simp only [wpFu, wpFs, pk, List.getElem?_cons_zero, List.getElem?_cons_succ]
    repeat (go_big_quiet_step (fail))
    refine wpQuiet_nil ?_
    clear r0 r1
    intro X
    have HX := Lib.hid (show Below w.heap.size w X.val from onto HB1.out HB1.out.size X.below)
    go_wp2_with fail
    refine (rgtag_any k n s ns cs As b m c _ _ ((HSS.out.below HX.out).more HX.out.size) (((HSB.out.upto m (by omega)).below HX.out).more HX.out.size) hns (by omega)).mono ?_
    rintro e w2 ⟨rfl, hb2⟩
    rw [← HTG.out]
    have HB2 := Lib.hid (onto HX.out HX.out.size hb2)
    have t0' := carry hb2 (carry X.below t0)
    have t1' := carry hb2 (carry X.below t1)
    go_wp2_with fail
    refine ⟨hb2, ?_⟩
    clear t0 t1 HX hb2 X
    show wpQuiet _ _ _ _ _ _
    refine wpQuiet_nil ?_
    intro Y p hp hrow
    have HY := Lib.hid (onto HB2.out HB2.out.size Y.below)
    have r0 := carry Y.below t0'
    have r1 := carry Y.below t1'
    clear t0' t1' HB2
    generalize Y.val = w3 at hrow HY r0 r1 ⊢
    clear Y
    refine wpQuiet_nil ?_
    unfold ptr
    go_wp2_with fail
    refine ⟨.inl trivial, ?_⟩
    have HZ := Lib.hid (below_setRow HY.out (show w.heap.size ≤ p by omega) (ba 16 tg))
    have t0 : row (w3.setRow p (ba 16 tg)) w.heap.size = some (ba 32 k) := by rw [row_setRow_other _ _ _ _ (by omega)]; exact r0
    have t1 : row (w3.setRow p (ba 16 tg)) (w.heap.size + 1) = some (ba 12 n) := by rw [row_setRow_other _ _ _ _ (by omega)]; exact r1
    have tp : row (w3.setRow p (ba 16 tg)) p = some (ba 16 tg) := row_setRow hrow _
    clear r0 r1 hrow HY
    generalize w3.setRow p (ba 16 tg) = w4 at HZ t0 t1 tp ⊢
    show wpQuiet _ _ _ _ _ _
    refine wpQuiet_nil ?_
    have c1 : ∀ x : After w4, (convert 33 9 (.slice (some ⟨p, 0, none⟩) 16 16)).run Tryz.prog x.val = .ok (.string (strOf 16 tg)) x.val := fun x => run_str sli_u u8_u str_u (Sl.of_row (After.row tp x) x.val.heap.size (row_lt (After.row tp x)))
    have c2 : ∀ x : After w4, (convert 33 9 (.slice (some ⟨g, o + m, none⟩) 16 (c - m))).run Tryz.prog x.val = .ok (.string (strOf 16 f)) x.val := fun x => run_str sli_u u8_u str_u (HSF.out.below (onto HZ.out HZ.out.size x.below))
    have hmL16 : L - 16 = m := by omega
    have HML := Lib.hid hmL16
    have HMB := Lib.hid (show m ≤ 1099511627776 ∧ m ≤ L by omega)
    clear hmL16 hmL hmi hd hp
    cases he : eqB 16 tg f
    · have hne := str_nel he
      generalize strOf 16 tg = S1 at c1 hne
      generalize strOf 16 f = S2 at c2 hne
      go_wp2_with fail
      refine seen_region (by kernel_rfl) (by kernel_rfl) ?_
      repeat (go_big_quiet_step (fail))
      refine wpQuiet_nil ?_
      rintro _ ⟨x, rfl⟩
      have HB4 := Lib.hid (onto HZ.out HZ.out.size x.below)
      clear c1 c2 t0 t1 tp
      go_wp2_with fail
      have hC : opC k n s ns b L = 40 := by
        unfold opC
        rw [if_neg hlt, HML.out, ← HTG.out, ← HF.out, he]
        rfl
      rw [show opL k n s ns b L = 0 by unfold opL; rw [hC]; rfl, hC]
      exact bodyPost_ret (v := .tuple #[.slice none 0 0, .int .i64 40]) (by simp [results, Tryz.results41, go_sem]) rfl ⟨_, rfl, Own.nil _ _ _ _, HB4.out⟩
    · have hne := str_eq he
      rw [hne] at c1
      generalize strOf 16 f = S2 at c1 c2
      clear hne
      go_wp2_with fail
      refine seen_region (by kernel_rfl) (by kernel_rfl) ?_
      repeat (go_big_quiet_step (fail))
      refine wpQuiet_nil ?_
      rintro _ ⟨x, rfl⟩
      have HB4 := Lib.hid (onto HZ.out HZ.out.size x.below)
      have r0 := carry x.below t0
      have r1 := carry x.below t1
      clear c1 c2 t0 t1 tp HZ
      generalize x.val = w5 at HB4 r0 r1 ⊢
      go_wp2_with fail
      refine flow_seen [([0, 1, 2, 3, 4], 5, false)] [6, 7] (by kernel_rfl) (by kernel_rfl) (fun _ _ _ _ _ h => h) fun X => ?_
      have HB5 := Lib.hid (onto HB4.out HB4.out.size X.below)
      have t0 := carry X.below r0
      have t1 := carry X.below r1
      clear r0 r1 HB4
      generalize X.val = w6 at HB5 t0 t1 ⊢
      clear X
      have q0 := After.row t0
      have q1 := After.row t1
      simp only [wpFs, pk, List.getElem?_cons_zero, List.getElem?_cons_succ]
      repeat (go_big_quiet_step (fail))
      refine wpQuiet_nil ?_
      clear q0 q1 hup hfrom
      go_wp2_with fail
      refine (rgxor_any k n 2 (by decide) b m c _ _ (((HSB.out.upto m HMB.out.2).below HB5.out).more HB5.out.size) HMB.out.1).mono ?_
      rintro e w7 ⟨v, rfl, ho, hb7⟩
      have HO := Lib.hid (ho.base HB5.out.size)
      have HB7 := Lib.hid (onto HB5.out HB5.out.size hb7)
      go_wp2_with fail
      refine ⟨.inr hb7, ?_⟩
      clear ho hb7 t0 t1
      show wpQuiet _ _ _ _ _ _
      repeat (go_big_quiet_step (fail))
      refine wpQuiet_nil ?_
      go_wp2_with fail
      have hC : opC k n s ns b L = 0 := by
        unfold opC
        rw [if_neg hlt, HML.out, ← HTG.out, ← HF.out, he]
        rfl
      rw [show opL k n s ns b L = m by unfold opL; rw [hC, if_pos rfl, HML.out], hC]
      exact bodyPost_ret (v := .tuple #[v, .int .i64 0]) (by simp [results, Tryz.results41, go_sem]) rfl ⟨_, rfl, HO.out, HB7.out⟩
end Go.Proofs.YtamemjldafoolaaGreat.Oct
