import Derived.Test.YteffjpdcghlnlaaGreatDoorZcLib
import Derived.Test.YteffjpdcghlnlaaGreatDoorZcAa
import Derived.WalkKit
import Derived.ProofKit
import Derived.OpenShut
import Derived.Lib.Hide
import Derived.Outline
import Derived.Test.YteffjpdcghlnlaaGreatDoorZcBlkAll
import Derived.Test.YteffjpdcghlnlaaGreatDoorZcOct
import Derived.IntWalk
set_option linter.unusedVariables false
set_option linter.unusedSimpArgs false
set_option maxHeartbeats 4000000
set_option maxRecDepth 20000
namespace Go.Proofs.YteffjpdcghlnlaaGreatDoor.Oct
open Go.ChangeShapes Go.WideShapes Go.ChangeAt Go.RowKit
theorem grow_any (n : Nat) (w : World) (hn : n ≤ 140737488355328) :
  Calls Tryz.prog 244 #[.slice none 0 0, .int .i64 n] w fun e w' => ∃ v, e = .returned v ∧ (∀ f, Own w' w.heap.size 5 v 0 f) ∧ Below w.heap.size w w' := by
 rcases Nat.eq_zero_or_pos n with rfl | hpos
 ·go_enter Tryz.func244, Tryz.ntmps244
  go_wp2
  go_ret
  exact ⟨_, rfl, fun f => Own.nil _ _ _ _, Below.refl _ _⟩
 ·have hd0 : decide ((n : Int) < 0) = false := by simp
  have hd1 : decide ((0 : Int) < (n : Int)) = true := by simp; omega
  obtain ⟨cap, w2, hr, ho, hg⟩ := run_grow (P := Tryz.prog) w 22 3 22 5 .i64 .i64 zZ i64_u yG n hpos hn
  have HO := Lib.hid ho
  have HB := Lib.hid (Below.of_grown hg)
  have hup := run_upto zZ u8_i (some ⟨w.heap.size, 0, none⟩) n cap 0 (Nat.zero_le _)
  clear ho hg
  go_enter Tryz.func244, Tryz.ntmps244
  go_wp2_with (at_builtin; refine Lib.wpList_append_run _ rfl (.tmp 20) (.tmp 21) _ _ rfl _ _ rfl rfl _ _ hr ?_)
  go_ret
  exact ⟨_, rfl, HO.out, HB.out⟩
def lenL (n : Nat → Nat) : Nat → Nat
 | 0 => 0
 | k + 1 => lenL n k + n k
def catsF (n : Nat → Nat) (b : Nat → Bf) : Nat → Bf
 | 0 => nF
 | k + 1 => catF (lenL n k) (catsF n b k) (b k)
theorem lenL_mono (n : Nat → Nat) {i j : Nat} (h : i ≤ j) : lenL n i ≤ lenL n j := by
 induction j with
 | zero => obtain rfl : i = 0 := by omega
           exact Nat.le_refl _
 | succ j ih =>
  rcases Nat.lt_or_ge i (j + 1) with h1 | h1
  ·exact Nat.le_trans (ih (by omega)) (Nat.le_add_right _ _)
  ·obtain rfl : i = j + 1 := by omega
   exact Nat.le_refl _
theorem concat_any (N h cap : Nat) (A : Nat → Option Addr) (n c : Nat → Nat) (b : Nat → Bf) (w : World) (hcell : ∀ i, i < N → w.cell? ⟨h, i, none⟩ = some (.slice (A i) (n i) (c i))) (hh : h < w.heap.size)
  (hs : ∀ i, i < N → Sl w w.heap.size (A i) (n i) (c i) (b i)) (hN : N ≤ 1000000) (hT : lenL n N ≤ 140737488355328) :
  Calls Tryz.prog 218 #[.slice (some ⟨h, 0, none⟩) N cap] w fun e w' => ∃ v, e = .returned v ∧ Own w' w.heap.size 5 v (lenL n N) (catsF n b N) ∧ Below w.heap.size w w' := by
 have HC := Lib.hid hcell
 have HS := Lib.hid hs
 clear hcell hs
 go_enter Tryz.func218, Tryz.ntmps218
 go_wp2
 go_loop [3, 11] (fun s i => ∃ k : Nat, k ≤ N ∧ i = .int .i64 k ∧ s = .int .i64 ((lenL n k : Nat) : Int)) (fun _ i => N - (intOf i).toNat)
 case atStart => exact ⟨0, Nat.zero_le _, rfl, rfl⟩
 case round =>
  obtain ⟨k, hk, rfl, rfl⟩ := hrel
  by_cases hlt : k < N
  ·have hc := HC.out k hlt
   have hd : decide ((k : Int) < (N : Int)) = true := by simp; omega
   have h1 := lenL_mono n (show k + 1 ≤ N from hlt)
   have h2 : lenL n k + n k = lenL n (k + 1) := rfl
   have h3 : ((lenL n k : Nat) : Int) + ((n k : Nat) : Int) = ((lenL n (k + 1) : Nat) : Int) := by rw [← h2, Int.natCast_add]
   have hd2 : decide (((lenL n (k + 1) : Nat) : Int) < 0) = false := by simp
   clear h2
   go_wp2
   go_roundw
   case rel => exact ⟨k + 1, by omega, by go_num, rfl⟩
   case measure => simp [intOf]; omega
  ·obtain rfl : k = N := by omega
   have hd : decide ((k : Int) < (k : Int)) = false := by simp
   go_wp2_with fail
   refine (grow_any _ _ hT).mono ?_
   rintro e w1 ⟨v, rfl, ho, hb⟩
   have HO := Lib.hid (ho nF)
   have HB := Lib.hid hb
   clear ho hb hd
   go_wp2_with fail
   go_loopw [6, 27] (fun s i wr => ∃ j : Nat, j ≤ k ∧ i = .int .i64 j ∧ Own wr w.heap.size 5 s (lenL n j) (catsF n b j) ∧ Below w.heap.size w wr) (fun _ i _ => k - (intOf i).toNat)
   case atStart => exact ⟨0, Nat.zero_le _, rfl, HO.out, HB.out⟩
   case round =>
    clear HO HB
    obtain ⟨j, hj, rfl, ho, hb⟩ := hrel
    have HO := Lib.hid ho
    have HB := Lib.hid hb
    clear ho hb
    by_cases hlt : j < k
    ·have hc := HC.out j hlt
     rw [← HB.out.cell (p := ⟨h, j, none⟩) hh] at hc
     have hd : decide ((j : Int) < (k : Int)) = true := by simp; omega
     have h1 := lenL_mono n (show j + 1 ≤ k from hlt)
     have h2 : lenL n j + n j = lenL n (j + 1) := rfl
     have HSJ := Lib.hid ((HS.out j hlt).below HB.out)
     have hsz := HB.out.size
     have HL : lenL n j + n j ≤ 140737488355328 := by omega
     go_wp2_with (at_builtin; refine yN rfl (.tmp 31) (.tmp 32) rfl zZ yG HO.out HSJ.out HL hsz rfl rfl ?_; intro v' w2 ho hg ht)
     have HO2 := Lib.hid (show Own w2 w.heap.size 5 v' (lenL n (j + 1)) (catsF n b (j + 1)) from ho)
     have HB2 := Lib.hid (HO.out.after hg HB.out hsz (Nat.le_refl _))
     clear ho hg ht
     go_roundw
     case rel => exact ⟨j + 1, by omega, by go_num, HO2.out, HB2.out⟩
     case measure => simp [intOf]; omega
    ·obtain rfl : j = k := by omega
     have hd : decide ((j : Int) < (j : Int)) = false := by simp
     go_wp2
     go_ret
     exact ⟨_, rfl, HO.out, HB.out⟩
theorem concat2_any (h cap : Nat) {A0 A1 : Option Addr} {n0 n1 c0 c1 : Nat} {b0 b1 : Bf} (w : World) (hr : row w h = some #[.slice A0 n0 c0, .slice A1 n1 c1]) (h0 : Sl w w.heap.size A0 n0 c0 b0) (h1 : Sl w w.heap.size A1 n1 c1 b1) (hT : n0 + n1 ≤ 140737488355328) :
  Calls Tryz.prog 218 #[.slice (some ⟨h, 0, none⟩) 2 cap] w fun e w' => ∃ v, e = .returned v ∧ Own w' w.heap.size 5 v (n0 + n1) (catF n0 b0 b1) ∧ Below w.heap.size w w' := by
 refine (concat_any 2 h cap (fun i => if i = 0 then A0 else A1) (fun i => if i = 0 then n0 else n1) (fun i => if i = 0 then c0 else c1) (fun i => if i = 0 then b0 else b1) w (fun i hi => ?_) (zK hr) (fun i hi => ?_) (by omega) (by simp [lenL]; omega)).mono ?_
 ·rw [zF hr]
  rcases i with _ | _ | i
  ·rfl
  ·rfl
  ·omega
 ·rcases i with _ | _ | i
  ·exact h0
  ·exact h1
  ·omega
 ·rintro e w' ⟨v, rfl, ho, hb⟩
  refine ⟨v, rfl, ?_, hb⟩
  have e1 : lenL (fun i => if i = 0 then n0 else n1) 2 = n0 + n1 := by simp [lenL]
  rw [e1] at ho
  refine ho.congr fun i hi => ?_
  simp [catsF, lenL, xF]
theorem concat3_any (h cap : Nat) {A0 A1 A2 : Option Addr} {n0 n1 n2 c0 c1 c2 : Nat} {b0 b1 b2 : Bf} (w : World) (hr : row w h = some #[.slice A0 n0 c0, .slice A1 n1 c1, .slice A2 n2 c2]) (h0 : Sl w w.heap.size A0 n0 c0 b0) (h1 : Sl w w.heap.size A1 n1 c1 b1) (h2 : Sl w w.heap.size A2 n2 c2 b2) (hT : n0 + n1 + n2 ≤ 140737488355328) :
  Calls Tryz.prog 218 #[.slice (some ⟨h, 0, none⟩) 3 cap] w fun e w' => ∃ v, e = .returned v ∧ Own w' w.heap.size 5 v (n0 + n1 + n2) (catF (n0 + n1) (catF n0 b0 b1) b2) ∧ Below w.heap.size w w' := by
 refine (concat_any 3 h cap (fun i => if i = 0 then A0 else if i = 1 then A1 else A2) (fun i => if i = 0 then n0 else if i = 1 then n1 else n2) (fun i => if i = 0 then c0 else if i = 1 then c1 else c2) (fun i => if i = 0 then b0 else if i = 1 then b1 else b2) w (fun i hi => ?_) (zK hr) (fun i hi => ?_) (by omega) (by simp [lenL]; omega)).mono ?_
 ·rw [zF hr]
  rcases i with _ | _ | _ | i
  ·rfl
  ·rfl
  ·rfl
  ·omega
 ·rcases i with _ | _ | _ | i
  ·exact h0
  ·exact h1
  ·exact h2
  ·omega
 ·rintro e w' ⟨v, rfl, ho, hb⟩
  refine ⟨v, rfl, ?_, hb⟩
  have e1 : lenL (fun i => if i = 0 then n0 else if i = 1 then n1 else n2) 3 = n0 + n1 + n2 := by simp [lenL]
  rw [e1] at ho
  refine ho.congr fun i hi => ?_
  simp [catsF, lenL, xF]
def beN (m x : Nat) : Bf := fun i => BitVec.ofNat 8 (x / 256 ^ (m - 1 - i))
def ctrF (n : Bf) (c : Nat) : Bf := fun i => if i < 12 then n i else beN 4 c (i - 12)
def xorS (k n : Bf) (from_ : Nat) (b : Bf) : Bf := fun i => b i ^^^ aenF k (ctrF n ((from_ + i / 16) % 4294967296)) (i % 16)
def up16 (n : Nat) : Nat := 16 * ((n + 15) / 16)
def allF (s : Bf) (ns : Nat) (b : Bf) (nb : Nat) : Bf := fun i =>
 if i < up16 ns then padF s ns i else if i < up16 ns + up16 nb then padF b nb (i - up16 ns) else if i < up16 ns + up16 nb + 8 then beN 8 (8 * ns) (i - (up16 ns + up16 nb)) else beN 8 (8 * nb) (i - (up16 ns + up16 nb + 8))
def tagF (k n : Bf) (s : Bf) (ns : Nat) (b : Bf) (nb : Nat) : Bf := xorF (aenF k (ctrF n 1)) (hshF (aenF k nF) (allF s ns b nb) (up16 ns + up16 nb + 16))
theorem xorS_back (k n : Bf) (from_ : Nat) (b : Bf) : xorS k n from_ (xorS k n from_ b) = b := by
 funext i; unfold xorS; rw [BitVec.xor_assoc, BitVec.xor_self, BitVec.xor_zero]
theorem padF_congr {b b' : Bf} {n : Nat} (e : ∀ i, i < n → b i = b' i) : padF b n = padF b' n := by
 funext i; unfold padF
 by_cases hi : i < n
 ·rw [if_pos hi, if_pos hi, e i hi]
 ·rw [if_neg hi, if_neg hi]
theorem tagF_congr {k n s s' b b' : Bf} {ns nb : Nat} (hs : ∀ i, i < ns → s i = s' i) (hb : ∀ i, i < nb → b i = b' i) : tagF k n s ns b nb = tagF k n s' ns b' nb := by
 unfold tagF allF
 rw [padF_congr hs, padF_congr hb]
theorem up16_le (n : Nat) : n ≤ up16 n ∧ up16 n ≤ n + 15 := by unfold up16; omega
theorem inc_zero (x : Nat) : (BitVec.ofNat 8 x + 1#8 = 0#8) ↔ x % 256 = 255 := by
 constructor
 ·intro h
  have := congrArg BitVec.toNat h
  simp at this
  omega
 ·intro h
  apply BitVec.eq_of_toNat_eq
  simp
  omega
theorem ofNat_inc (x : Nat) : BitVec.ofNat 8 x + 1#8 = BitVec.ofNat 8 (x + 1) := by
 apply BitVec.eq_of_toNat_eq; simp
theorem ofNat_congr {x y : Nat} (h : x % 256 = y % 256) : BitVec.ofNat 8 x = BitVec.ofNat 8 y := by
 apply BitVec.eq_of_toNat_eq; simp; omega
theorem ctr_next (n : Bf) (c : Nat) (i : Nat) (hi : i < 16) : nextF (ctrF n c) i = ctrF n ((c + 1) % 4294967296) i := by
 by_cases hl : i < 12
 ·rw [nextF_low _ i hl]; unfold ctrF; rw [if_pos hl, if_pos hl]
 ·have e15 : ctrF n c 15 = BitVec.ofNat 8 c := by simp [ctrF, beN]
  have e14 : ctrF n c 14 = BitVec.ofNat 8 (c / 256) := by simp [ctrF, beN]
  have e13 : ctrF n c 13 = BitVec.ofNat 8 (c / 65536) := by simp [ctrF, beN]
  have e12 : ctrF n c 12 = BitVec.ofNat 8 (c / 16777216) := by simp [ctrF, beN]
  have hR : ctrF n ((c + 1) % 4294967296) i = BitVec.ofNat 8 ((c + 1) % 4294967296 / 256 ^ (15 - i)) := by
   unfold ctrF beN; rw [if_neg hl, show 4 - 1 - (i - 12) = 15 - i by omega]
  rw [hR]
  unfold nextF
  unfold nxF
  simp only [show 12 + 3 = 15 from rfl]
  rw [e15]
  have hcase : i = 12 ∨ i = 13 ∨ i = 14 ∨ i = 15 := by omega
  by_cases h15 : c % 256 = 255
  ·rw [if_pos ((inc_zero c).2 h15)]
   unfold nxF
   simp only [show 12 + 2 = 14 from rfl]
   rw [show upd (ctrF n c) 15 (BitVec.ofNat 8 c + 1#8) 14 = BitVec.ofNat 8 (c / 256) by simp [upd, e14]]
   by_cases h14 : c / 256 % 256 = 255
   ·rw [if_pos ((inc_zero _).2 h14)]
    unfold nxF
    simp only [show 12 + 1 = 13 from rfl]
    rw [show upd (upd (ctrF n c) 15 (BitVec.ofNat 8 c + 1#8)) 14 (BitVec.ofNat 8 (c / 256) + 1#8) 13 = BitVec.ofNat 8 (c / 65536) by simp [upd, e13]]
    by_cases h13 : c / 65536 % 256 = 255
    ·rw [if_pos ((inc_zero _).2 h13)]
     unfold nxF
     simp only [show 12 + 0 = 12 from rfl]
     rw [show upd (upd (upd (ctrF n c) 15 (BitVec.ofNat 8 c + 1#8)) 14 (BitVec.ofNat 8 (c / 256) + 1#8)) 13 (BitVec.ofNat 8 (c / 65536) + 1#8) 12 = BitVec.ofNat 8 (c / 16777216) by simp [upd, e12]]
     have hx : (if BitVec.ofNat 8 (c / 16777216) + 1#8 = 0#8 then nxF 0 (upd (upd (upd (upd (ctrF n c) 15 (BitVec.ofNat 8 c + 1#8)) 14 (BitVec.ofNat 8 (c / 256) + 1#8)) 13 (BitVec.ofNat 8 (c / 65536) + 1#8)) 12 (BitVec.ofNat 8 (c / 16777216) + 1#8)) else upd (upd (upd (upd (ctrF n c) 15 (BitVec.ofNat 8 c + 1#8)) 14 (BitVec.ofNat 8 (c / 256) + 1#8)) 13 (BitVec.ofNat 8 (c / 65536) + 1#8)) 12 (BitVec.ofNat 8 (c / 16777216) + 1#8)) = upd (upd (upd (upd (ctrF n c) 15 (BitVec.ofNat 8 c + 1#8)) 14 (BitVec.ofNat 8 (c / 256) + 1#8)) 13 (BitVec.ofNat 8 (c / 65536) + 1#8)) 12 (BitVec.ofNat 8 (c / 16777216) + 1#8) := by
      split <;> rfl
     rw [hx]
     rcases hcase with rfl | rfl | rfl | rfl
     all_goals
      simp only [upd]
      simp only [ofNat_inc]
      simp
      exact ofNat_congr (by omega)
    ·rw [if_neg (fun h => h13 ((inc_zero _).1 h))]
     rcases hcase with rfl | rfl | rfl | rfl
     all_goals
      simp only [upd]
      simp only [ofNat_inc, e12, e13, e14, e15]
      simp [e12]
      exact ofNat_congr (by omega)
   ·rw [if_neg (fun h => h14 ((inc_zero _).1 h))]
    rcases hcase with rfl | rfl | rfl | rfl
    all_goals
     simp only [upd]
     simp only [ofNat_inc, e12, e13, e14, e15]
     simp [e12, e13]
     exact ofNat_congr (by omega)
  ·rw [if_neg (fun h => h15 ((inc_zero _).1 h))]
   rcases hcase with rfl | rfl | rfl | rfl
   all_goals
    simp only [upd]
    simp only [ofNat_inc, e12, e13, e14, e15]
    simp [e12, e13, e14]
    exact ofNat_congr (by omega)
theorem ctr_next_ba (n : Bf) (c : Nat) : ba 16 (nextF (ctrF n c)) = ba 16 (ctrF n ((c + 1) % 4294967296)) := yT (ctr_next n c)
theorem cnt_step (a j : Nat) : ((a + j) % 4294967296 + 1) % 4294967296 = (a + (j + 1)) % 4294967296 := by omega
def wrF (f : Bf) (o m x j : Nat) : Bf := fun i => if o + (m - j) ≤ i ∧ i < o + m then beN m x (i - o) else f i
theorem wrF_zero (f : Bf) (o m x : Nat) : wrF f o m x 0 = f := by funext i; unfold wrF; rw [if_neg (by omega)]
theorem wrF_all (f : Bf) (o m x : Nat) : wrF f o m x m = putF f o m (beN m x) := by
 funext i; unfold wrF putF; rw [Nat.sub_self, Nat.add_zero]
theorem wrF_step (f : Bf) (o m x j : Nat) (h : j < m) : upd (wrF f o m x j) (o + (m - (j + 1))) (BitVec.ofNat 8 (x / 256 ^ j)) = wrF f o m x (j + 1) := by
 funext i
 unfold upd wrF
 by_cases hi : i = o + (m - (j + 1))
 ·rw [if_pos hi, if_pos (by omega)]
  unfold beN
  congr 2
  congr 1
  omega
 ·rw [if_neg hi]
  by_cases h2 : o + (m - j) ≤ i ∧ i < o + m
  ·rw [if_pos h2, if_pos (by omega)]
  ·rw [if_neg h2, if_neg (by omega)]
theorem I_of8 (n : Nat) : ((n : Int) % 256) = I (BitVec.ofNat 8 n) := by
 unfold I; rw [BitVec.toNat_ofNat]; omega
theorem wnum_any (g o m c N x : Nat) (f : Bf) (w : World) (hr : row w g = some (ba N f)) (hom : o + m ≤ N) (hN : N ≤ 1000) (hx : x < 18446744073709551616) :
  Calls Tryz.prog 273 #[.slice (some ⟨g, o, none⟩) m c, .int .u64 x] w fun e w' => e = .returned (.tuple #[]) ∧ w' = w.setRow g (ba N (putF f o m (beN m x))) := by
 go_enter Tryz.func273, Tryz.ntmps273
 go_wp2
 go_loopw [1, 4] (fun v i wr => ∃ r j : Nat, r + j = m ∧ v = .int .u64 ((x / 256 ^ j : Nat) : Int) ∧ i = .int .i64 ((r : Int) - 1) ∧ wr = w.setRow g (ba N (wrF f o m x j))) (fun _ i _ => (intOf i + 1).toNat)
 case atStart => exact ⟨m, 0, by omega, by simp, rfl, by rw [wrF_zero, yE hr]⟩
 case round =>
  obtain ⟨r, j, hrj, rfl, rfl, rfl⟩ := hrel
  rcases r with _ | s
  ·obtain rfl : j = m := by omega
   rw [wrF_all]
   have hd : decide ((0 : Int) ≤ ((0 : Nat) : Int) - 1) = false := by decide
   go_wp2
   go_end0
   exact ⟨rfl, rfl⟩
  ·have e1 : ((s + 1 : Nat) : Int) - 1 = (s : Int) := by omega
   rw [e1]
   have hd : decide ((0 : Int) ≤ (s : Int)) = true := by simp
   have hc := I_of8 (x / 256 ^ j)
   have hlt : x / 256 ^ j < 18446744073709551616 := Nat.lt_of_le_of_lt (Nat.div_le_self _ _) hx
   have hq : ((x / 256 ^ j : Nat) : Int) / 256 = ((x / 256 ^ (j + 1) : Nat) : Int) := by
    rw [Nat.pow_succ, ← Nat.div_div_eq_div_mul]; rfl
   obtain ⟨y, hy⟩ : ∃ y, y = x / 256 ^ j := ⟨_, rfl⟩
   obtain ⟨z, hz⟩ : ∃ z, z = x / 256 ^ (j + 1) := ⟨_, rfl⟩
   rw [← hy] at hc hlt hq ⊢
   rw [← hz] at hq
   have hrow := zD hr (ba N (wrF f o m x j))
   have HST := Lib.hid (wrF_step f o m x j (by omega))
   have HY := Lib.hid hy
   have HZ := Lib.hid hz
   have hs : s < m := by omega
   have hj : j + s + 1 = m := by omega
   have hcl : (w.setRow g (ba N (wrF f o m x j))).cell? ⟨g, o + s, none⟩ = some (.int .u8 (I (wrF f o m x j (o + s)))) := by rw [zF hrow, zY _ _ _ (by omega)]
   have hfz : (w.setRow g (ba N (wrF f o m x j))).frozen? ⟨g, o + s, none⟩ = false := zW hrow _
   have HW := Lib.hid (show ((w.setRow g (ba N (wrF f o m x j))).setCell ⟨g, o + s, none⟩ (.int .u8 (I (BitVec.ofNat 8 y)))) = w.setRow g (ba N (wrF f o m x (j + 1))) by
    rw [zP hrow, ba_set, setRow_setRow, hy, ← wrF_step f o m x j (by omega), show o + (m - (j + 1)) = o + s by omega])
   generalize w.setRow g (ba N (wrF f o m x j)) = wr at hcl hfz HW ⊢
   clear hy hz hrow
   go_wp2
   rw [HW.out]
   go_roundw
   case rel => exact ⟨s, j + 1, by omega, by rw [HZ.out], rfl, rfl⟩
   case measure => simp [intOf]
theorem ctr_put (n : Bf) (x : Nat) : ba 16 (putF (putF (fun _ => 0#8) 0 12 n) 12 4 (beN 4 x)) = ba 16 (ctrF n x) := yT fun i hi => by
 unfold putF ctrF
 by_cases h : i < 12
 ·rw [if_neg (by omega), if_pos (by omega), if_pos h, Nat.sub_zero]
 ·rw [if_pos (by omega), if_neg h]
theorem cblk_any (n : Bf) (x : Nat) (hx : x < 4294967296) (w : World) :
  Calls Tryz.prog 245 #[.agg (ba 12 n), .int .u32 x] w fun e w' => e = .returned (.agg (ba 16 (ctrF n x))) ∧ Below w.heap.size w w' := by
 have B0 := Lib.hid ((((Below.refl w.heap.size w).alloc (by simp) (.cells (ba 12 n) 217)).alloc (by simp) (.cells (ba 16 fun _ => 0#8) 266)).alloc (by simp; omega) (.cells (ba 16 fun _ => 0#8) 266))
 have q0 : row (((w.alloc (.cells (ba 12 n) 217)).alloc (.cells (ba 16 fun _ => 0#8) 266)).alloc (.cells (ba 16 fun _ => 0#8) 266)) w.heap.size = some (ba 12 n) := by simp [go_sem]
 have q1 : row (((w.alloc (.cells (ba 12 n) 217)).alloc (.cells (ba 16 fun _ => 0#8) 266)).alloc (.cells (ba 16 fun _ => 0#8) 266)) (w.heap.size + 1) = some (ba 16 fun _ => 0#8) := by simp [go_sem]
 have q2 : row (((w.alloc (.cells (ba 12 n) 217)).alloc (.cells (ba 16 fun _ => 0#8) 266)).alloc (.cells (ba 16 fun _ => 0#8) 266)) (w.heap.size + 1 + 1) = some (ba 16 fun _ => 0#8) := by simp [go_sem]
 go_enter Tryz.func245, Tryz.ntmps245
 go_wp2
 refine yL [([0, 1], 2, true)] [3] (by kernel_rfl) (by kernel_rfl) (fun _ _ _ _ _ h => h) fun X => ?_
 have B1 := Lib.hid (onto B0.out (by simp; omega) X.below)
 have r0 := After.row q0 X
 have r1 := After.row q1 X
 have r2 := After.row q2 X
 clear q0 q1 q2 B0
 generalize X.val = w1 at B1 r0 r1 r2 ⊢
 clear X
 have Q0 := After.row r0
 have Q2 := After.row r2
 simp only [wpFs, pk, List.getElem?_cons_zero, List.getElem?_cons_succ]
 repeat (go_big_quiet_step (fail))
 refine wpQuiet_nil ?_
 clear Q0 Q2
 have HS := Sl.of_row r0 w1.heap.size (zK r0)
 go_wp2_with (refine wpl_copy rfl (.tmp 7) (.tmp 8) 22 22 5 rfl zZ u8_i r2 HS (show 12 = min 12 16 by rfl) rfl rfl ?_)
 have B2 := Lib.hid (zE B1.out (by omega : w.heap.size ≤ w.heap.size + 1 + 1) (ba 16 (putF (fun _ => 0#8) 0 12 n)))
 have t1 : row (w1.setRow (w.heap.size + 1 + 1) (ba 16 (putF (fun _ => 0#8) 0 12 n))) (w.heap.size + 1) = some (ba 16 fun _ => 0#8) := by rw [zB _ _ _ _ (by omega)]; exact r1
 have t2 : row (w1.setRow (w.heap.size + 1 + 1) (ba 16 (putF (fun _ => 0#8) 0 12 n))) (w.heap.size + 1 + 1) = some (ba 16 (putF (fun _ => 0#8) 0 12 n)) := zD r2 _
 clear HS r0 r1 r2 B1
 generalize w1.setRow (w.heap.size + 1 + 1) (ba 16 (putF (fun _ => 0#8) 0 12 n)) = w2 at B2 t1 t2 ⊢
 show wpQuiet _ _ _ _ _ _
 repeat (go_big_quiet_step (fail))
 refine wpQuiet_nil ?_
 go_wp2_with fail
 refine (wnum_any _ 12 4 4 16 x _ _ t2 (by omega) (by omega) (by omega)).mono ?_
 rintro e w' ⟨rfl, rfl⟩
 rw [ctr_put]
 have B3 := Lib.hid (zE B2.out (by omega : w.heap.size ≤ w.heap.size + 1 + 1) (ba 16 (ctrF n x)))
 have r1 : row (w2.setRow (w.heap.size + 1 + 1) (ba 16 (ctrF n x))) (w.heap.size + 1) = some (ba 16 fun _ => 0#8) := by rw [zB _ _ _ _ (by omega)]; exact t1
 have r2 : row (w2.setRow (w.heap.size + 1 + 1) (ba 16 (ctrF n x))) (w.heap.size + 1 + 1) = some (ba 16 (ctrF n x)) := zD t2 _
 clear t1 t2 B2
 generalize w2.setRow (w.heap.size + 1 + 1) (ba 16 (ctrF n x)) = w3 at B3 r1 r2 ⊢
 go_wp2_with fail
 refine bodyPost_ret (v := .agg (ba 16 (ctrF n x))) (zS rfl _ _ (w.heap.size + 1) _ _ _ rfl (zD r1 _) blk_u (by rw [zG]; exact blk_i)) rfl ⟨rfl, ?_⟩
 exact zE B3.out (by omega) _
theorem lens_any (n1 c1 n2 c2 : Nat) (A1 A2 : Option Addr) (h1 : n1 ≤ 1099511627776) (h2 : n2 ≤ 1099511627776) (w : World) :
  Calls Tryz.prog 249 #[.slice A1 n1 c1, .slice A2 n2 c2] w fun e w' => e = .returned (.agg (ba 16 (catF 8 (beN 8 (8 * n1)) (beN 8 (8 * n2))))) ∧ Below w.heap.size w w' := by
 have B0 := Lib.hid (((Below.refl w.heap.size w).alloc (by simp) (.cells (ba 16 fun _ => 0#8) 266)).alloc (by simp) (.cells (ba 16 fun _ => 0#8) 266))
 have q0 : row ((w.alloc (.cells (ba 16 fun _ => 0#8) 266)).alloc (.cells (ba 16 fun _ => 0#8) 266)) w.heap.size = some (ba 16 fun _ => 0#8) := by simp [go_sem]
 have q1 : row ((w.alloc (.cells (ba 16 fun _ => 0#8) 266)).alloc (.cells (ba 16 fun _ => 0#8) 266)) (w.heap.size + 1) = some (ba 16 fun _ => 0#8) := by simp [go_sem]
 go_enter Tryz.func249, Tryz.ntmps249
 go_wp2_with fail
 generalize (w.alloc (.cells (ba 16 fun _ => 0#8) 266)).alloc (.cells (ba 16 fun _ => 0#8) 266) = w1 at B0 q0 q1 ⊢
 have c1 := wnum_any (w.heap.size + 1) 0 8 16 16 (n1 * 8) (fun _ => 0#8) w1 q1 (by omega) (by omega) (by omega)
 rw [Int.natCast_mul] at c1
 refine c1.mono ?_
 rintro e w' ⟨rfl, rfl⟩
 have B1 := Lib.hid (zE B0.out (by omega : w.heap.size ≤ w.heap.size + 1) (ba 16 (putF (fun _ => 0#8) 0 8 (beN 8 (n1 * 8)))))
 have r0 : row (w1.setRow (w.heap.size + 1) (ba 16 (putF (fun _ => 0#8) 0 8 (beN 8 (n1 * 8))))) w.heap.size = some (ba 16 fun _ => 0#8) := by rw [zB _ _ _ _ (by omega)]; exact q0
 have r1 : row (w1.setRow (w.heap.size + 1) (ba 16 (putF (fun _ => 0#8) 0 8 (beN 8 (n1 * 8))))) (w.heap.size + 1) = some (ba 16 (putF (fun _ => 0#8) 0 8 (beN 8 (n1 * 8)))) := zD q1 _
 clear q0 q1 B0 c1
 generalize w1.setRow (w.heap.size + 1) (ba 16 (putF (fun _ => 0#8) 0 8 (beN 8 (n1 * 8)))) = w2 at B1 r0 r1 ⊢
 go_wp2_with fail
 have c2 := wnum_any (w.heap.size + 1) 8 8 8 16 (n2 * 8) (putF (fun _ => 0#8) 0 8 (beN 8 (n1 * 8))) w2 r1 (by omega) (by omega) (by omega)
 rw [Int.natCast_mul] at c2
 refine c2.mono ?_
 rintro e w' ⟨rfl, rfl⟩
 have hF : ba 16 (putF (putF (fun _ => 0#8) 0 8 (beN 8 (n1 * 8))) 8 8 (beN 8 (n2 * 8))) = ba 16 (catF 8 (beN 8 (8 * n1)) (beN 8 (8 * n2))) := yT fun i hi => by
  rw [Nat.mul_comm n1, Nat.mul_comm n2]
  unfold putF catF
  by_cases h : i < 8
  ·rw [if_neg (by omega), if_pos (by omega), if_pos h, Nat.sub_zero]
  ·rw [if_pos (by omega), if_neg h]
 rw [hF]
 have B2 := Lib.hid (zE B1.out (by omega : w.heap.size ≤ w.heap.size + 1) (ba 16 (catF 8 (beN 8 (8 * n1)) (beN 8 (8 * n2)))))
 have t0 : row (w2.setRow (w.heap.size + 1) (ba 16 (catF 8 (beN 8 (8 * n1)) (beN 8 (8 * n2))))) w.heap.size = some (ba 16 fun _ => 0#8) := by rw [zB _ _ _ _ (by omega)]; exact r0
 have t1 : row (w2.setRow (w.heap.size + 1) (ba 16 (catF 8 (beN 8 (8 * n1)) (beN 8 (8 * n2))))) (w.heap.size + 1) = some (ba 16 (catF 8 (beN 8 (8 * n1)) (beN 8 (8 * n2)))) := zD r1 _
 clear r0 r1 B1 c2 hF
 generalize w2.setRow (w.heap.size + 1) (ba 16 (catF 8 (beN 8 (8 * n1)) (beN 8 (8 * n2)))) = w3 at B2 t0 t1 ⊢
 go_wp2_with fail
 refine bodyPost_ret (v := .agg (ba 16 (catF 8 (beN 8 (8 * n1)) (beN 8 (8 * n2))))) (zS rfl _ _ w.heap.size _ _ _ rfl (zD t0 _) blk_u (by rw [zG]; exact blk_i)) rfl ⟨rfl, ?_⟩
 exact zE B2.out (Nat.le_refl _) _
theorem pad_cat (b z : Bf) (n m : Nat) (hz : ∀ i, z i = 0#8) : ∀ i, i < n + m → catF n b z i = padF b n i := fun i _ => by
 unfold catF padF
 by_cases h : i < n
 ·rw [if_pos h, if_pos h]
 ·rw [if_neg h, if_neg h, hz]
theorem padded_any (n c : Nat) (A : Option Addr) (b : Bf) (w : World) (hs : Sl w w.heap.size A n c b) (hn : n ≤ 1099511627776) :
  Calls Tryz.prog 250 #[.slice A n c] w fun e w' => ∃ A' c', e = .returned (.slice A' (up16 n) c') ∧ Sl w' w'.heap.size A' (up16 n) c' (padF b n) ∧ c' ≤ maxLen ∧ Below w.heap.size w w' := by
 obtain ⟨m, hm⟩ : ∃ m, m = (16 - n % 16) % 16 := ⟨_, rfl⟩
 have hup : n + m = up16 n := by unfold up16; omega
 have hm16 : m ≤ 16 := by omega
 have hmi : (16 - (n : Int) % 16) % 16 = (m : Int) := by omega
 have B0 := Lib.hid ((Below.refl w.heap.size w).alloc (by simp) (.cells (ba 16 fun _ => 0#8) 266))
 have q0 : row (w.alloc (.cells (ba 16 fun _ => 0#8) 266)) w.heap.size = some (ba 16 fun _ => 0#8) := by simp [go_sem]
 have hfull := run_full zZ u8_i A n c n hs.le
 have hsl := blk_sl_h w.heap.size m hm16
 have HS := Lib.hid (hs.below B0.out)
 have HMM := Lib.hid hup
 clear hs hm hup
 go_enter Tryz.func250, Tryz.ntmps250
 go_wp2
 refine yL [([0, 1, 2, 3, 4, 5, 6, 7], 8, true)] [9] (by kernel_rfl) (by kernel_rfl) (fun _ _ _ _ _ h => h) fun X => ?_
 have B1 := Lib.hid (onto B0.out (by simp) X.below)
 have r0 := After.row q0 X
 have HS1 := Lib.hid (HS.out.below (X.below.mono (by simp)))
 have hsz : w.heap.size ≤ X.val.heap.size := B1.out.size
 clear q0 B0 HS hmi
 generalize X.val = w1 at B1 r0 HS1 hsz ⊢
 clear X
 simp only [wpFs, pk, List.getElem?_cons_zero, List.getElem?_cons_succ]
 repeat (go_big_quiet_step (fail))
 refine wpQuiet_nil ?_
 have HZ : Sl w1 w1.heap.size (some ⟨w.heap.size, 0, none⟩) m 16 (fun _ => 0#8) := ((Sl.of_row r0 w1.heap.size (zK r0)).upto m hm16)
 clear hfull hsl
 go_wp2_with (at_builtin; refine wpl_appF rfl (.tmp 15) (.tmp 17) rfl zZ yG HS1.out.full (by unfold maxLen; omega) hsz HS1.out.nil_zero HZ (by omega) rfl rfl ?_; intro A2 c2 w2 h2 hc2 hg)
 have HB2 := Lib.hid (onto B1.out hsz (Below.of_grown hg))
 have H2 := Lib.hid ((h2.congr (pad_cat b (fun _ => 0#8) n m (fun _ => rfl))))
 have HC2 := Lib.hid hc2
 clear h2 hc2 hg HZ
 rw [HMM.out] at H2 ⊢
 show wpQuiet _ _ _ _ _ _
 repeat (go_big_quiet_step (fail))
 refine wpQuiet_nil ?_
 go_wp2
 go_ret
 exact ⟨_, _, rfl, H2.out, HC2.out, HB2.out⟩
theorem xor_grp (k n : Bf) (a : Nat) (b : Bf) (j m : Nat) (hm : m ≤ 16) (i : Nat) (hi : i < 16 * j + m) :
  catF (16 * j) (xorS k n a b) (xorF (putF (fun _ => 0#8) 0 m (offF b (16 * j))) (aenF k (ctrF n ((a + j) % 4294967296)))) i = xorS k n a b i := by
 unfold catF
 by_cases h : i < 16 * j
 ·rw [if_pos h]
 ·rw [if_neg h]
  unfold xorF putF offF xorS
  rw [if_pos (by omega), Nat.sub_zero, show 16 * j + (i - 16 * j) = i by omega, show i / 16 = j by omega, show i % 16 = i - 16 * j by omega]
structure XrInv (w : World) (k ct : Bf) (C : Nat) (wr : World) : Prop where
 below : Below w.heap.size w wr
 key : row wr w.heap.size = some (ba 32 k)
 ctr : row wr C = some (ba 16 ct)
 hC : w.heap.size + 2 ≤ C
theorem XrInv.lt {w : World} {k ct : Bf} {C : Nat} {wr : World} (h : XrInv w k ct C wr) : C < wr.heap.size := zK h.ctr
theorem XrInv.call {w : World} {k ct : Bf} {C : Nat} {wr w' : World} (h : XrInv w k ct C wr) (hb : Below wr.heap.size wr w') : XrInv w k ct C w' :=
 ⟨onto h.below h.below.size hb, zC hb h.key, zC hb h.ctr, h.hC⟩
theorem XrInv.grown {w : World} {k ct : Bf} {C : Nat} {wr w' : World} {base : Nat} {u : TypeId} {v : Value} {n : Nat} {f : Bf} (h : XrInv w k ct C wr) (ho : Own wr base u v n f) (hg : wr.grownBy w' v.ownBlock) (hbase : w.heap.size + 1 ≤ base) (hv : v.ownBlock ≠ some C) : XrInv w k ct C w' :=
 ⟨ho.after hg h.below h.below.size (by omega), grown_row hg h.key (fun e => by
  unfold Own at ho
  rcases ho.2 with ⟨rfl, _⟩ | ⟨g, cap, cur, rfl, hb, _⟩
  ·cases e
  ·simp only [Value.ownBlock, Option.some.injEq] at e
   omega), grown_row hg h.ctr hv, h.hC⟩
theorem XrInv.put {w : World} {k ct : Bf} {C : Nat} {wr : World} (h : XrInv w k ct C wr) (ct' : Bf) : XrInv w k ct' C (wr.setRow C (ba 16 ct')) :=
 ⟨zE h.below (by have := h.hC; omega) _, by rw [zB _ _ _ _ (by have := h.hC; omega)]; exact h.key, zD h.ctr _, h.hC⟩
theorem gxor_any (k n : Bf) (a : Nat) (ha : a < 4294967296) (b : Bf) (L c : Nat) (A : Option Addr) (w : World) (hs : Sl w w.heap.size A L c b) (hL : L ≤ 1099511627776) :
  Calls Tryz.prog 219 #[.agg (ba 32 k), .agg (ba 12 n), .int .u32 a, .slice A L c] w fun e w' => ∃ v, e = .returned v ∧ Own w' w.heap.size 5 v L (xorS k n a b) ∧ Below w.heap.size w w' := by
 obtain ⟨iu, hiu, z0, z1, z2⟩ := info_parts (P := Tryz.prog) yG
 have B0 := ((Below.refl w.heap.size w).alloc (by simp) (.cells (ba 32 k) 61)).alloc (by simp) (.cells (ba 12 n) 217)
 have HS := Lib.hid (hs.below B0)
 have HB0 := Lib.hid B0
 have q0 : row ((w.alloc (.cells (ba 32 k) 61)).alloc (.cells (ba 12 n) 217)) w.heap.size = some (ba 32 k) := by simp [go_sem]
 have q1 : row ((w.alloc (.cells (ba 32 k) 61)).alloc (.cells (ba 12 n) 217)) (w.heap.size + 1) = some (ba 12 n) := by simp [go_sem]
 clear hs B0
 go_enter Tryz.func219, Tryz.ntmps219
 go_wp2_with (at_make; refine wpList_make_own _ rfl (.const (.int .i64 0)) (.tmp 14) _ rfl (w.heap.size + 2) 5 iu (.int .u8 0) 1 zZ hiu z0 z1 .i64 .i64 _ L rfl rfl rfl (by rw [z2]; omega) (by unfold maxLen; omega) (by simp) ?_; intro w2 ho hg; have hb2 := Below.of_grown hg; have r0 := zC hb2 q0; have r1 := zC hb2 q1)
 have HO := Lib.hid (Own.of_zero ho (xorS k n a b))
 have HB2 := Lib.hid (onto HB0.out (by simp; omega) hb2)
 have HS2 := Lib.hid (HS.out.below (hb2.mono (by simp; omega)))
 have s2 : w.heap.size + 3 ≤ w2.heap.size := by
  rcases ho.2 with ⟨h, _⟩ | ⟨g, cap, cur, h, hb, hh, _⟩
  ·cases h
  ·have := (Array.getElem?_eq_some_iff.1 hh).1
   simp only [Value.slice.injEq, Option.some.injEq, Addr.mk.injEq] at h
   obtain ⟨⟨h, _⟩, _⟩ := h
   simp at h; omega
 clear ho hg hb2 q0 q1 HS HB0 z0 z1 z2 hiu
 refine (cblk_any n a ha _).mono ?_
 rintro e w3 ⟨rfl, hb3⟩
 have t0 := zC hb3 r0
 have t1 := zC hb3 r1
 have hO3 : Own (w3.alloc (.cells (ba 16 (ctrF n a)) 266)) (w.heap.size + 2) 5 (.slice (some ⟨w.heap.size + 1 + 1, 0, none⟩) 0 L) 0 (xorS k n a b) := by
  have := (HO.out.below hb3 (Nat.le_refl _)).alloc (.cells (ba 16 (ctrF n a)) 266)
  simpa using this
 have hX : XrInv w k (ctrF n a) w3.heap.size (w3.alloc (.cells (ba 16 (ctrF n a)) 266)) :=
  ⟨(onto HB2.out HB2.out.size hb3).alloc (by have := hb3.size; omega) _, zI t0 _, zA _ _ _ _ rfl, by have := hb3.size; omega⟩
 have hS3 : Sl (w3.alloc (.cells (ba 16 (ctrF n a)) 266)) w.heap.size A L c b := (HS2.out.below (hb3.mono (by omega))).below ((Below.refl _ _).alloc (by have := hb3.size; omega) _)
 have hne : (Value.slice (some ⟨w.heap.size + 1 + 1, 0, none⟩) 0 L).ownBlock ≠ some w3.heap.size := by
  have := hb3.size
  simp [Value.ownBlock]; omega
 have HO3 := Lib.hid hO3
 have HX := Lib.hid hX
 have HS3 := Lib.hid hS3
 have HNE := Lib.hid hne
 have HA := Lib.hid ha
 clear hO3 hX hS3 hne HO HS2 HB2 hb3 r0 r1 t0 t1 s2 ha
 go_wp2_with fail
 generalize w3.heap.size = C at HX HNE ⊢
 generalize w3.alloc (.cells (ba 16 (ctrF n a)) 266) = w4 at HO3 HX HS3 ⊢
 go_loopw [3, 9] (fun v s wr => ∃ j : Nat, ∃ A' : Option Addr, ∃ c' : Nat, 16 * j < L + 16 ∧ v = .slice A' (L - 16 * j) c' ∧ Sl wr w.heap.size A' (L - 16 * j) c' (offF b (16 * j)) ∧ Own wr (w.heap.size + 2) 5 s (min L (16 * j)) (xorS k n a b) ∧ s.ownBlock ≠ some C ∧ XrInv w k (ctrF n ((a + j) % 4294967296)) C wr) (fun v _ _ => slLen v)
 case atStart => exact ⟨0, A, c, by omega, rfl, by rw [Nat.mul_zero, offF_zero]; exact HS3.out, by rw [Nat.mul_zero, Nat.min_zero]; exact HO3.out, HNE.out, by rw [Nat.add_zero, Nat.mod_eq_of_lt HA.out]; exact HX.out⟩
 case round =>
  clear HO3 HX HS3 HNE
  obtain ⟨j, A', c', hj, rfl, hs, ho, hne, hI⟩ := hrel
  obtain ⟨wo, rfl⟩ : ∃ wo : World, wo = wr := ⟨_, rfl⟩
  obtain ⟨r, hr⟩ : ∃ r, r = L - 16 * j := ⟨_, rfl⟩
  rw [← hr] at hs ⊢
  have HR := Lib.hid hr
  have HS := Lib.hid hs
  have HO := Lib.hid ho
  have HNE := Lib.hid hne
  have HI := Lib.hid hI
  have HJ := Lib.hid hj
  clear hr hs ho hne hI hj
  rcases Nat.eq_zero_or_pos r with rfl | hpos
  ·have hd : decide ((0 : Int) < 0) = false := by decide
   go_wp2_with fail
   go_ret
   refine ⟨_, rfl, ?_, HI.out.below⟩
   have := HO.out.base (b' := w.heap.size) (by omega)
   rw [show min L (16 * j) = L by have := HR.out; omega] at this
   exact this
  ·have hd : decide ((0 : Int) < (r : Int)) = true := by simp; omega
   obtain ⟨m, hm⟩ : ∃ m, m = min r 16 := ⟨_, rfl⟩
   have HM := Lib.hid hm
   have hfrom := run_from zZ u8_i A' r c' m (by omega)
   have hm16 : m ≤ 16 := by omega
   have hmp : 0 < m := by omega
   clear hm
   go_wp2_with (refine wpl_copy rfl (.tmp 22) (.tmp 23) 22 22 5 rfl zZ u8_i (zA _ _ _ _ rfl) (HS.out.below ((Below.refl _ _).alloc (by have := HI.out.below.size; omega) _)) HM.out rfl rfl ?_)
   obtain ⟨f, hf⟩ : ∃ f, f = putF (fun _ => 0#8) 0 m (offF b (16 * j)) := ⟨_, rfl⟩
   obtain ⟨ct, hct⟩ : ∃ ct, ct = ctrF n ((a + j) % 4294967296) := ⟨_, rfl⟩
   have hI0 := HI.out
   rw [← hf]
   rw [← hct] at hI0
   have HF := Lib.hid hf
   have HCT := Lib.hid hct
   clear hf hct
   have rg : row (wo.alloc (.cells (ba 16 f) 266)) wo.heap.size = some (ba 16 f) := zA _ _ _ _ rfl
   have hB1 : Below wo.heap.size wo (wo.alloc (.cells (ba 16 f) 266)) := (Below.refl _ _).alloc (Nat.le_refl _) _
   have HI1 := Lib.hid (hI0.call hB1)
   have HS1 := Lib.hid (HS.out.below (hB1.mono HI.out.below.size))
   have HO1 := Lib.hid (HO.out.below hB1 (Nat.le_refl _))
   have HCG := Lib.hid (show C < wo.heap.size from hI0.lt)
   have HWG := Lib.hid (show w.heap.size ≤ wo.heap.size from hI0.below.size)
   have HOG := Lib.hid (show u9.ownBlock ≠ some wo.heap.size by
    intro e
    have := HO.out
    unfold Own at this
    have := (World.ownsRow.lt this _ e).2
    omega)
   have hsl := blk_sl_h wo.heap.size m hm16
   clear HS HO HI hI0 hB1
   generalize wo.heap.size = G at rg HCG HWG HOG hsl ⊢
   generalize wo.alloc (.cells (ba 16 f) 266) = w1 at rg HI1 HS1 HO1 ⊢
   have q0 := After.row HI1.out.key
   have q1 := After.row HI1.out.ctr
   have qg := After.row rg
   refine seen_tail 0 5 (by kernel_rfl) (by kernel_rfl) (fun _ _ _ _ _ h => h) ?_
   simp only [List.take_succ_cons, List.take_zero, List.drop_succ_cons, List.drop_zero]
   repeat (go_big_quiet_step ((first | (go_at_call 247; refine After.call _ (encrypt_any k ct _)) | (go_at_call 246; refine After.call _ (bxor_any f (aenF k ct) _)))))
   refine wpQuiet_nil ?_
   rintro _ ⟨z, rfl⟩
   have hbz := z.below
   have HI2 := Lib.hid (HI1.out.call hbz)
   have HS2 := Lib.hid (HS1.out.below (hbz.mono HI1.out.below.size))
   have HO2 := Lib.hid (HO1.out.below hbz (Nat.le_refl _))
   have rg2 := zC hbz rg
   clear q0 q1 qg rg hbz HI1 HS1 HO1
   generalize z.val = w2 at HI2 HS2 HO2 rg2 ⊢
   have rg3 := zD rg2 (ba 16 (xorF f (aenF k ct)))
   have HI3 := Lib.hid (show XrInv w k ct C (w2.setRow G (ba 16 (xorF f (aenF k ct)))) from
    ⟨zE HI2.out.below HWG.out _, by rw [zB _ _ _ _ (by have := HI2.out.hC; have := HCG.out; omega)]; exact HI2.out.key, by rw [zB _ _ _ _ (by have := HCG.out; omega)]; exact HI2.out.ctr, HI2.out.hC⟩)
   have HO3 := Lib.hid (HO2.out.setRow G HOG.out (ba 16 (xorF f (aenF k ct))))
   have HS3 := Lib.hid (HS2.out.below (zE (Below.refl w.heap.size w2) HWG.out (ba 16 (xorF f (aenF k ct)))))
   have hG : G < w2.heap.size := zK rg2
   clear HI2 HS2 HO2
   have hb : (w2.setRow G (ba 16 (xorF f (aenF k ct)))).heap.size = w2.heap.size := by simp
   rw [← hb] at hG
   clear hb
   have HSG := (Sl.of_row rg3 (w2.setRow G (ba 16 (xorF f (aenF k ct)))).heap.size hG).upto m hm16
   rw [show min L (16 * j) = 16 * j by have := HR.out; omega] at HO3
   clear rg3 hG
   have hbs : w.heap.size + 2 ≤ (w2.setRow G (ba 16 (xorF f (aenF k ct)))).heap.size := by have := HI3.out.hC; have := HI3.out.lt; omega
   go_wp2_with (at_builtin; refine yN rfl (.tmp 30) (.tmp 32) rfl zZ yG HO3.out HSG (by have := HR.out; omega) hbs rfl rfl ?_; intro v' w6 ho hg ht; have rc := (HI3.out.grown HO3.out hg (by omega) HNE.out).ctr)
   have HI6 := Lib.hid (HI3.out.grown HO3.out hg (by omega) HNE.out)
   have HO6 := Lib.hid (ho.congr (f' := xorS k n a b) fun i hi => by
    have := xor_grp k n a b j m hm16 i hi
    rw [HF.out, HCT.out]; exact this)
   have HS6 := Lib.hid (HS3.out.below (HO3.out.after hg (Below.refl w.heap.size _) HI3.out.below.size (by omega)))
   have HN6 := Lib.hid (show v'.ownBlock ≠ some C by
    rcases ht with e | e
    ·rw [e]; exact HNE.out
    ·rw [e]; have := HI3.out.lt; simp at this ⊢; omega)
   clear ho hg ht HO3 HS3 HSG hbs
   refine (bnext_any ct _).mono ?_
   rintro e w7 ⟨rfl, hb7⟩
   have r7 := zC hb7 rc
   have HI7 := Lib.hid ((HI6.out.call hb7).put (ctrF n ((a + (j + 1)) % 4294967296)))
   have HO7 := Lib.hid ((HO6.out.below hb7 (Nat.le_refl _)).setRow C HN6.out (ba 16 (ctrF n ((a + (j + 1)) % 4294967296))))
   have HS7 := Lib.hid ((HS6.out.below (hb7.mono HI6.out.below.size)).below (zE (Below.refl w.heap.size w7) (show w.heap.size ≤ C by have := HI6.out.hC; omega) (ba 16 (ctrF n ((a + (j + 1)) % 4294967296)))))
   have HNX := Lib.hid (show ba 16 (nextF ct) = ba 16 (ctrF n ((a + (j + 1)) % 4294967296)) by rw [HCT.out, ctr_next_ba, cnt_step])
   have HLE := Lib.hid (show r - m = L - 16 * (j + 1) by have := HR.out; have := HM.out; omega)
   have HLM := Lib.hid (show 16 * j + m = min L (16 * (j + 1)) by have := HR.out; have := HM.out; omega)
   have HJ1 := Lib.hid (show 16 * (j + 1) < L + 16 by have := HR.out; omega)
   have HFF := Lib.hid ((HS7.out.from_ m (by have := HM.out; omega)).congr (b' := offF b (16 * (j + 1))) fun i hi => by
    have := HR.out; have := HM.out
    unfold offF; congr 1; omega)
   clear rc hb7 HS6 HO6 HI6
   go_wp2_with fail
   rw [HNX.out]
   go_roundw
   case rel =>
    rw [HLE.out] at HFF ⊢
    rw [HLM.out] at HO7
    exact ⟨j + 1, _, _, HJ1.out, rfl, HFF.out, HO7.out, HN6.out, HI7.out⟩
   case measure => simp only [slLen]; omega
def three {α : Type} (x y z : α) : Nat → α
 | 0 => x
 | 1 => y
 | _ => z
theorem three_lt {i : Nat} (h : i < 3) : i = 0 ∨ i = 1 ∨ i = 2 := by omega
theorem three_len (a b c : Nat) : lenL (three a b c) 3 = a + b + c := by simp [lenL, three]
theorem all_cats (s b : Bf) (ns nb : Nat) : ∀ i, i < up16 ns + up16 nb + 16 → catsF (three (up16 ns) (up16 nb) 16) (three (padF s ns) (padF b nb) (catF 8 (beN 8 (8 * ns)) (beN 8 (8 * nb)))) 3 i = allF s ns b nb i := fun i _ => by
 simp only [catsF, lenL, three, Nat.zero_add, xF]
 unfold catF allF
 by_cases h1 : i < up16 ns
 ·rw [if_pos (by omega), if_pos h1, if_pos h1]
 ·by_cases h2 : i < up16 ns + up16 nb
  ·rw [if_pos h2, if_neg h1, if_neg h1, if_pos h2]
  ·rw [if_neg h2, if_neg h1, if_neg h2]
   by_cases h3 : i < up16 ns + up16 nb + 8
   ·rw [if_pos (by omega), if_pos h3]
   ·rw [if_neg (by omega), if_neg h3, show i - (up16 ns + up16 nb) - 8 = i - (up16 ns + up16 nb + 8) by omega]
theorem gtag_any (k n : Bf) (s : Bf) (ns cs : Nat) (As : Option Addr) (b : Bf) (nb cb : Nat) (Ab : Option Addr) (w : World) (hs : Sl w w.heap.size As ns cs s) (hb : Sl w w.heap.size Ab nb cb b) (hns : ns ≤ 1099511627776) (hnb : nb ≤ 1099511627776) :
  Calls Tryz.prog 220 #[.agg (ba 32 k), .agg (ba 12 n), .slice As ns cs, .slice Ab nb cb] w fun e w' => e = .returned (.agg (ba 16 (tagF k n s ns b nb))) ∧ Below w.heap.size w w' := by
 have B0 := (((Below.refl w.heap.size w).alloc (by simp) (.cells (ba 32 k) 61)).alloc (by simp) (.cells (ba 12 n) 217)).alloc (by simp; omega) (.cells (ba 16 fun _ => 0#8) 266)
 have HS := Lib.hid (hs.below B0)
 have HB := Lib.hid (hb.below B0)
 have HB0 := Lib.hid B0
 have q0 : row (((w.alloc (.cells (ba 32 k) 61)).alloc (.cells (ba 12 n) 217)).alloc (.cells (ba 16 fun _ => 0#8) 266)) w.heap.size = some (ba 32 k) := by simp [go_sem]
 have q1 : row (((w.alloc (.cells (ba 32 k) 61)).alloc (.cells (ba 12 n) 217)).alloc (.cells (ba 16 fun _ => 0#8) 266)) (w.heap.size + 1) = some (ba 12 n) := by simp [go_sem]
 have q2 : row (((w.alloc (.cells (ba 32 k) 61)).alloc (.cells (ba 12 n) 217)).alloc (.cells (ba 16 fun _ => 0#8) 266)) (w.heap.size + 1 + 1) = some (ba 16 fun _ => 0#8) := by simp [go_sem]
 clear hs hb B0
 go_enter Tryz.func220, Tryz.ntmps220
 go_wp2_with fail
 generalize ((w.alloc (.cells (ba 32 k) 61)).alloc (.cells (ba 12 n) 217)).alloc (.cells (ba 16 fun _ => 0#8) 266) = w0 at HS HB HB0 q0 q1 q2 ⊢
 refine (lens_any ns cs nb cb As Ab hns hnb _).mono ?_
 rintro e w1 ⟨rfl, hb1⟩
 obtain ⟨z, hz⟩ : ∃ z, z = catF 8 (beN 8 (8 * ns)) (beN 8 (8 * nb)) := ⟨_, rfl⟩
 rw [← hz]
 have HZ := Lib.hid hz
 have hbz := HB0.out.size
 have HS1 := Lib.hid ((HS.out.below (hb1.mono hbz)).below ((Below.refl w.heap.size w1).alloc (by have := hb1.size; omega) (.cells (ba 16 z) 266)))
 have HB1 := Lib.hid ((HB.out.below (hb1.mono hbz)).below ((Below.refl w.heap.size w1).alloc (by have := hb1.size; omega) (.cells (ba 16 z) 266)))
 have HBB := Lib.hid ((onto HB0.out hbz hb1).alloc (by have := hb1.size; omega) (.cells (ba 16 z) 266))
 have t0 := zI (zC hb1 q0) (.cells (ba 16 z) 266)
 have t1 := zI (zC hb1 q1) (.cells (ba 16 z) 266)
 have t2 := zI (zC hb1 q2) (.cells (ba 16 z) 266)
 have tz : row (w1.alloc (.cells (ba 16 z) 266)) w1.heap.size = some (ba 16 z) := zA _ _ _ _ rfl
 clear hz hbz hb1 q0 q1 q2 HS HB HB0
 go_wp2_with fail
 generalize w1.heap.size = Z at tz ⊢
 generalize w1.alloc (.cells (ba 16 z) 266) = w2 at HS1 HB1 HBB t0 t1 t2 tz ⊢
 refine yL [([0, 2, 4], 1, false), ([], 3, false), ([], 5, false), ([], 6, false)] [7] (by kernel_rfl) (by kernel_rfl) (fun _ _ _ _ _ h => h) fun Y => ?_
 have hby := Y.below
 have HS2 := Lib.hid (HS1.out.below (hby.mono HBB.out.size))
 have HB2 := Lib.hid (HB1.out.below (hby.mono HBB.out.size))
 have HBC := Lib.hid (onto HBB.out HBB.out.size hby)
 have r0 := zC hby t0
 have r1 := zC hby t1
 have r2 := zC hby t2
 have rz := zC hby tz
 clear t0 t1 t2 tz HS1 HB1 HBB hby
 generalize Y.val = w3 at HS2 HB2 HBC r0 r1 r2 rz ⊢
 clear Y
 simp only [wpFs, pk, List.getElem?_cons_zero, List.getElem?_cons_succ]
 repeat (go_big_quiet_step (fail))
 refine wpQuiet_nil ?_
 go_wp2_with fail
 refine (padded_any ns cs As s _ (HS2.out.more HBC.out.size) hns).mono ?_
 rintro e w4 ⟨A1, c1, rfl, h1, hc1, hb4⟩
 go_wp2_with fail
 refine ⟨.inr hb4, ?_⟩
 have HP1 := Lib.hid h1
 have HB4 := Lib.hid (HB2.out.below (hb4.mono HBC.out.size))
 have HBD := Lib.hid (onto HBC.out HBC.out.size hb4)
 have t0 := zC hb4 r0
 have t1 := zC hb4 r1
 have t2 := zC hb4 r2
 have tz := zC hb4 rz
 clear r0 r1 r2 rz h1 hc1 hb4 HS2 HB2 HBC
 show wpQuiet _ _ _ _ _ _
 refine wpQuiet_nil ?_
 go_wp2_with fail
 refine (padded_any nb cb Ab b _ (HB4.out.more HBD.out.size) hnb).mono ?_
 rintro e w5 ⟨A2, c2, rfl, h2, hc2, hb5⟩
 go_wp2_with fail
 refine ⟨.inr hb5, ?_⟩
 have HP1' := Lib.hid (HP1.out.below hb5)
 have HP2 := Lib.hid h2
 have HBE := Lib.hid (onto HBD.out HBD.out.size hb5)
 have HSZ := Lib.hid hb5.size
 have r0 := zC hb5 t0
 have r1 := zC hb5 t1
 have r2 := zC hb5 t2
 have rz := zC hb5 tz
 clear t0 t1 t2 tz h2 hc2 hb5 HB4 HBD HP1
 show wpQuiet _ _ _ _ _ _
 refine wpQuiet_nil ?_
 go_wp2_with fail
 refine ⟨.inr ((Below.refl _ _).alloc (Nat.le_refl _) _), ?_⟩
 have hb6 : Below w5.heap.size w5 (w5.alloc (.cells #[.slice A1 (up16 ns) c1, .slice A2 (up16 nb) c2, .slice (some ⟨Z, 0, none⟩) 16 16] 22)) := (Below.refl _ _).alloc (Nat.le_refl _) _
 have hrow : row (w5.alloc (.cells #[.slice A1 (up16 ns) c1, .slice A2 (up16 nb) c2, .slice (some ⟨Z, 0, none⟩) 16 16] 22)) w5.heap.size = some #[.slice A1 (up16 ns) c1, .slice A2 (up16 nb) c2, .slice (some ⟨Z, 0, none⟩) 16 16] := zA _ _ _ _ rfl
 have HQ1 := Lib.hid (HP1'.out.below (hb6.mono HSZ.out))
 have HQ2 := Lib.hid (HP2.out.below hb6)
 have HBF := Lib.hid (onto HBE.out HBE.out.size hb6)
 have t0 := zC hb6 r0
 have t1 := zC hb6 r1
 have t2 := zC hb6 r2
 have tz := zC hb6 rz
 have hZ5 : Z < w5.heap.size := zK rz
 clear r0 r1 r2 rz HP1' HP2 HBE
 have hs6 : (w5.alloc (.cells #[.slice A1 (up16 ns) c1, .slice A2 (up16 nb) c2, .slice (some ⟨Z, 0, none⟩) 16 16] 22)).heap.size = w5.heap.size + 1 := by simp
 have HS45 := Lib.hid HSZ.out
 clear HSZ hb6
 generalize w5.alloc (.cells #[.slice A1 (up16 ns) c1, .slice A2 (up16 nb) c2, .slice (some ⟨Z, 0, none⟩) 16 16] 22) = w6 at HQ1 HQ2 HBF t0 t1 t2 tz hrow hs6 ⊢
 show wpQuiet _ _ _ _ _ _
 refine wpQuiet_nil ?_
 go_wp2_with fail
 have hu1 := up16_le ns
 have hu2 := up16_le nb
 refine (concat_any 3 w5.heap.size 3 (three A1 A2 (some ⟨Z, 0, none⟩)) (three (up16 ns) (up16 nb) 16) (three c1 c2 16) (three (padF s ns) (padF b nb) z) w6 (fun i hi => by
   rw [zF hrow]; rcases three_lt hi with rfl | rfl | rfl <;> rfl) (by omega) (fun i hi => by
   rcases three_lt hi with rfl | rfl | rfl
   ·exact HQ1.out.more (by have := HS45.out; omega)
   ·exact HQ2.out.more (by omega)
   ·exact Sl.of_row tz _ (zK tz)) (by omega) (by rw [three_len]; omega)).mono ?_
 rintro e w7 ⟨v, rfl, ho, hb7⟩
 rw [three_len, HZ.out] at ho
 obtain ⟨A7, c7, rfl, h7, hc7, -⟩ := ho.sl
 go_wp2_with fail
 refine ⟨.inr hb7, ?_⟩
 have H7 := Lib.hid (h7.congr (all_cats s b ns nb))
 have HBG := Lib.hid (onto HBF.out HBF.out.size hb7)
 have r0 := zC hb7 t0
 have r1 := zC hb7 t1
 have r2 := zC hb7 t2
 clear t0 t1 t2 tz ho h7 hc7 hb7 HQ1 HQ2 HBF hrow hs6 hZ5 HS45 hu1 hu2
 show wpQuiet _ _ _ _ _ _
 repeat (go_big_quiet_step (fail))
 refine wpQuiet_nil ?_
 go_wp2_with fail
 refine (encrypt_any k (fun _ => 0#8) _).mono ?_
 rintro e w8 ⟨rfl, hb8⟩
 obtain ⟨hk, hhk⟩ : ∃ hk, hk = aenF k nF := ⟨_, rfl⟩
 rw [show (aenF k fun _ => 0#8) = hk from hhk.symm]
 have HHK := Lib.hid hhk
 obtain ⟨al, hal⟩ : ∃ al, al = allF s ns b nb := ⟨_, rfl⟩
 have HAL := Lib.hid hal
 obtain ⟨N, hN⟩ : ∃ N, N = up16 ns + up16 nb + 16 := ⟨_, rfl⟩
 have HN := Lib.hid hN
 have h7 := H7.out
 rw [← hal, ← hN] at h7
 rw [← hN]
 have H8 := Lib.hid (((h7.below hb8).below ((Below.refl _ w8).alloc hb8.size (.cells (ba 16 hk) 266))).more (by have := hb8.size; simp; omega : _ ≤ (w8.alloc (.cells (ba 16 hk) 266)).heap.size))
 have HBH := Lib.hid ((onto HBG.out HBG.out.size hb8).alloc (by have := hb8.size; have := HBG.out.size; omega) (.cells (ba 16 hk) 266))
 have t0 := zI (zC hb8 r0) (.cells (ba 16 hk) 266)
 have t1 := zI (zC hb8 r1) (.cells (ba 16 hk) 266)
 have t2 := zI (zC hb8 r2) (.cells (ba 16 hk) 266)
 have th : row (w8.alloc (.cells (ba 16 hk) 266)) w8.heap.size = some (ba 16 hk) := zA _ _ _ _ rfl
 clear r0 r1 r2 hb8 h7 H7 HBG hhk hal hN
 go_wp2_with fail
 generalize w8.heap.size = HH at th ⊢
 generalize w8.alloc (.cells (ba 16 hk) 266) = w9 at H8 HBH t0 t1 t2 th ⊢
 obtain ⟨ct, hct⟩ : ∃ ct, ct = ctrF n 1 := ⟨_, rfl⟩
 have HCT := Lib.hid hct
 have cC := cblk_any n 1 (by decide)
 rw [← hct] at cC
 have HC := Lib.hid cC
 have hs9 : ∀ x : After w9, Sl x.val x.val.heap.size A7 N c7 al := fun x => After.sl H8.out x
 have HS9 := Lib.hid hs9
 have q0 := After.row t0
 have q1 := After.row t1
 have qh := After.row th
 clear hct cC hs9 t0 t1 th
 refine seen_tail 0 8 (by kernel_rfl) (by kernel_rfl) (fun _ _ _ _ _ h => h) ?_
 simp only [List.take_succ_cons, List.take_zero, List.drop_succ_cons, List.drop_zero]
 repeat (go_big_quiet_step ((first | (go_at_call 245; refine After.call _ (HC.out _)) | (go_at_call 247; refine After.call _ (encrypt_any k ct _)) | (go_at_call 251; refine After.call _ (bhash_any hk al N c7 A7 _ (HS9.out _))) | (go_at_call 246; refine After.call _ (bxor_any (aenF k ct) (hshF hk al N) _)))))
 refine wpQuiet_nil ?_
 rintro _ ⟨x, rfl⟩
 have r2 := zC x.below t2
 have HBJ := Lib.hid (onto HBH.out HBH.out.size x.below)
 have HT := Lib.hid (show xorF (aenF k ct) (hshF hk al N) = tagF k n s ns b nb by rw [HCT.out, HHK.out, HAL.out, HN.out]; rfl)
 clear q0 q1 qh t2 H8 HBH
 go_wp2_with fail
 rw [HT.out]
 refine bodyPost_ret (v := .agg (ba 16 (tagF k n s ns b nb))) (zS rfl _ _ (w.heap.size + 1 + 1) _ _ _ rfl (zD r2 _) blk_u (by rw [zG]; exact blk_i)) rfl ⟨rfl, ?_⟩
 exact zE HBJ.out (by omega) _
theorem ldR_cells {P : Program} (t n : Nat) (e : TypeId) (hu : P.underlying t = some (.array n e)) (m : Nat) (hi : (P.info? t).map (·.size) = some m) (w : World) (g o : Nat) (f : Bf) (hc : ∀ i, i < m → w.cell? ⟨g, o + i, none⟩ = some (.int .u8 (I (f i)))) :
  ldR P t m w g o (row w g) = .ok (.agg (ba m f)) w := by
 rw [← yU t n e hu m hi w g o]
 have h := run_loadAt_mid (P := P) w g o t (ba m f).toList _ (fun j v hv => by
  rw [Array.getElem?_toList] at hv
  by_cases hj : j < m
  ·rw [zY m f j hj] at hv; rw [hc j hj, hv]
  ·rw [yM m f j hj] at hv; cases hv) hu rfl (by rw [hi, Array.length_toList, zG])
 rw [Array.toArray_toList] at h
 exact h
theorem blk_at (a : Option Addr) (cap : Nat) (w : World) : (Instr.arrayAt 266 (.slice a 16 cap)).run Tryz.prog w = .ok (.pointer a) w := by
 simp [Instr.arrayAt, run_underlying blk_u]
def sealF (k n s : Bf) (ns : Nat) (b : Bf) (L : Nat) : Bf := catF L (xorS k n 2 b) (tagF k n s ns (xorS k n 2 b) L)
def opC (k n s : Bf) (ns : Nat) (b : Bf) (L : Nat) : Int := if L < 16 then 3 else if eqB 16 (tagF k n s ns b (L - 16)) (offF b (L - 16)) = true then 0 else 40
def opL (k n s : Bf) (ns : Nat) (b : Bf) (L : Nat) : Nat := if opC k n s ns b L = 0 then L - 16 else 0
theorem gseal_any (k n : Bf) (s : Bf) (ns cs : Nat) (As : Option Addr) (b : Bf) (L c : Nat) (A : Option Addr) (w : World) (hs : Sl w w.heap.size As ns cs s) (hb : Sl w w.heap.size A L c b) (hns : ns ≤ 1099511627776) (hL : L ≤ 1099511627776) :
  Calls Tryz.prog 187 #[.agg (ba 32 k), .agg (ba 12 n), .slice As ns cs, .slice A L c] w fun e w' => ∃ v, e = .returned v ∧ Own w' w.heap.size 5 v (L + 16) (sealF k n s ns b L) ∧ Below w.heap.size w w' := by
 have B0 := ((Below.refl w.heap.size w).alloc (by simp) (.cells (ba 32 k) 61)).alloc (by simp) (.cells (ba 12 n) 217)
 have HSS := Lib.hid hs
 have HSB := Lib.hid hb
 have HB0 := Lib.hid B0
 have q0 : row ((w.alloc (.cells (ba 32 k) 61)).alloc (.cells (ba 12 n) 217)) w.heap.size = some (ba 32 k) := by simp [go_sem]
 have q1 : row ((w.alloc (.cells (ba 32 k) 61)).alloc (.cells (ba 12 n) 217)) (w.heap.size + 1) = some (ba 12 n) := by simp [go_sem]
 clear hs hb B0
 go_enter Tryz.func187, Tryz.ntmps187
 go_wp2_with fail
 generalize (w.alloc (.cells (ba 32 k) 61)).alloc (.cells (ba 12 n) 217) = w0 at HB0 q0 q1 ⊢
 refine (gxor_any k n 2 (by decide) b L c A _ ((HSB.out.below HB0.out).more HB0.out.size) hL).mono ?_
 rintro e w1 ⟨v1, rfl, ho1, hb1⟩
 have HB1 := Lib.hid (onto HB0.out HB0.out.size hb1)
 have HO1 := Lib.hid (ho1.base HB0.out.size)
 obtain ⟨A1, c1, rfl, h1, hc1, -⟩ := ho1.sl
 have t0 := zC hb1 q0
 have t1 := zC hb1 q1
 clear q0 q1 ho1 hb1 HB0
 go_wp2_with fail
 refine (gtag_any k n s ns cs As (xorS k n 2 b) L c1 A1 _ ((HSS.out.below HB1.out).more HB1.out.size) h1 hns hL).mono ?_
 rintro e w2 ⟨rfl, hb2⟩
 obtain ⟨tg, htg⟩ : ∃ tg, tg = tagF k n s ns (xorS k n 2 b) L := ⟨_, rfl⟩
 rw [← htg]
 have HTG := Lib.hid htg
 have hs2 := hb2.size
 have hsz := HB1.out.size
 have HB2 := Lib.hid ((onto HB1.out HB1.out.size hb2).alloc (by omega) (.cells (ba 16 tg) 266))
 have HO2 := (HO1.out.below hb2 (Nat.le_refl _)).alloc (.cells (ba 16 tg) 266)
 have rt : row (w2.alloc (.cells (ba 16 tg) 266)) w2.heap.size = some (ba 16 tg) := zA _ _ _ _ rfl
 have HST := Sl.of_row rt (w2.heap.size + 1) (by omega)
 have hb3 : w.heap.size ≤ (w2.alloc (.cells (ba 16 tg) 266)).heap.size := by simp; omega
 clear t0 t1 h1 hc1 hb2 htg HB1 HO1
 go_wp2_with (at_builtin; refine yN rfl (.tmp 20) (.tmp 21) rfl zZ yG HO2 HST (by omega) hb3 rfl rfl ?_; intro v3 w3 ho hg ht)
 have HF := Lib.hid (ho.congr (f' := sealF k n s ns b L) fun i _ => by unfold sealF; rw [HTG.out])
 have HB3 := Lib.hid (HO2.after hg HB2.out hb3 (Nat.le_refl _))
 clear ho hg ht
 go_ret
 exact ⟨_, rfl, HF.out, HB3.out⟩
theorem gopen_any (k n : Bf) (s : Bf) (ns cs : Nat) (As : Option Addr) (b : Bf) (L c : Nat) (A : Option Addr) (w : World) (hs : Sl w w.heap.size As ns cs s) (hb : Sl w w.heap.size A L c b) (hns : ns ≤ 1099511627776) (hL : L ≤ 1099511627776) :
  Calls Tryz.prog 223 #[.agg (ba 32 k), .agg (ba 12 n), .slice As ns cs, .slice A L c] w fun e w' => ∃ v, e = .returned (.tuple #[v, .int .i64 (opC k n s ns b L)]) ∧ Own w' w.heap.size 5 v (opL k n s ns b L) (xorS k n 2 b) ∧ Below w.heap.size w w' := by
 have B0 := ((Below.refl w.heap.size w).alloc (by simp) (.cells (ba 32 k) 61)).alloc (by simp) (.cells (ba 12 n) 217)
 have HSS := Lib.hid hs
 have HSB := Lib.hid hb
 have HB0 := Lib.hid B0
 have q0 : row ((w.alloc (.cells (ba 32 k) 61)).alloc (.cells (ba 12 n) 217)) w.heap.size = some (ba 32 k) := by simp [go_sem]
 have q1 : row ((w.alloc (.cells (ba 32 k) 61)).alloc (.cells (ba 12 n) 217)) (w.heap.size + 1) = some (ba 12 n) := by simp [go_sem]
 have hcap := hb.le
 clear hs hb B0
 by_cases hlt : L < 16
 ·have hd : decide ((L : Int) < 16) = true := by simp; omega
  have HCO := Lib.hid (show opC k n s ns b L = 3 by unfold opC; rw [if_pos hlt])
  go_enter Tryz.func223, Tryz.ntmps223
  go_wp2_with fail
  rw [show opL k n s ns b L = 0 by unfold opL; rw [HCO.out]; rfl, HCO.out]
  exact bodyPost_ret (v := .tuple #[.slice none 0 0, .int .i64 3]) (by simp [results, Tryz.results223, go_sem]) rfl ⟨_, rfl, Own.nil _ _ _ _, HB0.out⟩
 ·have hd : decide ((L : Int) < 16) = false := by simp; omega
  obtain ⟨m, hm⟩ : ∃ m, m = L - 16 := ⟨_, rfl⟩
  have hmL : m + 16 = L := by omega
  have hmi : (L : Int) - 16 = (m : Int) := by omega
  obtain ⟨g, o, hA, hg, hcell⟩ := HSB.out.at_ (by omega)
  subst hA
  have hup := run_upto zZ u8_i (some ⟨g, o, none⟩) L c m (by omega)
  have hfrom := run_from zZ u8_i (some ⟨g, o, none⟩) L c m (by omega)
  rw [show cutA (some ⟨g, o, none⟩) c m = some ⟨g, o + m, none⟩ by unfold cutA; rw [if_neg (by omega)]; simp only [Option.map_some]; rw [yS], show L - m = 16 by omega] at hfrom
  have hat := blk_at (some ⟨g, o + m, none⟩) (c - m)
  have HC := Lib.hid hcell
  clear hcell hm
  go_enter Tryz.func223, Tryz.ntmps223
  go_wp2_with fail
  refine yL [([0, 1, 2, 3, 4, 5, 6, 7], 8, false), ([9], 10, true)] [] (by kernel_rfl) (by kernel_rfl) (fun _ _ _ _ _ h => h) fun X => ?_
  have hbx := X.below
  have HB1 := Lib.hid (onto HB0.out HB0.out.size hbx)
  have t0 := zC hbx q0
  have t1 := zC hbx q1
  clear q0 q1 HB0 hbx
  generalize X.val = w1 at HB1 t0 t1 ⊢
  clear X
  obtain ⟨f, hf⟩ : ∃ f, f = offF b m := ⟨_, rfl⟩
  have HF := Lib.hid hf
  have hld : ∀ x : After w1, ldR Tryz.prog 266 16 x.val g (o + m) (row x.val g) = .ok (.agg (ba 16 f)) x.val := fun x => ldR_cells _ 16 _ blk_u 16 blk_i x.val g (o + m) f fun i hi => by
   rw [show o + m + i = o + (m + i) by omega, (onto HB1.out HB1.out.size x.below).cell (p := ⟨g, o + (m + i), none⟩) hg, HC.out (m + i) (by omega), hf]; rfl
  clear hf
  simp only [wpFs, pk, List.getElem?_cons_zero, List.getElem?_cons_succ]
  repeat (go_big_quiet_step (fail))
  refine wpQuiet_nil ?_
  clear hld hup hfrom hat
  go_wp2_with fail
  have hb2 : Below w1.heap.size w1 (w1.alloc (.cells (ba 16 fun _ => 0#8) 266)) := (Below.refl _ _).alloc (Nat.le_refl _) _
  have rz : row (w1.alloc (.cells (ba 16 fun _ => 0#8) 266)) w1.heap.size = some (ba 16 fun _ => 0#8) := zA _ _ _ _ rfl
  have HBS := Lib.hid (show w.heap.size + 2 ≤ w1.heap.size by have := zK t1; omega)
  refine ⟨.inr hb2, ?_⟩
  have HB2 := Lib.hid (onto HB1.out HB1.out.size hb2)
  have r0 := zC hb2 t0
  have r1 := zC hb2 t1
  clear t0 t1 HB1 hb2
  generalize w1.heap.size = Z at rz HBS ⊢
  generalize w1.alloc (.cells (ba 16 fun _ => 0#8) 266) = w2 at HB2 r0 r1 rz ⊢
  show wpQuiet _ _ _ _ _ _
  repeat (go_big_quiet_step (fail))
  refine wpQuiet_nil ?_
  go_wp2_with fail
  refine ⟨.inl trivial, ?_⟩
  have HB3 := Lib.hid (zE HB2.out (show w.heap.size ≤ Z by have := HBS.out; omega) (ba 16 f))
  have t0 : row (w2.setRow Z (ba 16 f)) w.heap.size = some (ba 32 k) := by rw [zB _ _ _ _ (by have := HBS.out; omega)]; exact r0
  have t1 : row (w2.setRow Z (ba 16 f)) (w.heap.size + 1) = some (ba 12 n) := by rw [zB _ _ _ _ (by have := HBS.out; omega)]; exact r1
  have tz : row (w2.setRow Z (ba 16 f)) Z = some (ba 16 f) := zD rz _
  clear r0 r1 rz HB2
  generalize w2.setRow Z (ba 16 f) = w3 at HB3 t0 t1 tz ⊢
  show wpQuiet _ _ _ _ _ _
  refine wpQuiet_nil ?_
  obtain ⟨tg, htg⟩ : ∃ tg, tg = tagF k n s ns b m := ⟨_, rfl⟩
  have HTG := Lib.hid htg
  have hcT : ∀ x : After w3, Calls Tryz.prog 220 #[.agg (ba 32 k), .agg (ba 12 n), .slice As ns cs, .slice (some ⟨g, o, none⟩) m c] x.val fun e w' => e = .returned (.agg (ba 16 tg)) ∧ Below x.val.heap.size x.val w' := fun x => by
   rw [htg]
   have hx : Below w.heap.size w x.val := onto HB3.out HB3.out.size x.below
   exact gtag_any k n s ns cs As b m c _ _ ((HSS.out.below hx).more hx.size) (((HSB.out.upto m (by omega)).below hx).more hx.size) hns (by omega)
  have HCT := Lib.hid hcT
  have q0 := After.row t0
  have q1 := After.row t1
  have qz := After.row tz
  have hmL16 : L - 16 = m := by omega
  have HML := Lib.hid hmL16
  have HMB := Lib.hid (show m ≤ 1099511627776 ∧ m ≤ L by omega)
  clear htg hcT hmL16 hmL hmi hd
  cases he : eqB 16 tg f
  ·go_wp2_with fail
   refine xD (by kernel_rfl) (by kernel_rfl) ?_
   repeat (first | rw [he] | go_big_quiet_step ((go_at_call 220; exact After.call _ (HCT.out _))))
   refine wpQuiet_nil ?_
   rintro _ ⟨x, rfl⟩
   have HB4 := Lib.hid (onto HB3.out HB3.out.size x.below)
   clear q0 q1 qz
   go_wp2_with fail
   have hC : opC k n s ns b L = 40 := by
    unfold opC
    rw [if_neg hlt, HML.out, ← HTG.out, ← HF.out, he]
    rfl
   rw [show opL k n s ns b L = 0 by unfold opL; rw [hC]; rfl, hC]
   exact bodyPost_ret (v := .tuple #[.slice none 0 0, .int .i64 40]) (by simp [results, Tryz.results223, go_sem]) rfl ⟨_, rfl, Own.nil _ _ _ _, HB4.out⟩
  ·go_wp2_with fail
   refine xD (by kernel_rfl) (by kernel_rfl) ?_
   repeat (first | rw [he] | go_big_quiet_step ((go_at_call 220; exact After.call _ (HCT.out _))))
   refine wpQuiet_nil ?_
   rintro _ ⟨x, rfl⟩
   have HB4 := Lib.hid (onto HB3.out HB3.out.size x.below)
   have r0 := q0 x
   have r1 := q1 x
   clear q0 q1 qz
   go_wp2_with fail
   refine (gxor_any k n 2 (by decide) b m c _ _ (((HSB.out.upto m HMB.out.2).below HB4.out).more HB4.out.size) HMB.out.1).mono ?_
   rintro e w5 ⟨v, rfl, ho, hb5⟩
   have HO := Lib.hid (ho.base HB4.out.size)
   have HB5 := Lib.hid (onto HB4.out HB4.out.size hb5)
   clear ho hb5
   go_wp2_with fail
   have hC : opC k n s ns b L = 0 := by
    unfold opC
    rw [if_neg hlt, HML.out, ← HTG.out, ← HF.out, he]
    rfl
   rw [show opL k n s ns b L = m by unfold opL; rw [hC, if_pos rfl, HML.out], hC]
   exact bodyPost_ret (v := .tuple #[v, .int .i64 0]) (by simp [results, Tryz.results223, go_sem]) rfl ⟨_, rfl, HO.out, HB5.out⟩
section
variable (k n s b : Bf) (ns L : Nat)
theorem back_low (i : Nat) (hi : i < L) : sealF k n s ns b L i = xorS k n 2 b i := by unfold sealF catF; rw [if_pos hi]
theorem back_tail (i : Nat) : offF (sealF k n s ns b L) L i = tagF k n s ns (xorS k n 2 b) L i := by
 unfold offF sealF catF; rw [if_neg (by omega), Nat.add_sub_cancel_left]
theorem back_tag : tagF k n s ns (sealF k n s ns b L) L = tagF k n s ns (xorS k n 2 b) L := tagF_congr (fun _ _ => rfl) (back_low k n s b ns L)
theorem opC_back : opC k n s ns (sealF k n s ns b L) (L + 16) = 0 := by
 unfold opC
 rw [if_neg (by omega), Nat.add_sub_cancel, back_tag, if_pos ((eqB_iff _ _ _).2 fun i _ => (back_tail k n s b ns L i).symm)]
theorem xor_back (i : Nat) (hi : i < L) : xorS k n 2 (sealF k n s ns b L) i = b i := by
 have := congrFun (xorS_back k n 2 b) i
 unfold xorS at this ⊢
 rw [← this]
 congr 1
 exact back_low k n s b ns L i hi
end
end Go.Proofs.YteffjpdcghlnlaaGreatDoor.Oct
