/- What the statements of layer 7 share: few, kind, and the document's examples at their head. -/
import Derived.Test.YtjggnbncpjoooaaDoorDrC
namespace Go.Proofs.YtjggnbncpjoooaaDoor.Oct
open Go.ChangeShapes Go.WideShapes Go.ChangeAt Go.RowKit
set_option linter.unusedVariables false

theorem few_any (A : Option Addr) (n c : Nat) (h : n ≤ c) (hc : c ≤ maxLen) (w : World) :
    Calls Tryd.prog 10 #[.slice A n c] w fun e w' => e = .returned (.slice A (min n 300) c) ∧ w = w' := by
  unfold maxLen at hc
  by_cases hlt : 300 < n
  · have hd : decide ((300 : Int) < (n : Int)) = true := by simp; omega
    have hup := run_upto sli_u u8_i A n c 300 (by omega)
    rw [show min n 300 = 300 by omega]
    go_enter Tryd.func10, Tryd.ntmps10
    go_wp2
    go_ret
    exact ⟨rfl, rfl⟩
  · have hd : decide ((300 : Int) < (n : Int)) = false := by simp; omega
    rw [show min n 300 = n by omega]
    go_enter Tryd.func10, Tryd.ntmps10
    go_wp2
    go_ret
    exact ⟨rfl, rfl⟩
/-- which of n kinds -/
def knd (x : Int) (n : Nat) : Nat := (if x < 0 then -(x + 1) else x).toNat % n
theorem knd_lt (x : Int) {n : Nat} (hn : 0 < n) : knd x n < n := Nat.mod_lt _ hn
theorem kind_any (x : Int) (n : Nat) (hx : (Lit.int .i64 x).wf = true) (hn : 0 < n) (hn2 : n ≤ 100000) (w : World) :
    Calls Tryd.prog 12 #[.int .i64 x, .int .i64 (n : Int)] w fun e w' => e = .returned (.int .i64 ((knd x n : Nat) : Int)) ∧ w = w' := by
  have hb := bounds_i64 hx
  by_cases h0 : x < 0
  · have hd : decide (x < 0) = true := by simpa using h0
    have hk : (-(x + 1)).tmod (n : Int) = ((knd x n : Nat) : Int) := by
      unfold knd
      rw [if_pos h0, Int.tmod_eq_emod_of_nonneg (by omega)]
      obtain ⟨y, hy⟩ : ∃ y : Nat, -(x + 1) = (y : Int) := ⟨(-(x + 1)).toNat, by omega⟩
      rw [hy, Int.toNat_natCast]
      rfl
    have HK := Lib.hid (show -((x + 1).tmod (n : Int)) = ((knd x n : Nat) : Int) by rw [← hk, Int.neg_tmod])
    clear hk hx
    go_enter Tryd.func12, Tryd.ntmps12
    go_wp2
    go_ret
    exact ⟨by rw [HK.out]; rfl, rfl⟩
  · have hd : decide (x < 0) = false := by simp; omega
    have hk : x.tmod (n : Int) = ((knd x n : Nat) : Int) := by
      unfold knd
      rw [if_neg h0, Int.tmod_eq_emod_of_nonneg (by omega)]
      obtain ⟨y, hy⟩ : ∃ y : Nat, x = (y : Int) := ⟨x.toNat, by omega⟩
      rw [hy, Int.toNat_natCast]
      rfl
    have HK := Lib.hid (show x % (n : Int) = ((knd x n : Nat) : Int) by rw [← hk, Int.tmod_eq_emod_of_nonneg (by omega)])
    clear hk hx
    go_enter Tryd.func12, Tryd.ntmps12
    go_wp2
    go_ret
    exact ⟨by rw [HK.out]; rfl, rfl⟩
theorem a_lit : (#[.int .u8 97] : Array Value) = ba 1 (fun _ => 97#8) := by unfold ba; kernel_rfl

set_option maxRecDepth 20000 in
set_option maxHeartbeats 4000000 in
theorem shown_any (w : World) (ht : Tab w) :
    Calls Tryd.prog 8 #[] w fun e w' => e = .returned (.bool true) ∧ Below w.heap.size w w' := by
  have HT := Lib.hid ht
  clear ht
  go_enter Tryd.func8, Tryd.ntmps8
  go_wp2_with fail
  -- two sources
  have B1 := Lib.hid ((Below.refl w.heap.size w).alloc (Nat.le_refl _) (.cells #[.int .u8 97] 5 (1, 2)))
  have s1 := Sl.lit w a_lit 5 (1, 2) (w.heap.size + 1) (by omega)
  have hz1 : (w.alloc (.cells #[.int .u8 97] 5 (1, 2))).heap.size = w.heap.size + 1 := by simp
  obtain ⟨w1, hw1⟩ : ∃ w1, w1 = w.alloc (.cells #[.int .u8 97] 5 (1, 2)) := ⟨_, rfl⟩
  rw [← hw1] at B1 s1 hz1 ⊢
  clear hw1
  refine (dnew_any (fun _ => 97#8) 1 1 _ w1 (HT.out.below B1.out HT.out.pos) (by rw [hz1]; exact s1) (by omega)).mono ?_
  rintro e w2 ⟨a, rfl, ha, ra, hb2⟩
  have B2 := Lib.hid (onto B1.out (by omega) hb2)
  have RA := Lib.hid ra
  have hz2 : w1.heap.size ≤ w2.heap.size := hb2.size
  clear ra hb2 s1 B1
  go_wp2_with fail
  have B3 := Lib.hid (B2.out.alloc (by omega) (.cells #[.int .u8 97] 5 (1, 2)))
  have s3 := Sl.lit w2 a_lit 5 (1, 2) (w2.heap.size + 1) (by omega)
  have hz3 : (w2.alloc (.cells #[.int .u8 97] 5 (1, 2))).heap.size = w2.heap.size + 1 := by simp
  have RA3 := Lib.hid (row_alloc RA.out (.cells #[.int .u8 97] 5 (1, 2)))
  obtain ⟨w3, hw3⟩ : ∃ w3, w3 = w2.alloc (.cells #[.int .u8 97] 5 (1, 2)) := ⟨_, rfl⟩
  rw [← hw3] at B3 s3 hz3 RA3 ⊢
  clear hw3 RA B2
  refine (dnew_any (fun _ => 97#8) 1 1 _ w3 (HT.out.below B3.out HT.out.pos) (by rw [hz3]; exact s3) (by omega)).mono ?_
  rintro e w4 ⟨b, rfl, hb, rb, hb4⟩
  obtain ⟨S, hS⟩ : ∃ S : St, S = updS newS (fun _ => 97#8) 1 := ⟨_, rfl⟩
  rw [← hS] at rb RA3
  have ra4 := carry hb4 RA3.out
  have hab : a < w3.heap.size := row_lt RA3.out
  have hz4 := hb4.size
  have B4 := Lib.hid (onto B3.out (by omega) hb4)
  have HA := Lib.hid ra4
  have HB := Lib.hid rb
  have hb0 := row_lt rb
  have hpos := HT.out.pos
  clear hS ra4 rb hb4 s3 B3 RA3
  have H := ddraw_any S a 8 0 0 none nF 1 w4 (HT.out.below B4.out HT.out.pos) HA.out (by omega) (Sl.nothing _ _ _ _ _) (by omega) (fun h => absurd h (by omega)) (by omega) (by omega) (by omega)
  rw [show ((8 : Nat) : Int) = 8 from rfl] at H
  have HD := Lib.hid H
  clear H
  go_wp2_with fail
  refine HD.out.mono ?_
  rintro e w5 ⟨x, rfl, hx, rx, hp5⟩
  have B5 := Lib.hid (B4.out.trans (hp5.low (D := w.heap.size) (by omega) (by omega)))
  have RA := Lib.hid (hp5.row HA.out)
  have RB := Lib.hid (hp5.other (by omega) HB.out)
  have RX := Lib.hid rx
  have hz5 := hp5.size
  have hx5 := row_lt rx
  obtain ⟨S2, hS2⟩ : ∃ S2 : St, S2 = drwS S 8 nF 0 := ⟨_, rfl⟩
  rw [← hS2] at RA
  obtain ⟨D, hD⟩ : ∃ D, D = drwF S nF 0 := ⟨_, rfl⟩
  rw [← hD] at RX
  have HDD := Lib.hid hD
  clear hS2 rx hp5 HD HA HB B4 hD
  have H := ddraw_any S b 8 0 0 none nF 1 w5 (HT.out.below B5.out HT.out.pos) RB.out (by omega) (Sl.nothing _ _ _ _ _) (by omega) (fun h => absurd h (by omega)) (by omega) (by omega) (by omega)
  rw [show ((8 : Nat) : Int) = 8 from rfl] at H
  have HD := Lib.hid H
  clear H
  go_wp2_with fail
  refine HD.out.mono ?_
  rintro e w6 ⟨y, rfl, hy, ry, hp6⟩
  have B6 := Lib.hid (B5.out.trans (hp6.low (D := w.heap.size) (by omega) (by omega)))
  have RA6 := Lib.hid (hp6.other (by omega) RA.out)
  have RX6 := Lib.hid (hp6.other (by omega) RX.out)
  have RY6 := Lib.hid ry
  have hz6 := hp6.size
  have hy6 := row_lt ry
  rw [← HDD.out] at RY6
  clear ry hp6 HD RA RB RX B5 HDD
  have HD := Lib.hid (ddraw_arg a 0 0 none 257 w6 (by omega))
  go_wp2_with fail
  refine HD.out.mono ?_
  rintro e w6' ⟨rfl, rfl⟩
  clear HD
  have HD := Lib.hid (ddraw_arg a 0 0 none (-1) w6 (by omega))
  go_wp2_with fail
  refine HD.out.mono ?_
  rintro e w6' ⟨rfl, rfl⟩
  clear HD
  have H := ddraw_any S2 a 0 0 0 none nF (1 + 1) w6 (HT.out.below B6.out HT.out.pos) RA6.out (by omega) (Sl.nothing _ _ _ _ _) (by omega) (fun h => absurd h (by omega)) (by omega) (by omega) (by omega)
  rw [show ((0 : Nat) : Int) = 0 from rfl] at H
  have HD := Lib.hid H
  clear H
  go_wp2_with fail
  refine HD.out.mono ?_
  rintro e w7 ⟨z, rfl, hz, -, hp7⟩
  have B7 := Lib.hid (B6.out.trans (hp7.low (D := w.heap.size) (by omega) (by omega)))
  have RA7 := Lib.hid (hp7.row RA6.out)
  have RX7 := Lib.hid (hp7.other (by omega) RX6.out)
  have RY7 := Lib.hid (hp7.other (by omega) RY6.out)
  have hz7 := hp7.size
  clear hp7 HD RA6 RX6 RY6 B6
  have HD := Lib.hid (dstate_any _ _ a w7 RA7.out)
  go_wp2_with fail
  refine HD.out.mono ?_
  rintro e w8 ⟨rfl, hb8⟩
  obtain ⟨F, hF⟩ : ∃ F : St, F = drwS S2 0 nF 0 := ⟨_, rfl⟩
  rw [← hF]
  have B8 := Lib.hid (onto B7.out (by omega) hb8)
  have RX8 := Lib.hid (carry hb8 RX7.out)
  have RY8 := Lib.hid (carry hb8 RY7.out)
  have hz8 := hb8.size
  clear hF hb8 HD RA7 RX7 RY7 B7
  have b9 : Below w8.heap.size w8 ((w8.alloc (.cells (ba 32 F.1) 41)).alloc (.cells (ba 32 F.2) 41)) := ((Below.refl _ _).alloc (Nat.le_refl _) _).alloc (by simp) _
  have rx := carry b9 RX8.out
  have ry := carry b9 RY8.out
  obtain ⟨SX, hSX⟩ : ∃ SX, SX = strOf 8 D := ⟨_, rfl⟩
  have cv1 := run_str (P := Tryd.prog) sli_u u8_u str_u (Sl.of_row rx (x + 1) (by omega))
  have cv2 := run_str (P := Tryd.prog) sli_u u8_u str_u (Sl.of_row ry (y + 1) (by omega))
  rw [← hSX] at cv1 cv2
  have B9 := Lib.hid (onto B8.out (by omega) b9)
  clear rx ry b9 RX8 RY8 B8 hSX
  go_wp2_with fail
  go_ret
  exact ⟨rfl, B9.out⟩
end Go.Proofs.YtjggnbncpjoooaaDoor.Oct
