import Derived.Test.YteffjpdcghlnlaaGreatDoorRows
import Derived.Test.YteffjpdcghlnlaaGreatDoorZcAa
import Derived.Test.YteffjpdcghlnlaaGreatDoorZcLib
import Derived.WalkKit
import Derived.ProofKit
import Derived.OpenShut
import Derived.Lib.Hide
import Derived.Outline
import Derived.BigQuiet
import Derived.Deep.QuietTactic
import Derived.OwnWalk
import Derived.Deep.AppendLies
set_option linter.unusedVariables false
set_option linter.unusedSimpArgs false
set_option maxHeartbeats 4000000
namespace Go.Proofs.YteffjpdcghlnlaaGreatDoor.Oct
open Go.ChangeShapes Go.WideShapes Go.ChangeAt Go.RowKit
theorem t2_hi : ∀ a : BitVec 8, a.msb = true → (I a / 128 == 1) = true ∧ bits .xor .u8 (I a * 2 % 256) 27 = I (t2 a) := by decide +kernel
theorem t2_lo : ∀ a : BitVec 8, a.msb = false → (I a / 128 == 1) = false ∧ I a * 2 % 256 = I (t2 a) := by decide +kernel
theorem t2_any {x : Int} (a : BitVec 8) (hx : x = I a) (w : World) :
  Calls Tryz.prog 289 #[.int .u8 x] w fun e w' => e = .returned (.int .u8 (I (t2 a))) ∧ w = w' := by
 subst hx
 have hb := I_bd a
 obtain ⟨hb0, hb1⟩ := hb
 cases hm : a.msb
 ·obtain ⟨h1, h2⟩ := t2_lo a hm
  have H := Lib.hid h2; clear h2 hm
  go_enter Tryz.func289, Tryz.ntmps289
  go_wp2
  go_ret
  exact ⟨ret_u8 H.out, rfl⟩
 ·obtain ⟨h1, h2⟩ := t2_hi a hm
  have H := Lib.hid h2; clear h2 hm
  go_enter Tryz.func289, Tryz.ntmps289
  go_wp2
  go_ret
  exact ⟨ret_u8 H.out, rfl⟩
theorem mul_any {x y : Int} (a b : BitVec 8) (hx : x = I a) (hy : y = I b) (w : World) :
  Calls Tryz.prog 305 #[.int .u8 x, .int .u8 y] w fun e w' => e = .returned (.int .u8 (I (mul a b))) ∧ w = w' := by
 subst hx; subst hy
 obtain ⟨hb0, hb1⟩ := I_bd b
 go_enter Tryz.func305, Tryz.ntmps305
 go_wp2
 go_loop [0, 5, 7] (fun c p j => ∃ k : Nat, k ≤ 8 ∧ j = .int .i64 k ∧ c = .int .u8 (I (dbl k a)) ∧ p = .int .u8 (I (mulTo a b k))) (fun _ _ j => 8 - (intOf j).toNat)
 case atStart => exact ⟨0, by omega, rfl, rfl, rfl⟩
 case round =>
  obtain ⟨k, hk, rfl, rfl, rfl⟩ := hrel
  by_cases hlt : k < 8
  ·obtain ⟨hc0, hc1⟩ := I_bd (dbl k a)
   obtain ⟨hd0, hd1⟩ := I_bd (mulTo a b k)
   cases hbit : b.getLsbD k
   ·have ht := bit_test' k hlt b false hbit
    have H : Hid (mulTo a b (k + 1) = mulTo a b k) := Lib.hid (by simp [mulTo, hbit])
    clear hbit
    go_wp2_with (go_at_call 289; refine (t2_any _ rfl _).mono ?_; rintro e w' ⟨rfl, rfl⟩)
    go_round
    case rel => exact ⟨k + 1, by omega, by go_num, rfl, by rw [H.out]⟩
    case measure => simp [intOf]; omega
   ·have ht := bit_test' k hlt b true hbit
    have H : Hid (mulTo a b (k + 1) = mulTo a b k ^^^ dbl k a) := Lib.hid (by simp [mulTo, hbit])
    clear hbit
    go_wp2_with (go_at_call 289; refine (t2_any _ rfl _).mono ?_; rintro e w' ⟨rfl, rfl⟩)
    go_round
    case rel => exact ⟨k + 1, by omega, by go_num, rfl, by first | rw [H.out, I_xor] | rw [H.out]⟩
    case measure => simp [intOf]; omega
  ·obtain rfl : k = 8 := by omega
   go_wp2
   go_ret
   exact ⟨rfl, rfl⟩
theorem inv_any {x : Int} (a : BitVec 8) (hx : x = I a) (w : World) :
  Calls Tryz.prog 313 #[.int .u8 x] w fun e w' => e = .returned (.int .u8 (I (inv a))) ∧ w = w' := by
 subst hx
 go_enter Tryz.func313, Tryz.ntmps313
 go_wp2
 go_loop [3, 4, 6] (fun p o j => ∃ k : Nat, k ≤ 7 ∧ j = .int .i64 k ∧ p = .int .u8 (I (invP a k)) ∧ o = .int .u8 (I (invO a k))) (fun _ _ j => 7 - (intOf j).toNat)
 case atStart => exact ⟨0, by omega, rfl, rfl, rfl⟩
 case round =>
  obtain ⟨k, hk, rfl, rfl, rfl⟩ := hrel
  by_cases hlt : k < 7
  ·go_wp2_with (go_at_call 305; (with_reducible refine (mul_any _ _ rfl rfl _).mono ?_); rintro e w' ⟨rfl, rfl⟩)
   go_round
   case rel => exact ⟨k + 1, by omega, by go_num, rfl, rfl⟩
   case measure => simp [intOf]; omega
  ·obtain rfl : k = 7 := by omega
   go_wp2
   go_ret
   exact ⟨rfl, rfl⟩
theorem orot_any {x : Int} (a : BitVec 8) (k : Nat) (hk : k ≤ 4) (hx : x = I a) (w : World) :
  Calls Tryz.prog 314 #[.int .u8 x, .int .i64 k] w fun e w' => e = .returned (.int .u8 (I (a.rotateLeft k))) ∧ w = w' := by
 subst hx
 obtain ⟨ha0, ha1⟩ := I_bd a
 have hs : k = 0 ∨ k = 1 ∨ k = 2 ∨ k = 3 ∨ k = 4 := by omega
 clear hk
 have q0 : bits .and .u64 0 7 = 0 := by decide +kernel
 have q1 : bits .and .u64 1 7 = 1 := by decide +kernel
 have q2 : bits .and .u64 2 7 = 2 := by decide +kernel
 have q3 : bits .and .u64 3 7 = 3 := by decide +kernel
 have q4 : bits .and .u64 4 7 = 4 := by decide +kernel
 rcases hs with rfl | rfl | rfl | rfl | rfl
 all_goals
  go_enter Tryz.func314, Tryz.ntmps314
  go_wp2
  go_ret
  refine ⟨ret_u8 ?_, rfl⟩
  clear ha0 ha1
  revert a
  decide +kernel
theorem box_any {x : Int} (a : BitVec 8) (hx : x = I a) (w : World) :
  Calls Tryz.prog 304 #[.int .u8 x] w fun e w' => e = .returned (.int .u8 (I (box a))) ∧ w = w' := by
 subst hx
 go_enter Tryz.func304, Tryz.ntmps304
 go_wp2_with (go_at_call 313; (with_reducible refine (inv_any _ rfl _).mono ?_); rintro e w' ⟨rfl, rfl⟩)
 go_loop [4, 8] (fun o j => ∃ k : Nat, k ≤ 5 ∧ j = .int .i64 k ∧ o = .int .u8 (I (boxTo (inv a) k))) (fun _ j => 5 - (intOf j).toNat)
 case atStart => exact ⟨0, by omega, rfl, rfl⟩
 case round =>
  obtain ⟨k, hk, rfl, rfl⟩ := hrel
  by_cases hlt : k < 5
  ·obtain ⟨hd0, hd1⟩ := I_bd (boxTo (inv a) k)
   go_wp2_with (go_at_call 314; (with_reducible refine (orot_any _ _ (by omega) rfl _).mono ?_); rintro e w' ⟨rfl, rfl⟩)
   go_round
   case rel => exact ⟨k + 1, by omega, by go_num, by first | (rw [I_xor]; rfl) | rfl⟩
   case measure => simp [intOf]; omega
  ·obtain rfl : k = 5 := by omega
   go_wp2
   go_ret
   exact ⟨rfl, rfl⟩
theorem addB_any (f g : Bf) (w : World) :
  Calls Tryz.prog 275 #[.agg (ba 16 f), .agg (ba 16 g)] w fun e w' => e = .returned (.agg (ba 16 (xorF f g))) ∧ Below w.heap.size w w' := by
 go_enter Tryz.func275, Tryz.ntmps275
 go_wp2
 go_loopw [5, 6] (fun _ i wr => ∃ k : Nat, k ≤ 16 ∧ i = .int .i64 k ∧ ∃ n, wr = (((w.alloc (.cells (ba 16 (upto k (xorF f g) f)) 266)).alloc (.cells (ba 16 g) 266)).alloc (.cells (ba 16 fun _ => 0#8) 266)).drewN n) (fun _ i _ => 16 - (intOf i).toNat)
 case atStart =>
  refine ⟨0, by omega, rfl, 0, ?_⟩
  rw [yI]; rfl
 case round =>
  obtain ⟨k, hk, rfl, n, rfl⟩ := hrel
  by_cases hlt : k < 16
  ·have H := Lib.hid (yK k (xorF f g) f)
   go_wp2
   refine yQ 8 (by kernel_rfl) (by kernel_rfl) (fun _ _ _ _ _ h => h) ?_
   simp only [List.take_succ_cons, List.take_zero, List.drop_succ_cons, List.drop_zero]
   repeat (go_big_quiet_step (fail))
   refine wpQuiet_nil ?_
   rintro _ ⟨m, rfl⟩
   go_wp2
   go_roundw
   case rel => exact ⟨k + 1, by omega, by go_num, n + m, by rw [← H.out]; rfl⟩
   case measure => simp [intOf]; omega
  ·obtain rfl : k = 16 := by omega
   rw [yP]
   go_wp2
   refine bodyPost_ret (v := .agg (ba 16 (xorF f g))) (zS rfl _ _ (w.heap.size + 1 + 1) _ _ _ rfl (by simp [go_sem]) blk_u (by rw [zG]; exact blk_i)) rfl ⟨rfl, ?_⟩
   exact zL ((((Below.refl _ _).alloc (by simp) _).alloc (by simp) _).alloc (by simp; omega) _) _
theorem addW_any (f g : Bf) (w : World) :
  Calls Tryz.prog 290 #[.agg (ba 4 f), .agg (ba 4 g)] w fun e w' => e = .returned (.agg (ba 4 (xorF f g))) ∧ Below w.heap.size w w' := by
 go_enter Tryz.func290, Tryz.ntmps290
 go_wp2
 go_loopw [5, 6] (fun _ i wr => ∃ k : Nat, k ≤ 4 ∧ i = .int .i64 k ∧ ∃ n, wr = (((w.alloc (.cells (ba 4 (upto k (xorF f g) f)) 341)).alloc (.cells (ba 4 g) 341)).alloc (.cells (ba 4 fun _ => 0#8) 341)).drewN n) (fun _ i _ => 4 - (intOf i).toNat)
 case atStart =>
  refine ⟨0, by omega, rfl, 0, ?_⟩
  rw [yI]; rfl
 case round =>
  obtain ⟨k, hk, rfl, n, rfl⟩ := hrel
  by_cases hlt : k < 4
  ·have H := Lib.hid (yK k (xorF f g) f)
   go_wp2
   refine yQ 8 (by kernel_rfl) (by kernel_rfl) (fun _ _ _ _ _ h => h) ?_
   simp only [List.take_succ_cons, List.take_zero, List.drop_succ_cons, List.drop_zero]
   repeat (go_big_quiet_step (fail))
   refine wpQuiet_nil ?_
   rintro _ ⟨m, rfl⟩
   go_wp2
   go_roundw
   case rel => exact ⟨k + 1, by omega, by go_num, n + m, by rw [← H.out]; rfl⟩
   case measure => simp [intOf]; omega
  ·obtain rfl : k = 4 := by omega
   rw [yP]
   go_wp2
   refine bodyPost_ret (v := .agg (ba 4 (xorF f g))) (zS rfl _ _ (w.heap.size + 1 + 1) _ _ _ rfl (by simp [go_sem]) wrd_u (by rw [zG]; exact wrd_i)) rfl ⟨rfl, ?_⟩
   exact zL ((((Below.refl _ _).alloc (by simp) _).alloc (by simp) _).alloc (by simp; omega) _) _
theorem subB_any (f : Bf) (w : World) :
  Calls Tryz.prog 293 #[.agg (ba 16 f)] w fun e w' => e = .returned (.agg (ba 16 (subF f))) ∧ Below w.heap.size w w' := by
 go_enter Tryz.func293, Tryz.ntmps293
 go_wp2
 go_loopw [3, 4, 6] (fun _ _ i wr => ∃ k : Nat, k ≤ 16 ∧ i = .int .i64 k ∧ wr = ((w.alloc (.cells (ba 16 (upto k (subF f) f)) 266)).alloc (.cells (ba 16 fun _ => 0#8) 266))) (fun _ _ i _ => 16 - (intOf i).toNat)
 case atStart =>
  refine ⟨0, by omega, rfl, ?_⟩
  rw [yI]
 case round =>
  obtain ⟨k, hk, rfl, rfl⟩ := hrel
  by_cases hlt : k < 16
  ·have H := Lib.hid (yK k (subF f) f)
   go_wp2_with (go_at_call 304; ((with_reducible refine (box_any _ rfl _).mono ?_); rintro e w' ⟨rfl, rfl⟩))
   go_roundw
   case rel => exact ⟨k + 1, by omega, by go_num, by rw [← H.out]; rfl⟩
   case measure => simp [intOf]; omega
  ·obtain rfl : k = 16 := by omega
   rw [yP]
   go_wp2
   refine bodyPost_ret (v := .agg (ba 16 (subF f))) (zS rfl _ _ (w.heap.size + 1) _ _ _ rfl (by simp [go_sem]) blk_u (by rw [zG]; exact blk_i)) rfl ⟨rfl, ?_⟩
   exact ((Below.refl _ _).alloc (by simp) _).alloc (by simp) _
theorem subW_any (f : Bf) (w : World) :
  Calls Tryz.prog 287 #[.agg (ba 4 f)] w fun e w' => e = .returned (.agg (ba 4 (subF f))) ∧ Below w.heap.size w w' := by
 go_enter Tryz.func287, Tryz.ntmps287
 go_wp2
 go_loopw [3, 4, 6] (fun _ _ i wr => ∃ k : Nat, k ≤ 4 ∧ i = .int .i64 k ∧ wr = ((w.alloc (.cells (ba 4 (upto k (subF f) f)) 341)).alloc (.cells (ba 4 fun _ => 0#8) 341))) (fun _ _ i _ => 4 - (intOf i).toNat)
 case atStart =>
  refine ⟨0, by omega, rfl, ?_⟩
  rw [yI]
 case round =>
  obtain ⟨k, hk, rfl, rfl⟩ := hrel
  by_cases hlt : k < 4
  ·have H := Lib.hid (yK k (subF f) f)
   go_wp2_with (go_at_call 304; ((with_reducible refine (box_any _ rfl _).mono ?_); rintro e w' ⟨rfl, rfl⟩))
   go_roundw
   case rel => exact ⟨k + 1, by omega, by go_num, by rw [← H.out]; rfl⟩
   case measure => simp [intOf]; omega
  ·obtain rfl : k = 4 := by omega
   rw [yP]
   go_wp2
   refine bodyPost_ret (v := .agg (ba 4 (subF f))) (zS rfl _ _ (w.heap.size + 1) _ _ _ rfl (by simp [go_sem]) wrd_u (by rw [zG]; exact wrd_i)) rfl ⟨rfl, ?_⟩
   exact ((Below.refl _ _).alloc (by simp) _).alloc (by simp) _
theorem rotW_any (f : Bf) (w : World) :
  Calls Tryz.prog 288 #[.agg (ba 4 f)] w fun e w' => e = .returned (.agg (ba 4 (rotF f))) ∧ Below w.heap.size w w' := by
 go_enter Tryz.func288, Tryz.ntmps288
 go_wp2
 have e : ba 4 (upd (upd (upd (upd (fun _ => 0#8) 0 (f 1)) 1 (f 2)) 2 (f 3)) 3 (f 0)) = ba 4 (rotF f) := yT fun k hk => by
  have : k = 0 ∨ k = 1 ∨ k = 2 ∨ k = 3 := by omega
  rcases this with rfl | rfl | rfl | rfl <;> rfl
 rw [e]
 refine bodyPost_ret (v := .agg (ba 4 (rotF f))) (zS rfl _ _ (w.heap.size + 1) _ _ _ rfl (by simp [go_sem]) wrd_u (by rw [zG]; exact wrd_i)) rfl ⟨rfl, ?_⟩
 exact ((Below.refl _ _).alloc (by simp) _).alloc (by simp) _
theorem shift_at (f : Bf) (c r : Nat) (hr : r < 4) : xK f (4 * c + r) = f ((c + r) % 4 * 4 + r) := by
 unfold xK
 rw [show (4 * c + r) / 4 = c by omega, show (4 * c + r) % 4 = r by omega]
theorem shift_any (f : Bf) (w : World) :
  Calls Tryz.prog 292 #[.agg (ba 16 f)] w fun e w' => e = .returned (.agg (ba 16 (xK f))) ∧ Below w.heap.size w w' := by
 go_enter Tryz.func292, Tryz.ntmps292
 go_wp2
 go_loopw [6] (fun i wr => ∃ c : Nat, c ≤ 4 ∧ i = .int .i64 c ∧ wr = (((w.alloc (.cells (ba 16 f) 266)).alloc (.cells (ba 16 fun _ => 0#8) 266)).alloc (.cells (ba 16 (upto (4 * c) (xK f) fun _ => 0#8)) 266))) (fun i _ => 4 - (intOf i).toNat)
 case atStart =>
  refine ⟨0, by omega, rfl, ?_⟩
  rw [Nat.mul_zero, yI]
 case round =>
  obtain ⟨c, hc, rfl, rfl⟩ := hrel
  by_cases hlt : c < 4
  ·go_wp2
   go_loopw [9] (fun i wr => ∃ r : Nat, r ≤ 4 ∧ i = .int .i64 r ∧ wr = (((w.alloc (.cells (ba 16 f) 266)).alloc (.cells (ba 16 fun _ => 0#8) 266)).alloc (.cells (ba 16 (upto (4 * c + r) (xK f) fun _ => 0#8)) 266))) (fun i _ => 4 - (intOf i).toNat)
   case atStart => exact ⟨0, by omega, rfl, rfl⟩
   case round =>
    obtain ⟨r, hr, rfl, rfl⟩ := hrel
    by_cases hlr : r < 4
    ·have H := Lib.hid (yK (4 * c + r) (xK f) fun _ => 0#8)
     have H2 := Lib.hid (shift_at f c r hlr)
     have b1 : (c + r) % 4 * 4 + r < 16 := by omega
     have b2 : 4 * c + r < 16 := by omega
     go_wp2
     go_roundw
     case rel => exact ⟨r + 1, by omega, by go_num, by rw [← H2.out, H.out]; rfl⟩
     case measure => simp [intOf]; omega
    ·obtain rfl : r = 4 := by omega
     go_wp2
     go_roundw
     case rel => exact ⟨c + 1, by omega, by go_num, rfl⟩
     case measure => simp [intOf]; omega
  ·obtain rfl : c = 4 := by omega
   rw [show 4 * 4 = 16 from rfl, yP]
   go_wp2
   refine bodyPost_ret (v := .agg (ba 16 (xK f))) (zS rfl _ _ (w.heap.size + 1) _ _ _ rfl (by simp [go_sem]) blk_u (by rw [zG]; exact blk_i)) rfl ⟨rfl, ?_⟩
   exact (((Below.refl _ _).alloc (by simp) _).alloc (by simp) _).alloc (by simp; omega) _
theorem mix_at (f : Bf) (c r : Nat) (hr : r < 4) : mixF f (4 * c + r) =
  (mul (f (4 * c + r)) 2#8 ^^^ mul (f (4 * c + (r + 1) % 4)) 3#8) ^^^ (f (4 * c + (r + 2) % 4) ^^^ f (4 * c + (r + 3) % 4)) := by
 unfold mixF
 rw [show (4 * c + r) / 4 = c by omega, show (4 * c + r) % 4 = r by omega]
theorem mix_any (f : Bf) (w : World) :
  Calls Tryz.prog 294 #[.agg (ba 16 f)] w fun e w' => e = .returned (.agg (ba 16 (mixF f))) ∧ Below w.heap.size w w' := by
 go_enter Tryz.func294, Tryz.ntmps294
 go_wp2
 go_loopw [9] (fun i wr => ∃ c : Nat, c ≤ 4 ∧ i = .int .i64 c ∧ ∃ n, wr = (((w.alloc (.cells (ba 16 f) 266)).alloc (.cells (ba 16 fun _ => 0#8) 266)).alloc (.cells (ba 16 (upto (4 * c) (mixF f) fun _ => 0#8)) 266)).drewN n) (fun i _ => 4 - (intOf i).toNat)
 case atStart =>
  refine ⟨0, by omega, rfl, 0, ?_⟩
  rw [Nat.mul_zero, yI]; rfl
 case round =>
  obtain ⟨c, hc, rfl, n, rfl⟩ := hrel
  by_cases hlt : c < 4
  ·have hd : decide ((c : Int) < 4) = true := by simp; omega
   go_wp2
   go_loopw [12] (fun i wr => ∃ r : Nat, r ≤ 4 ∧ i = .int .i64 r ∧ ∃ n, wr = (((w.alloc (.cells (ba 16 f) 266)).alloc (.cells (ba 16 fun _ => 0#8) 266)).alloc (.cells (ba 16 (upto (4 * c + r) (mixF f) fun _ => 0#8)) 266)).drewN n) (fun i _ => 4 - (intOf i).toNat)
   case atStart => exact ⟨0, by omega, rfl, n, rfl⟩
   case round =>
    obtain ⟨r, hr, rfl, m, rfl⟩ := hrel
    by_cases hlr : r < 4
    ·have H := Lib.hid (yK (4 * c + r) (mixF f) fun _ => 0#8)
     have H2 := Lib.hid (mix_at f c r hlr)
     have b0 : 4 * c + r < 16 := by omega
     have b1 : 4 * c + (r + 1) % 4 < 16 := by omega
     have b2 : 4 * c + (r + 2) % 4 < 16 := by omega
     have b3 : 4 * c + (r + 3) % 4 < 16 := by omega
     go_wp2
     go_quiet (fail)
     go_wp2
     go_quiet (fail)
     go_wp2_with fail
     refine (mul_any (f (4 * c + r)) 2#8 rfl rfl _).mono ?_
     rintro e w' ⟨rfl, rfl⟩
     go_wp2_with fail
     refine (mul_any (f (4 * c + (r + 1) % 4)) 3#8 rfl rfl _).mono ?_
     rintro e w' ⟨rfl, rfl⟩
     go_wp2
     go_roundw
     case rel => exact ⟨r + 1, by omega, by go_num, _, by rw [← H2.out, H.out]; rfl⟩
     case measure => simp [intOf]; omega
    ·obtain rfl : r = 4 := by omega
     go_wp2
     go_roundw
     case rel => exact ⟨c + 1, by omega, by go_num, m, rfl⟩
     case measure => simp [intOf]; omega
  ·obtain rfl : c = 4 := by omega
   rw [show 4 * 4 = 16 from rfl, yP]
   go_wp2
   refine bodyPost_ret (v := .agg (ba 16 (mixF f))) (zS rfl _ _ (w.heap.size + 1) _ _ _ rfl (by simp [go_sem]) blk_u (by rw [zG]; exact blk_i)) rfl ⟨rfl, ?_⟩
   exact zL ((((Below.refl _ _).alloc (by simp) _).alloc (by simp) _).alloc (by simp; omega) _) _
structure BoInv (w : World) (f : Bf) (k : Nat) (wr : World) : Prop where
 below : Below w.heap.size w wr
 size : w.heap.size + 3 ≤ wr.heap.size
 res : row wr (w.heap.size + 1) = some (ba 240 fun _ => 0#8)
 out : row wr (w.heap.size + 1 + 1) = some (ba 240 (upto k f fun _ => 0#8))
theorem BoInv.set {w : World} {f : Bf} {c r o : Nat} {wr : World} (h1 : Below w.heap.size w wr) (h2 : w.heap.size + 3 ≤ wr.heap.size) (h3 : row wr (w.heap.size + 1) = some (ba 240 fun _ => 0#8))
  (h4 : row wr (w.heap.size + 1 + 1) = some (ba 240 (upto (4 * c + r) f fun _ => 0#8))) (ho : o = 4 * c + r) :
  BoInv w f (4 * c + (r + 1)) (wr.setCell ⟨w.heap.size + 1 + 1, o, none⟩ (.int .u8 (I (offF f (c * 4) r)))) := by
 subst ho
 refine ⟨h1.setCell (by simp; omega) _, by simpa using h2, by rw [zU _ _ _ _ (by simp)]; exact h3, ?_⟩
 rw [row_setCell h4, show offF f (c * 4) r = f (4 * c + r) by unfold offF; rw [Nat.mul_comm], yK]
 rfl
theorem blocksOf_any (f : Bf) (w : World) :
  Calls Tryz.prog 291 #[.agg (ba 240 f)] w fun e w' => e = .returned (.agg (ba 240 f)) ∧ Below w.heap.size w w' := by
 go_enter Tryz.func291, Tryz.ntmps291
 go_wp2
 go_loopw [9] (fun i wr => ∃ c : Nat, c ≤ 60 ∧ i = .int .i64 c ∧ BoInv w f (4 * c) wr) (fun i _ => 60 - (intOf i).toNat)
 case atStart =>
  refine ⟨0, by omega, rfl, ((((Below.refl _ _).alloc (by simp) _).alloc (by simp) _).alloc (by simp; omega) _), by simp, ?_, ?_⟩
  ·simp [go_sem]
  ·rw [Nat.mul_zero, yI]; simp [go_sem]
 case round =>
  obtain ⟨c, hc, rfl, hI⟩ := hrel
  by_cases hlt : c < 60
  ·have hd : decide ((c : Int) < 60) = true := by simp; omega
   go_wp2
   have hI0 : BoInv w f (4 * c + 0) (wr.alloc (.cells (ba 4 (offF f (c * 4))) 341)) :=
    ⟨hI.below.alloc (by have := hI.size; omega) _, by have := hI.size; simp; omega, zI hI.res _, zI hI.out _⟩
   go_loopw [6, 7, 14] (fun _ _ j wq => ∃ r : Nat, r ≤ 4 ∧ j = .int .i64 r ∧ BoInv w f (4 * c + r) wq) (fun _ _ j _ => 4 - (intOf j).toNat)
   case atStart => exact ⟨0, by omega, rfl, hI0⟩
   case round =>
    clear hI0 hI
    obtain ⟨r, hr, rfl, hI⟩ := hrel
    by_cases hlr : r < 4
    ·obtain ⟨hb, hs, h1, h2⟩ := hI
     have H1 := Lib.hid h1
     have H2 := Lib.hid h2
     have HB := Lib.hid hb
     have hc := zF h2
     have hf := zW h2
     clear h1 h2 hb
     have b1 : c / 4 * 16 + (c % 4 * 4 + r) < 240 := by omega
     have e1 : c / 4 * 16 + (c % 4 * 4 + r) = 4 * c + r := by omega
     have E1 := Lib.hid e1
     clear e1
     go_wp2
     go_roundw
     case rel => exact ⟨r + 1, by omega, by go_num, BoInv.set HB.out hs H1.out H2.out E1.out⟩
     case measure => simp [intOf]; omega
    ·obtain rfl : r = 4 := by omega
     go_wp2
     go_roundw
     case rel => exact ⟨c + 1, by omega, by go_num, hI⟩
     case measure => simp [intOf]; omega
  ·obtain rfl : c = 60 := by omega
   obtain ⟨hb, hs, h1, h2⟩ := hI
   rw [show 4 * 60 = 240 from rfl, yP] at h2
   have HB := Lib.hid hb
   clear hb
   go_wp2
   refine bodyPost_ret (v := .agg (ba 240 f)) (zS rfl _ _ (w.heap.size + 1) _ _ _ rfl (zD h1 _) bks_u (by rw [zG]; exact bks_i)) rfl ⟨rfl, ?_⟩
   exact zE HB.out (by omega) _
structure RdInv (w : World) (s k : Bf) (wr : World) : Prop where
 below : Below w.heap.size w wr
 size : w.heap.size + 3 ≤ wr.heap.size
 r0 : row wr w.heap.size = some (ba 16 s)
 r1 : row wr (w.heap.size + 1) = some (ba 16 k)
 r2 : row wr (w.heap.size + 1 + 1) = some (ba 16 fun _ => 0#8)
theorem RdInv.start (w : World) (s k : Bf) (t : TypeId) : RdInv w s k (((w.alloc (.cells (ba 16 s) t)).alloc (.cells (ba 16 k) t)).alloc (.cells (ba 16 fun _ => 0#8) t)) :=
 ⟨(((Below.refl _ _).alloc (by simp) _).alloc (by simp) _).alloc (by simp; omega) _, by simp, by simp [go_sem], by simp [go_sem], by simp [go_sem]⟩
theorem RdInv.call {w : World} {s k : Bf} {wr w' : World} (h : RdInv w s k wr) (hb : Below wr.heap.size wr w') : RdInv w s k w' :=
 ⟨onto h.below (by have := h.size; omega) hb, Nat.le_trans h.size hb.size, zC hb h.r0, zC hb h.r1, zC hb h.r2⟩
theorem RdInv.put {w : World} {s k : Bf} {wr : World} (h : RdInv w s k wr) (s' : Bf) : RdInv w s' k (wr.setRow w.heap.size (ba 16 s')) :=
 ⟨zE h.below (by omega) _, by simpa using h.size, zD h.r0 _, by rw [zB _ _ _ _ (by omega)]; exact h.r1, by rw [zB _ _ _ _ (by omega)]; exact h.r2⟩
theorem round_any (s k : Bf) (last : Bool) (w : World) :
  Calls Tryz.prog 276 #[.agg (ba 16 s), .agg (ba 16 k), .bool last] w fun e w' => e = .returned (.agg (ba 16 (rndF s k last))) ∧ Below w.heap.size w w' := by
 have I0 := Lib.hid (RdInv.start w s k 266)
 cases last
 ·go_enter Tryz.func276, Tryz.ntmps276
  go_wp2_with fail
  refine (subB_any s _).mono ?_
  rintro e w1 ⟨rfl, hb1⟩
  have I1 := Lib.hid (I0.out.call hb1)
  clear hb1 I0
  go_wp2_with fail
  refine (shift_any (subF s) _).mono ?_
  rintro e w2 ⟨rfl, hb2⟩
  have I2 := I1.out.call hb2
  have r0 := I2.r0
  have I3 := Lib.hid (I2.put (xK (subF s)))
  have r00 := I3.out.r0
  clear hb2 I1 I2
  go_wp2_with fail
  refine (mix_any (xK (subF s)) _).mono ?_
  rintro e w3 ⟨rfl, hb3⟩
  have I4 := I3.out.call hb3
  clear r0 r00 hb3 I3
  have r0 := I4.r0
  have I5 := I4.put (mixF (xK (subF s)))
  have r00 := I5.r0
  have r01 := I5.r1
  have I6 := Lib.hid I5
  clear I4 I5
  go_wp2_with fail
  refine (addB_any (mixF (xK (subF s))) k _).mono ?_
  rintro e w4 ⟨rfl, hb4⟩
  have I7 := I6.out.call hb4
  clear r0 r00 r01 hb4 I6
  have r2 := I7.r2
  have hB := Lib.hid I7.below
  clear I7
  go_wp2_with fail
  refine bodyPost_ret (v := .agg (ba 16 (rndF s k false))) (zS rfl _ _ (w.heap.size + 1 + 1) _ _ _ rfl (zD r2 _) blk_u (by rw [zG]; exact blk_i)) rfl ⟨rfl, ?_⟩
  exact zE hB.out (by omega) _
 ·go_enter Tryz.func276, Tryz.ntmps276
  go_wp2_with fail
  refine (subB_any s _).mono ?_
  rintro e w1 ⟨rfl, hb1⟩
  have I1 := Lib.hid (I0.out.call hb1)
  clear hb1 I0
  go_wp2_with fail
  refine (shift_any (subF s) _).mono ?_
  rintro e w2 ⟨rfl, hb2⟩
  have I2 := I1.out.call hb2
  have r0 := I2.r0
  have I3 := I2.put (xK (subF s))
  have r00 := I3.r0
  have r01 := I3.r1
  have I6 := Lib.hid I3
  clear hb2 I1 I2 I3
  go_wp2_with fail
  refine (addB_any (xK (subF s)) k _).mono ?_
  rintro e w4 ⟨rfl, hb4⟩
  have I7 := I6.out.call hb4
  clear r0 r00 r01 hb4 I6
  have r2 := I7.r2
  have hB := Lib.hid I7.below
  clear I7
  go_wp2_with fail
  refine bodyPost_ret (v := .agg (ba 16 (rndF s k true))) (zS rfl _ _ (w.heap.size + 1 + 1) _ _ _ rfl (zD r2 _) blk_u (by rw [zG]; exact blk_i)) rfl ⟨rfl, ?_⟩
  exact zE hB.out (by omega) _
structure AExInv (w : World) (k : Bf) (m : Nat) (wr : World) : Prop where
 below : Below w.heap.size w wr
 size : w.heap.size + 3 ≤ wr.heap.size
 r1 : row wr (w.heap.size + 1) = some (ba 240 fun _ => 0#8)
 r2 : row wr (w.heap.size + 1 + 1) = some (ba 240 (upto (4 * m) (axpF k) fun _ => 0#8))
structure ExT (w : World) (k : Bf) (m b : Nat) (t : Bf) (wr : World) : Prop where
 inv : AExInv w k m wr
 hb : w.heap.size + 3 ≤ b
 rt : row wr b = some (ba 4 t)
theorem ExT.start {w : World} {k : Bf} {m : Nat} {wr : World} (h : AExInv w k m wr) (t : Bf) (ty : TypeId) : ExT w k m wr.heap.size t (wr.alloc (.cells (ba 4 t) ty)) :=
 ⟨⟨h.below.alloc (by have := h.size; omega) _, by have := h.size; simp; omega, zI h.r1 _, zI h.r2 _⟩, h.size, by simp [go_sem]⟩
theorem AExInv.call {w : World} {k : Bf} {m : Nat} {wr w' : World} (h : AExInv w k m wr) (hb : Below wr.heap.size wr w') : AExInv w k m w' :=
 ⟨onto h.below (by have := h.size; omega) hb, Nat.le_trans h.size hb.size, zC hb h.r1, zC hb h.r2⟩
theorem ExT.call {w : World} {k : Bf} {m b : Nat} {t : Bf} {wr w' : World} (h : ExT w k m b t wr) (hb : Below wr.heap.size wr w') : ExT w k m b t w' := ⟨h.inv.call hb, h.hb, zC hb h.rt⟩
theorem ExT.drewN {w : World} {k : Bf} {m b : Nat} {t : Bf} {wr : World} (h : ExT w k m b t wr) (n : Nat) : ExT w k m b t (wr.drewN n) :=
 ⟨⟨zL h.inv.below n, h.inv.size, by rw [zQ]; exact h.inv.r1, by rw [zQ]; exact h.inv.r2⟩, h.hb, by rw [zQ]; exact h.rt⟩
theorem ExT.put {w : World} {k : Bf} {m b : Nat} {t : Bf} {wr : World} (h : ExT w k m b t wr) (t' : Bf) : ExT w k m b t' (wr.setRow b (ba 4 t')) :=
 ⟨⟨zE h.inv.below (by have := h.hb; omega) _, by simpa using h.inv.size, by rw [zB _ _ _ _ (by have := h.hb; omega)]; exact h.inv.r1, by rw [zB _ _ _ _ (by have := h.hb; omega)]; exact h.inv.r2⟩, h.hb, zD h.rt _⟩
theorem ExT.done {w : World} {k : Bf} {m b : Nat} {t : Bf} {wr : World} (h : ExT w k m b t wr) (g : Bf) (hg : ∀ j, j < 4 → g j = axpF k (4 * m + j)) :
  AExInv w k (m + 1) (wr.setRow (w.heap.size + 1 + 1) (ba 240 (putF (upto (4 * m) (axpF k) fun _ => 0#8) (m * 4) 4 g))) := by
 refine ⟨zE h.inv.below (by omega) _, by simpa using h.inv.size, by rw [zB _ _ _ _ (by omega)]; exact h.inv.r1, ?_⟩
 rw [zD h.inv.r2]
 refine congrArg some (yT fun p hp => ?_)
 unfold putF upto
 by_cases h1 : m * 4 ≤ p ∧ p < m * 4 + 4
 ·rw [if_pos h1, if_pos (by omega), hg _ (by omega)]
  congr 1; omega
 ·rw [if_neg h1]
  by_cases h2 : p < 4 * m
  ·rw [if_pos h2, if_pos (by omega)]
  ·rw [if_neg h2, if_neg (by omega)]
theorem ahead (k : Bf) (m d j : Nat) (hd : 1 ≤ d) (hdm : d ≤ m) (hj : j < 4) : offF (upto (4 * m) (axpF k) fun _ => 0#8) ((m - d) * 4) j = axpF k (4 * (m - d) + j) := by
 unfold offF upto
 rw [if_pos (by omega), Nat.mul_comm]
theorem word0 (k : Bf) (m : Nat) (h8 : 8 ≤ m) (hm : m < 60) (h0 : m % 8 = 0) (j : Nat) (hj : j < 4) :
  xorF (offF (upto (4 * m) (axpF k) fun _ => 0#8) ((m - 8) * 4)) (upd (subF (rotF (offF (upto (4 * m) (axpF k) fun _ => 0#8) ((m - 1) * 4)))) 0 (subF (rotF (offF (upto (4 * m) (axpF k) fun _ => 0#8) ((m - 1) * 4))) 0 ^^^ pwr ((m - 1) / 8))) j = axpF k (4 * m + j) := by
 rw [exp_rec k m j h8 hm hj]
 unfold newW xorF
 rw [if_pos h0, ahead k m 8 j (by omega) (by omega) hj]
 congr 1
 by_cases hj0 : j = 0
 ·subst hj0
  simp only [upd, if_true, subF, rotF]
  rw [ahead k m 1 _ (by omega) (by omega) (by omega), show m / 8 - 1 = (m - 1) / 8 by omega]
 ·simp only [upd, hj0, if_false, subF, rotF]
  rw [ahead k m 1 _ (by omega) (by omega) (by omega), BitVec.xor_zero]
theorem word4 (k : Bf) (m : Nat) (h8 : 8 ≤ m) (hm : m < 60) (h0 : ¬ m % 8 = 0) (h4 : m % 8 = 4) (j : Nat) (hj : j < 4) :
  xorF (offF (upto (4 * m) (axpF k) fun _ => 0#8) ((m - 8) * 4)) (subF (offF (upto (4 * m) (axpF k) fun _ => 0#8) ((m - 1) * 4))) j = axpF k (4 * m + j) := by
 rw [exp_rec k m j h8 hm hj]
 unfold newW xorF
 rw [if_neg h0, if_pos h4, ahead k m 8 j (by omega) (by omega) hj]
 simp only [subF]
 rw [ahead k m 1 _ (by omega) (by omega) (by omega)]
theorem word1 (k : Bf) (m : Nat) (h8 : 8 ≤ m) (hm : m < 60) (h0 : ¬ m % 8 = 0) (h4 : ¬ m % 8 = 4) (j : Nat) (hj : j < 4) :
  xorF (offF (upto (4 * m) (axpF k) fun _ => 0#8) ((m - 8) * 4)) (offF (upto (4 * m) (axpF k) fun _ => 0#8) ((m - 1) * 4)) j = axpF k (4 * m + j) := by
 rw [exp_rec k m j h8 hm hj]
 unfold newW xorF
 rw [if_neg h0, if_neg h4, ahead k m 8 j (by omega) (by omega) hj, ahead k m 1 _ (by omega) (by omega) (by omega)]
theorem expand_any (k : Bf) (w : World) :
  Calls Tryz.prog 274 #[.agg (ba 32 k)] w fun e w' => e = .returned (.agg (ba 240 (axpF k))) ∧ Below w.heap.size w w' := by
 go_enter Tryz.func274, Tryz.ntmps274
 go_wp2
 go_loopw [4, 5, 10] (fun _ _ i wr => ∃ c : Nat, c ≤ 32 ∧ i = .int .i64 c ∧ wr = ((w.alloc (.cells (ba 32 k) 61)).alloc (.cells (ba 240 fun _ => 0#8) 291)).alloc (.cells (ba 240 (upto c (axpF k) fun _ => 0#8)) 342)) (fun _ _ i _ => 32 - (intOf i).toNat)
 case atStart =>
  refine ⟨0, by omega, rfl, ?_⟩
  rw [yI]
 case round =>
  obtain ⟨c, hc, rfl, rfl⟩ := hrel
  by_cases hlt : c < 32
  ·have H := Lib.hid (yK c (axpF k) fun _ => 0#8)
   have H2 := Lib.hid (exp_key k c hlt)
   have b1 : c / 4 * 4 + c % 4 < 240 := by omega
   have E1 := Lib.hid (show c / 4 * 4 + c % 4 = c by omega)
   go_wp2
   go_roundw
   case rel => exact ⟨c + 1, by omega, by go_num, by rw [E1.out, ← H2.out, H.out]⟩
   case measure => simp [intOf]; omega
  ·obtain rfl : c = 32 := by omega
   rw [show ((32 : Nat) : Int) = 32 from rfl]
   have hd32 : decide ((32 : Int) < 32) = false := by decide
   go_wp2
   clear hd32
   go_loopw [6, 7] (fun p i wr => ∃ m : Nat, 8 ≤ m ∧ m ≤ 60 ∧ i = .int .i64 m ∧ p = .int .u8 (I (pwr ((m - 1) / 8))) ∧ AExInv w k m wr) (fun _ i _ => 60 - (intOf i).toNat)
   case atStart =>
    exact ⟨8, by omega, by omega, rfl, rfl, (((Below.refl _ _).alloc (by simp) _).alloc (by simp) _).alloc (by simp; omega) _, by simp, by simp [go_sem], by simp [go_sem]⟩
   case round =>
    obtain ⟨m, h8, hm, rfl, rfl, hI⟩ := hrel
    by_cases hlt : m < 60
    ·have b1 : (m - 1) * 4 + 4 ≤ 240 := by omega
     have b8 : (m - 8) * 4 + 4 ≤ 240 := by omega
     have b0 : m * 4 + 4 ≤ 240 := by omega
     obtain ⟨G, hG⟩ : ∃ G, G = upto (4 * m) (axpF k) fun _ => 0#8 := ⟨_, rfl⟩
     have r2 := hI.r2
     rw [← hG] at r2
     have HI := Lib.hid hI
     have HG := Lib.hid hG
     clear hG hI
     by_cases hm0 : m % 8 = 0
     ·have hd : ((m : Int) % 8 == 0) = true := by simp; omega
      have hpw : t2 (pwr ((m - 1) / 8)) = pwr ((m + 1 - 1) / 8) := by rw [show (m + 1 - 1) / 8 = (m - 1) / 8 + 1 by omega]; rfl
      have HP := Lib.hid hpw
      have HW := Lib.hid (word0 k m h8 hlt hm0)
      clear hpw
      go_wp2_with fail
      have T0 := Lib.hid (ExT.start HI.out (offF G ((m - 1) * 4)) 341)
      refine (rotW_any (offF G ((m - 1) * 4)) _).mono ?_
      rintro e w1 ⟨rfl, hb1⟩
      have T1 := Lib.hid (T0.out.call hb1)
      clear r2 hb1 T0
      go_wp2_with fail
      refine (subW_any (rotF (offF G ((m - 1) * 4))) _).mono ?_
      rintro e w2 ⟨rfl, hb2⟩
      have T2 := T1.out.call hb2
      clear hb2 T1
      have rt := T2.rt
      have T3 := T2.put (subF (rotF (offF G ((m - 1) * 4))))
      have hc := zF T3.rt
      have hf := zW T3.rt
      have H2 := Lib.hid T2
      have H3 := Lib.hid T3
      clear T2 T3
      go_wp2_with fail
      rw [zP H3.out.rt, ba_set]
      refine (t2_any (pwr ((m - 1) / 8)) rfl _).mono ?_
      rintro e w' ⟨rfl, rfl⟩
      have T4 := H3.out.put (upd (subF (rotF (offF G ((m - 1) * 4)))) 0 (subF (rotF (offF G ((m - 1) * 4))) 0 ^^^ pwr ((m - 1) / 8)))
      clear hc hf rt H2
      have rt := T4.rt
      have r2 := T4.inv.r2
      rw [← HG.out] at r2
      have H4 := Lib.hid T4
      clear T4
      go_wp2_with fail
      generalize (w2.setRow wr.heap.size (ba 4 (subF (rotF (offF G ((m - 1) * 4)))))).setRow wr.heap.size (ba 4 (upd (subF (rotF (offF G ((m - 1) * 4)))) 0 (subF (rotF (offF G ((m - 1) * 4))) 0 ^^^ pwr ((m - 1) / 8)))) = w4 at H4 rt r2 ⊢
      obtain ⟨q, hq⟩ : ∃ q, q = upd (subF (rotF (offF G ((m - 1) * 4)))) 0 (subF (rotF (offF G ((m - 1) * 4))) 0 ^^^ pwr ((m - 1) / 8)) := ⟨_, rfl⟩
      have HQ := Lib.hid hq
      rw [← hq] at rt H4
      clear hq
      refine quiet_tail' 1 6 (by kernel_rfl) (by kernel_rfl) (fun _ _ _ _ _ h => h) ?_
      simp only [List.take_succ_cons, List.take_zero, List.drop_succ_cons, List.drop_zero]
      repeat (go_big_quiet_step (fail))
      refine wpQuiet_nil ?_
      rintro _ ⟨nq, rfl⟩
      go_wp2_with fail
      refine (addW_any (offF G ((m - 8) * 4)) q _).mono ?_
      rintro e w5 ⟨rfl, hb5⟩
      have T6 := (H4.out.drewN nq).call hb5
      clear hb5 rt r2 H4
      have r2 := T6.inv.r2
      rw [← HG.out] at r2
      have T7 := T6.done (xorF (offF G ((m - 8) * 4)) q) (by rw [HQ.out, HG.out]; exact HW.out)
      rw [← HG.out] at T7
      have H7 := Lib.hid T7
      clear T6 T7
      go_wp2
      go_roundw
      case rel => exact ⟨m + 1, by omega, by omega, by go_num, by rw [HP.out], H7.out⟩
      case measure => simp [intOf]; omega
     ·have hpw : pwr ((m - 1) / 8) = pwr ((m + 1 - 1) / 8) := by rw [show (m + 1 - 1) / 8 = (m - 1) / 8 by omega]
      have HP := Lib.hid hpw
      clear hpw
      have hd : ((m : Int) % 8 == 0) = false := by simp; omega
      by_cases hm4 : m % 8 = 4
      ·have hd4 : ((m : Int) % 8 == 4) = true := by simp; omega
       have HW := Lib.hid (word4 k m h8 hlt hm0 hm4)
       go_wp2_with fail
       have T0 := Lib.hid (ExT.start HI.out (offF G ((m - 1) * 4)) 341)
       refine (subW_any (offF G ((m - 1) * 4)) _).mono ?_
       rintro e w2 ⟨rfl, hb2⟩
       have T2 := T0.out.call hb2
       clear hb2 T0 r2
       have rt0 := T2.rt
       have T4 := T2.put (subF (offF G ((m - 1) * 4)))
       clear T2
       have rt := T4.rt
       have r2 := T4.inv.r2
       rw [← HG.out] at r2
       have H4 := Lib.hid T4
       clear T4
       go_wp2_with fail
       clear rt0
       generalize w2.setRow wr.heap.size (ba 4 (subF (offF G ((m - 1) * 4)))) = w4 at H4 rt r2 ⊢
       obtain ⟨q, hq⟩ : ∃ q, q = subF (offF G ((m - 1) * 4)) := ⟨_, rfl⟩
       have HQ := Lib.hid hq
       rw [← hq] at rt H4
       clear hq
       refine quiet_tail' 1 6 (by kernel_rfl) (by kernel_rfl) (fun _ _ _ _ _ h => h) ?_
       simp only [List.take_succ_cons, List.take_zero, List.drop_succ_cons, List.drop_zero]
       repeat (go_big_quiet_step (fail))
       refine wpQuiet_nil ?_
       rintro _ ⟨nq, rfl⟩
       go_wp2_with fail
       refine (addW_any (offF G ((m - 8) * 4)) q _).mono ?_
       rintro e w5 ⟨rfl, hb5⟩
       have T6 := (H4.out.drewN nq).call hb5
       clear hb5 rt r2 H4
       have r2 := T6.inv.r2
       rw [← HG.out] at r2
       have T7 := T6.done (xorF (offF G ((m - 8) * 4)) q) (by rw [HQ.out, HG.out]; exact HW.out)
       rw [← HG.out] at T7
       have H7 := Lib.hid T7
       clear T6 T7
       go_wp2
       go_roundw
       case rel => exact ⟨m + 1, by omega, by omega, by go_num, by rw [HP.out], H7.out⟩
       case measure => simp [intOf]; omega
      ·have hd4 : ((m : Int) % 8 == 4) = false := by simp; omega
       have HW := Lib.hid (word1 k m h8 hlt hm0 hm4)
       go_wp2_with fail
       have T4 := ExT.start HI.out (offF G ((m - 1) * 4)) 341
       have rt := T4.rt
       have H4 := Lib.hid T4
       have r20 := T4.inv.r2
       rw [← HG.out] at r20
       clear T4 r2
       have r2 := r20
       clear r20
       generalize wr.alloc (.cells (ba 4 (offF G ((m - 1) * 4))) 341) = w4 at H4 rt r2 ⊢
       obtain ⟨q, hq⟩ : ∃ q, q = offF G ((m - 1) * 4) := ⟨_, rfl⟩
       have HQ := Lib.hid hq
       rw [← hq] at rt H4
       clear hq
       refine quiet_tail' 1 6 (by kernel_rfl) (by kernel_rfl) (fun _ _ _ _ _ h => h) ?_
       simp only [List.take_succ_cons, List.take_zero, List.drop_succ_cons, List.drop_zero]
       repeat (go_big_quiet_step (fail))
       refine wpQuiet_nil ?_
       rintro _ ⟨nq, rfl⟩
       go_wp2_with fail
       refine (addW_any (offF G ((m - 8) * 4)) q _).mono ?_
       rintro e w5 ⟨rfl, hb5⟩
       have T6 := (H4.out.drewN nq).call hb5
       clear hb5 rt r2 H4
       have r2 := T6.inv.r2
       rw [← HG.out] at r2
       have T7 := T6.done (xorF (offF G ((m - 8) * 4)) q) (by rw [HQ.out, HG.out]; exact HW.out)
       rw [← HG.out] at T7
       have H7 := Lib.hid T7
       clear T6 T7
       go_wp2
       go_roundw
       case rel => exact ⟨m + 1, by omega, by omega, by go_num, by rw [HP.out], H7.out⟩
       case measure => simp [intOf]; omega
    ·obtain rfl : m = 60 := by omega
     obtain ⟨hb, hs, r1, r2⟩ := hI
     rw [show 4 * 60 = 240 from rfl, yP] at r2
     have HB := Lib.hid hb
     have H1 := Lib.hid r1
     clear hb r1
     go_wp2_with fail
     refine (blocksOf_any (axpF k) _).mono ?_
     rintro e w5 ⟨rfl, hb5⟩
     have hb := Lib.hid (onto HB.out (by omega) hb5)
     have r1 := zC hb5 H1.out
     clear hb5 r2
     go_wp2
     refine bodyPost_ret (v := .agg (ba 240 (axpF k))) (zS rfl _ _ (w.heap.size + 1) _ _ _ rfl (zD r1 _) bks_u (by rw [zG]; exact bks_i)) rfl ⟨rfl, ?_⟩
     exact zE hb.out (by omega) _
structure EnInv (w : World) (k : Bf) (p q : Nat) (s : Bf) (wr : World) : Prop where
 below : Below w.heap.size w wr
 hp : w.heap.size + 3 ≤ p
 hq : p < q
 r2 : row wr (w.heap.size + 1 + 1) = some (ba 16 fun _ => 0#8)
 rp : row wr p = some (ba 240 (axpF k))
 rq : row wr q = some (ba 16 s)
theorem EnInv.size {w : World} {k : Bf} {p q : Nat} {s : Bf} {wr : World} (h : EnInv w k p q s wr) : w.heap.size + 5 ≤ wr.heap.size := by
 have := zK h.rq; have := h.hp; have := h.hq; omega
theorem EnInv.call {w : World} {k : Bf} {p q : Nat} {s : Bf} {wr w' : World} (h : EnInv w k p q s wr) (hb : Below wr.heap.size wr w') : EnInv w k p q s w' :=
 ⟨onto h.below (by have := h.size; omega) hb, h.hp, h.hq, zC hb h.r2, zC hb h.rp, zC hb h.rq⟩
theorem EnInv.drewN {w : World} {k : Bf} {p q : Nat} {s : Bf} {wr : World} (h : EnInv w k p q s wr) (n : Nat) : EnInv w k p q s (wr.drewN n) :=
 ⟨zL h.below n, h.hp, h.hq, by rw [zQ]; exact h.r2, by rw [zQ]; exact h.rp, by rw [zQ]; exact h.rq⟩
theorem EnInv.put {w : World} {k : Bf} {p q : Nat} {s : Bf} {wr : World} (h : EnInv w k p q s wr) (s' : Bf) : EnInv w k p q s' (wr.setRow q (ba 16 s')) := by
 have hp := h.hp; have hq := h.hq
 exact ⟨zE h.below (by omega) _, hp, hq, by rw [zB _ _ _ _ (by omega)]; exact h.r2, by rw [zB _ _ _ _ (by omega)]; exact h.rp, zD h.rq _⟩
theorem encrypt_any (k b : Bf) (w : World) :
  Calls Tryz.prog 247 #[.agg (ba 32 k), .agg (ba 16 b)] w fun e w' => e = .returned (.agg (ba 16 (aenF k b))) ∧ Below w.heap.size w w' := by
 have B0 := Lib.hid ((((Below.refl w.heap.size w).alloc (by simp) (.cells (ba 32 k) 61)).alloc (by simp) (.cells (ba 16 b) 266)).alloc (by simp; omega) (.cells (ba 16 fun _ => 0#8) 266))
 go_enter Tryz.func247, Tryz.ntmps247
 go_wp2_with fail
 refine (expand_any k _).mono ?_
 rintro e w1 ⟨rfl, hb1⟩
 have r1 := zC hb1 (b := w.heap.size + 1) (c := ba 16 b) (by simp [go_sem])
 have r2 := zC hb1 (b := w.heap.size + 1 + 1) (c := ba 16 fun _ => 0#8) (by simp [go_sem])
 have s1 : w.heap.size + 3 ≤ w1.heap.size := by have := hb1.size; simp at this; omega
 have B1 := Lib.hid (onto B0.out (by simp; omega) hb1)
 clear hb1 B0
 have s11 : w.heap.size + 1 < w1.heap.size := by omega
 have s12 : w.heap.size + 1 + 1 < w1.heap.size := by omega
 go_wp2_with fail
 refine (addB_any b (axpF k) _).mono ?_
 rintro e w3 ⟨rfl, hb3⟩
 have B3 := Lib.hid (onto (B1.out.alloc (by omega) _) (by simp; omega) hb3)
 have rp := zC hb3 (b := w1.heap.size) (c := ba 240 (axpF k)) (by simp [go_sem])
 have r23 := zC hb3 (zI r2 _)
 have s3 : w1.heap.size < w3.heap.size := by have := hb3.size; simp at this; omega
 clear hb3 r1 r2
 have I0 : EnInv w k w1.heap.size w3.heap.size (stF k b 0) (w3.alloc (.cells (ba 16 (xorF b (axpF k))) 266)) :=
  ⟨B3.out.alloc (by omega) _, by omega, by omega, zI r23 _, zI rp _, by simp [go_sem]; rfl⟩
 have H0 := Lib.hid I0
 clear I0 r23 rp
 go_wp2_with fail
 go_loopw [7, 14] (fun _ i wr => ∃ n : Nat, n ≤ 14 ∧ i = .int .i64 n ∧ EnInv w k w1.heap.size w3.heap.size (stF k b n) wr) (fun _ i _ => 14 - (intOf i).toNat)
 case atStart => exact ⟨0, by omega, rfl, H0.out⟩
 case round =>
  obtain ⟨n, hn, rfl, hI⟩ := hrel
  have rp := hI.rp
  have rq := hI.rq
  have r2 := hI.r2
  have HI := Lib.hid hI
  clear hI
  by_cases hlt : n < 14
  ·have b1 : (n + 1) * 16 + 16 ≤ 240 := by omega
   have ht : ((n : Int) == 13) = (n == 13) := by
    rw [Bool.eq_iff_iff]; simp; omega
   clear r2
   go_wp2_with fail
   refine yQ 7 (by kernel_rfl) (by kernel_rfl) (fun _ _ _ _ _ h => h) ?_
   simp only [List.take_succ_cons, List.take_zero, List.drop_succ_cons, List.drop_zero]
   repeat (go_big_quiet_step (fail))
   refine wpQuiet_nil ?_
   rintro _ ⟨nq, rfl⟩
   go_wp2_with fail
   refine (round_any (stF k b n) (offF (axpF k) ((n + 1) * 16)) (n == 13) _).mono ?_
   rintro e w5 ⟨rfl, hb5⟩
   have I5 := (HI.out.drewN nq).call hb5
   have rq5 := I5.rq
   have H6 := Lib.hid (I5.put (rndF (stF k b n) (offF (axpF k) ((n + 1) * 16)) (n == 13)))
   clear hb5 I5 rq rp HI
   go_wp2
   go_roundw
   case rel => exact ⟨n + 1, by omega, by go_num, H6.out⟩
   case measure => simp [intOf]; omega
  ·obtain rfl : n = 14 := by omega
   clear rp
   go_wp2
   refine bodyPost_ret (v := .agg (ba 16 (aenF k b))) (zS rfl _ _ (w.heap.size + 1 + 1) _ _ _ rfl (zD r2 _) blk_u (by rw [zG]; exact blk_i)) rfl ⟨rfl, ?_⟩
   exact zE HI.out.below (by omega) _
@[irreducible] def va (n : Nat) (A : Nat → Value) : Array Value := Array.ofFn (n := n) fun i => A i
theorem va_size (n : Nat) (A : Nat → Value) : (va n A).size = n := by unfold va; simp
theorem va_get (n : Nat) (A : Nat → Value) (k : Nat) (h : k < n) : (va n A)[k]? = some (A k) := by unfold va; simp [h]
theorem va_elem (n : Nat) (A : Nat → Value) (k : Nat) (h : k < (va n A).size) : (va n A)[k] = A k := by
 have e := va_get n A k (by rwa [va_size] at h)
 rw [Array.getElem?_eq_getElem h] at e
 exact Option.some.inj e
attribute [go_sem] va_size va_elem
def WordAt (w : World) (p q : Nat) (v : Value) (f : Bf) : Prop :=
 ∃ b o c, v = .slice (some ⟨b, o, none⟩) 4 c ∧ b ≠ p ∧ b ≠ q ∧ b < w.heap.size ∧ ∀ i, i < 4 → w.cell? ⟨b, o + i, none⟩ = some (.int .u8 (I (f i)))
theorem WordAt.setCell {w : World} {p q : Nat} {v : Value} {f : Bf} (h : WordAt w p q v f) (i : Nat) (u : Value) : WordAt (w.setCell ⟨q, i, none⟩ u) p q v f := by
 obtain ⟨b, o, c, rfl, h1, h2, h3, h4⟩ := h
 exact ⟨b, o, c, rfl, h1, h2, by simpa using h3, fun j hj => by rw [World.cell?_setCell_other _ _ _ _ (by intro e; exact h2 (congrArg Addr.block e).symm)]; exact h4 j hj⟩
end Go.Proofs.YteffjpdcghlnlaaGreatDoor.Oct
