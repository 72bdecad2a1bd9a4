import Derived.Test.YtamemjldafoolaaGreatOctAll
import Derived.Test.YtamemjldafoolaaGreatTys
import Derived.Test.YtamemjldafoolaaGreatAlg
import Derived.OwnWalk
import Derived.Test.YtamemjldafoolaaGreatLib
import Derived.Test.YtamemjldafoolaaGreatTySl
import Derived.Deep.AppendLies

/-! ## AesA -/
/- Contracts of aes's small functions: what each makes of its arrays of bytes. -/
namespace Go.Proofs.YtamemjldafoolaaGreat.Oct
open Go.ChangeShapes Go.WideShapes Go.ChangeAt Go.RowKit

set_option maxHeartbeats 400000 in
theorem addB_any (f g : Bf) (w : World) :
    Calls Tryz.prog 83 #[.agg (ba 16 f), .agg (ba 16 g)] w fun e w' => e = .returned (.agg (ba 16 (xorF f g))) ∧ Below w.heap.size w w' := by
  go_enter Tryz.func83, Tryz.ntmps83
  go_wp2
  go_loopw [5, 6] (fun _ i wr => ∃ k : Nat, k ≤ 16 ∧ i = .int .i64 k ∧ ∃ n, wr = (((w.alloc (.cells (ba 16 (upto k (xorF f g) f)) 100)).alloc (.cells (ba 16 g) 100)).alloc (.cells (ba 16 fun _ => 0#8) 100)).drewN n) (fun _ i _ => 16 - (intOf i).toNat)
  case atStart =>
    refine ⟨0, by omega, rfl, 0, ?_⟩
    rw [upto_zero]; rfl
  case round =>
    obtain ⟨k, hk, rfl, n, rfl⟩ := hrel
    by_cases hlt : k < 16
    · have H := Lib.hid (upto_step k (xorF f g) f)
      go_wp2
      refine quiet_tail 8 (by kernel_rfl) (by kernel_rfl) (fun _ _ _ _ _ h => h) ?_
      simp only [List.take_succ_cons, List.take_zero, List.drop_succ_cons, List.drop_zero]
      repeat (go_big_quiet_step (fail))
      refine wpQuiet_nil ?_
      rintro _ ⟨m, rfl⟩
      go_wp2
      go_roundw
      case rel => exact ⟨k + 1, by omega, by go_num, n + m, by rw [← H.out]; rfl⟩
      case measure => simp [intOf]; omega
    · obtain rfl : k = 16 := by omega
      rw [upto_all]
      go_wp2
      refine bodyPost_ret (v := .agg (ba 16 (xorF f g))) (res_row rfl _ _ (w.heap.size + 1 + 1) _ _ _ rfl (by simp [go_sem]) blk_u (by rw [ba_size]; exact blk_i)) rfl ⟨rfl, ?_⟩
      exact below_drewN ((((Below.refl _ _).alloc (by simp) _).alloc (by simp) _).alloc (by simp; omega) _) _

set_option maxHeartbeats 400000 in
theorem addW_any (f g : Bf) (w : World) :
    Calls Tryz.prog 96 #[.agg (ba 4 f), .agg (ba 4 g)] w fun e w' => e = .returned (.agg (ba 4 (xorF f g))) ∧ Below w.heap.size w w' := by
  go_enter Tryz.func96, Tryz.ntmps96
  go_wp2
  go_loopw [5, 6] (fun _ i wr => ∃ k : Nat, k ≤ 4 ∧ i = .int .i64 k ∧ ∃ n, wr = (((w.alloc (.cells (ba 4 (upto k (xorF f g) f)) 127)).alloc (.cells (ba 4 g) 127)).alloc (.cells (ba 4 fun _ => 0#8) 127)).drewN n) (fun _ i _ => 4 - (intOf i).toNat)
  case atStart =>
    refine ⟨0, by omega, rfl, 0, ?_⟩
    rw [upto_zero]; rfl
  case round =>
    obtain ⟨k, hk, rfl, n, rfl⟩ := hrel
    by_cases hlt : k < 4
    · have H := Lib.hid (upto_step k (xorF f g) f)
      go_wp2
      refine quiet_tail 8 (by kernel_rfl) (by kernel_rfl) (fun _ _ _ _ _ h => h) ?_
      simp only [List.take_succ_cons, List.take_zero, List.drop_succ_cons, List.drop_zero]
      repeat (go_big_quiet_step (fail))
      refine wpQuiet_nil ?_
      rintro _ ⟨m, rfl⟩
      go_wp2
      go_roundw
      case rel => exact ⟨k + 1, by omega, by go_num, n + m, by rw [← H.out]; rfl⟩
      case measure => simp [intOf]; omega
    · obtain rfl : k = 4 := by omega
      rw [upto_all]
      go_wp2
      refine bodyPost_ret (v := .agg (ba 4 (xorF f g))) (res_row rfl _ _ (w.heap.size + 1 + 1) _ _ _ rfl (by simp [go_sem]) wrd_u (by rw [ba_size]; exact wrd_i)) rfl ⟨rfl, ?_⟩
      exact below_drewN ((((Below.refl _ _).alloc (by simp) _).alloc (by simp) _).alloc (by simp; omega) _) _

set_option maxHeartbeats 400000 in
theorem subB_any (f : Bf) (w : World) :
    Calls Tryz.prog 99 #[.agg (ba 16 f)] w fun e w' => e = .returned (.agg (ba 16 (subF f))) ∧ Below w.heap.size w w' := by
  go_enter Tryz.func99, Tryz.ntmps99
  go_wp2
  go_loopw [3, 4, 6] (fun _ _ i wr => ∃ k : Nat, k ≤ 16 ∧ i = .int .i64 k ∧ wr = ((w.alloc (.cells (ba 16 (upto k (subF f) f)) 100)).alloc (.cells (ba 16 fun _ => 0#8) 100))) (fun _ _ i _ => 16 - (intOf i).toNat)
  case atStart =>
    refine ⟨0, by omega, rfl, ?_⟩
    rw [upto_zero]
  case round =>
    obtain ⟨k, hk, rfl, rfl⟩ := hrel
    by_cases hlt : k < 16
    · have H := Lib.hid (upto_step k (subF f) f)
      go_wp2_with (go_at_call 109; ((with_reducible refine (box_any _ rfl _).mono ?_); rintro e w' ⟨rfl, rfl⟩))
      go_roundw
      case rel => exact ⟨k + 1, by omega, by go_num, by rw [← H.out]; rfl⟩
      case measure => simp [intOf]; omega
    · obtain rfl : k = 16 := by omega
      rw [upto_all]
      go_wp2
      refine bodyPost_ret (v := .agg (ba 16 (subF f))) (res_row rfl _ _ (w.heap.size + 1) _ _ _ rfl (by simp [go_sem]) blk_u (by rw [ba_size]; exact blk_i)) rfl ⟨rfl, ?_⟩
      exact ((Below.refl _ _).alloc (by simp) _).alloc (by simp) _

set_option maxHeartbeats 400000 in
theorem subW_any (f : Bf) (w : World) :
    Calls Tryz.prog 93 #[.agg (ba 4 f)] w fun e w' => e = .returned (.agg (ba 4 (subF f))) ∧ Below w.heap.size w w' := by
  go_enter Tryz.func93, Tryz.ntmps93
  go_wp2
  go_loopw [3, 4, 6] (fun _ _ i wr => ∃ k : Nat, k ≤ 4 ∧ i = .int .i64 k ∧ wr = ((w.alloc (.cells (ba 4 (upto k (subF f) f)) 127)).alloc (.cells (ba 4 fun _ => 0#8) 127))) (fun _ _ i _ => 4 - (intOf i).toNat)
  case atStart =>
    refine ⟨0, by omega, rfl, ?_⟩
    rw [upto_zero]
  case round =>
    obtain ⟨k, hk, rfl, rfl⟩ := hrel
    by_cases hlt : k < 4
    · have H := Lib.hid (upto_step k (subF f) f)
      go_wp2_with (go_at_call 109; ((with_reducible refine (box_any _ rfl _).mono ?_); rintro e w' ⟨rfl, rfl⟩))
      go_roundw
      case rel => exact ⟨k + 1, by omega, by go_num, by rw [← H.out]; rfl⟩
      case measure => simp [intOf]; omega
    · obtain rfl : k = 4 := by omega
      rw [upto_all]
      go_wp2
      refine bodyPost_ret (v := .agg (ba 4 (subF f))) (res_row rfl _ _ (w.heap.size + 1) _ _ _ rfl (by simp [go_sem]) wrd_u (by rw [ba_size]; exact wrd_i)) rfl ⟨rfl, ?_⟩
      exact ((Below.refl _ _).alloc (by simp) _).alloc (by simp) _

set_option maxHeartbeats 400000 in
theorem rotW_any (f : Bf) (w : World) :
    Calls Tryz.prog 94 #[.agg (ba 4 f)] w fun e w' => e = .returned (.agg (ba 4 (rotF f))) ∧ Below w.heap.size w w' := by
  go_enter Tryz.func94, Tryz.ntmps94
  go_wp2
  have e : ba 4 (upd (upd (upd (upd (fun _ => 0#8) 0 (f 1)) 1 (f 2)) 2 (f 3)) 3 (f 0)) = ba 4 (rotF f) := ba_ext fun k hk => by
    have : k = 0 ∨ k = 1 ∨ k = 2 ∨ k = 3 := by omega
    rcases this with rfl | rfl | rfl | rfl <;> rfl
  rw [e]
  refine bodyPost_ret (v := .agg (ba 4 (rotF f))) (res_row rfl _ _ (w.heap.size + 1) _ _ _ rfl (by simp [go_sem]) wrd_u (by rw [ba_size]; exact wrd_i)) rfl ⟨rfl, ?_⟩
  exact ((Below.refl _ _).alloc (by simp) _).alloc (by simp) _

theorem shift_at (f : Bf) (c r : Nat) (hr : r < 4) : shiftF f (4 * c + r) = f ((c + r) % 4 * 4 + r) := by
  unfold shiftF
  rw [show (4 * c + r) / 4 = c by omega, show (4 * c + r) % 4 = r by omega]
set_option maxHeartbeats 400000 in
theorem shift_any (f : Bf) (w : World) :
    Calls Tryz.prog 98 #[.agg (ba 16 f)] w fun e w' => e = .returned (.agg (ba 16 (shiftF f))) ∧ Below w.heap.size w w' := by
  go_enter Tryz.func98, Tryz.ntmps98
  go_wp2
  go_loopw [6] (fun i wr => ∃ c : Nat, c ≤ 4 ∧ i = .int .i64 c ∧ wr = (((w.alloc (.cells (ba 16 f) 100)).alloc (.cells (ba 16 fun _ => 0#8) 100)).alloc (.cells (ba 16 (upto (4 * c) (shiftF f) fun _ => 0#8)) 100))) (fun i _ => 4 - (intOf i).toNat)
  case atStart =>
    refine ⟨0, by omega, rfl, ?_⟩
    rw [Nat.mul_zero, upto_zero]
  case round =>
    obtain ⟨c, hc, rfl, rfl⟩ := hrel
    by_cases hlt : c < 4
    · go_wp2
      go_loopw [9] (fun i wr => ∃ r : Nat, r ≤ 4 ∧ i = .int .i64 r ∧ wr = (((w.alloc (.cells (ba 16 f) 100)).alloc (.cells (ba 16 fun _ => 0#8) 100)).alloc (.cells (ba 16 (upto (4 * c + r) (shiftF f) fun _ => 0#8)) 100))) (fun i _ => 4 - (intOf i).toNat)
      case atStart => exact ⟨0, by omega, rfl, rfl⟩
      case round =>
        obtain ⟨r, hr, rfl, rfl⟩ := hrel
        by_cases hlr : r < 4
        · have H := Lib.hid (upto_step (4 * c + r) (shiftF f) fun _ => 0#8)
          have H2 := Lib.hid (shift_at f c r hlr)
          have b1 : (c + r) % 4 * 4 + r < 16 := by omega
          have b2 : 4 * c + r < 16 := by omega
          go_wp2
          go_roundw
          case rel => exact ⟨r + 1, by omega, by go_num, by rw [← H2.out, H.out]; rfl⟩
          case measure => simp [intOf]; omega
        · obtain rfl : r = 4 := by omega
          go_wp2
          go_roundw
          case rel => exact ⟨c + 1, by omega, by go_num, rfl⟩
          case measure => simp [intOf]; omega
    · obtain rfl : c = 4 := by omega
      rw [show 4 * 4 = 16 from rfl, upto_all]
      go_wp2
      refine bodyPost_ret (v := .agg (ba 16 (shiftF f))) (res_row rfl _ _ (w.heap.size + 1) _ _ _ rfl (by simp [go_sem]) blk_u (by rw [ba_size]; exact blk_i)) rfl ⟨rfl, ?_⟩
      exact (((Below.refl _ _).alloc (by simp) _).alloc (by simp) _).alloc (by simp; omega) _

theorem mix_at (f : Bf) (c r : Nat) (hr : r < 4) : mixF f (4 * c + r) =
    (mul (f (4 * c + r)) 2#8 ^^^ mul (f (4 * c + (r + 1) % 4)) 3#8) ^^^ (f (4 * c + (r + 2) % 4) ^^^ f (4 * c + (r + 3) % 4)) := by
  unfold mixF
  rw [show (4 * c + r) / 4 = c by omega, show (4 * c + r) % 4 = r by omega]
set_option maxHeartbeats 1000000 in
theorem mix_any (f : Bf) (w : World) :
    Calls Tryz.prog 100 #[.agg (ba 16 f)] w fun e w' => e = .returned (.agg (ba 16 (mixF f))) ∧ Below w.heap.size w w' := by
  go_enter Tryz.func100, Tryz.ntmps100
  go_wp2
  go_loopw [9] (fun i wr => ∃ c : Nat, c ≤ 4 ∧ i = .int .i64 c ∧ ∃ n, wr = (((w.alloc (.cells (ba 16 f) 100)).alloc (.cells (ba 16 fun _ => 0#8) 100)).alloc (.cells (ba 16 (upto (4 * c) (mixF f) fun _ => 0#8)) 100)).drewN n) (fun i _ => 4 - (intOf i).toNat)
  case atStart =>
    refine ⟨0, by omega, rfl, 0, ?_⟩
    rw [Nat.mul_zero, upto_zero]; rfl
  case round =>
    obtain ⟨c, hc, rfl, n, rfl⟩ := hrel
    by_cases hlt : c < 4
    · have hd : decide ((c : Int) < 4) = true := by simp; omega
      go_wp2
      go_loopw [12] (fun i wr => ∃ r : Nat, r ≤ 4 ∧ i = .int .i64 r ∧ ∃ n, wr = (((w.alloc (.cells (ba 16 f) 100)).alloc (.cells (ba 16 fun _ => 0#8) 100)).alloc (.cells (ba 16 (upto (4 * c + r) (mixF f) fun _ => 0#8)) 100)).drewN n) (fun i _ => 4 - (intOf i).toNat)
      case atStart => exact ⟨0, by omega, rfl, n, rfl⟩
      case round =>
        obtain ⟨r, hr, rfl, m, rfl⟩ := hrel
        by_cases hlr : r < 4
        · have H := Lib.hid (upto_step (4 * c + r) (mixF f) fun _ => 0#8)
          have H2 := Lib.hid (mix_at f c r hlr)
          have b0 : 4 * c + r < 16 := by omega
          have b1 : 4 * c + (r + 1) % 4 < 16 := by omega
          have b2 : 4 * c + (r + 2) % 4 < 16 := by omega
          have b3 : 4 * c + (r + 3) % 4 < 16 := by omega
          go_wp2
          go_quiet (fail)
          go_wp2
          go_quiet (fail)
          go_wp2_with fail
          refine (mul_any (f (4 * c + r)) 2#8 rfl rfl _).mono ?_
          rintro e w' ⟨rfl, rfl⟩
          go_wp2_with fail
          refine (mul_any (f (4 * c + (r + 1) % 4)) 3#8 rfl rfl _).mono ?_
          rintro e w' ⟨rfl, rfl⟩
          go_wp2
          go_roundw
          case rel => exact ⟨r + 1, by omega, by go_num, _, by rw [← H2.out, H.out]; rfl⟩
          case measure => simp [intOf]; omega
        · obtain rfl : r = 4 := by omega
          go_wp2
          go_roundw
          case rel => exact ⟨c + 1, by omega, by go_num, m, rfl⟩
          case measure => simp [intOf]; omega
    · obtain rfl : c = 4 := by omega
      rw [show 4 * 4 = 16 from rfl, upto_all]
      go_wp2
      refine bodyPost_ret (v := .agg (ba 16 (mixF f))) (res_row rfl _ _ (w.heap.size + 1) _ _ _ rfl (by simp [go_sem]) blk_u (by rw [ba_size]; exact blk_i)) rfl ⟨rfl, ?_⟩
      exact below_drewN ((((Below.refl _ _).alloc (by simp) _).alloc (by simp) _).alloc (by simp; omega) _) _
end Go.Proofs.YtamemjldafoolaaGreat.Oct

/-! ## AesB -/
/- Contract of aes.blocksOf: sixty words are fifteen blocks, byte for byte. -/
namespace Go.Proofs.YtamemjldafoolaaGreat.Oct
open Go.ChangeShapes Go.WideShapes Go.ChangeAt Go.RowKit

/-- what is known of the world in blocksOf's loops: k bytes are laid -/
structure BoInv (w : World) (f : Bf) (k : Nat) (wr : World) : Prop where
  below : Below w.heap.size w wr
  size : w.heap.size + 3 ≤ wr.heap.size
  res : row wr (w.heap.size + 1) = some (ba 240 fun _ => 0#8)
  out : row wr (w.heap.size + 1 + 1) = some (ba 240 (upto k f fun _ => 0#8))

theorem BoInv.set {w : World} {f : Bf} {c r o : Nat} {wr : World} (h1 : Below w.heap.size w wr) (h2 : w.heap.size + 3 ≤ wr.heap.size) (h3 : row wr (w.heap.size + 1) = some (ba 240 fun _ => 0#8))
    (h4 : row wr (w.heap.size + 1 + 1) = some (ba 240 (upto (4 * c + r) f fun _ => 0#8))) (ho : o = 4 * c + r) :
    BoInv w f (4 * c + (r + 1)) (wr.setCell ⟨w.heap.size + 1 + 1, o, none⟩ (.int .u8 (I (offF f (c * 4) r)))) := by
  subst ho
  refine ⟨h1.setCell (by simp; omega) _, by simpa using h2, by rw [row_setCell_other _ _ _ _ (by simp)]; exact h3, ?_⟩
  rw [row_setCell h4, show offF f (c * 4) r = f (4 * c + r) by unfold offF; rw [Nat.mul_comm], upto_step]
  rfl

set_option maxHeartbeats 1000000 in
theorem blocksOf_any (f : Bf) (w : World) :
    Calls Tryz.prog 97 #[.agg (ba 240 f)] w fun e w' => e = .returned (.agg (ba 240 f)) ∧ Below w.heap.size w w' := by
  go_enter Tryz.func97, Tryz.ntmps97
  go_wp2
  go_loopw [9] (fun i wr => ∃ c : Nat, c ≤ 60 ∧ i = .int .i64 c ∧ BoInv w f (4 * c) wr) (fun i _ => 60 - (intOf i).toNat)
  case atStart =>
    refine ⟨0, by omega, rfl, ((((Below.refl _ _).alloc (by simp) _).alloc (by simp) _).alloc (by simp; omega) _), by simp, ?_, ?_⟩
    · simp [go_sem]
    · rw [Nat.mul_zero, upto_zero]; simp [go_sem]
  case round =>
    obtain ⟨c, hc, rfl, hI⟩ := hrel
    by_cases hlt : c < 60
    · have hd : decide ((c : Int) < 60) = true := by simp; omega
      go_wp2
      have hI0 : BoInv w f (4 * c + 0) (wr.alloc (.cells (ba 4 (offF f (c * 4))) 127)) :=
        ⟨hI.below.alloc (by have := hI.size; omega) _, by have := hI.size; simp; omega, row_alloc hI.res _, row_alloc hI.out _⟩
      go_loopw [6, 7, 14] (fun _ _ j wq => ∃ r : Nat, r ≤ 4 ∧ j = .int .i64 r ∧ BoInv w f (4 * c + r) wq) (fun _ _ j _ => 4 - (intOf j).toNat)
      case atStart => exact ⟨0, by omega, rfl, hI0⟩
      case round =>
        clear hI0 hI
        obtain ⟨r, hr, rfl, hI⟩ := hrel
        by_cases hlr : r < 4
        · obtain ⟨hb, hs, h1, h2⟩ := hI
          have H1 := Lib.hid h1
          have H2 := Lib.hid h2
          have HB := Lib.hid hb
          have hc := cell_row h2
          have hf := froz_row h2
          clear h1 h2 hb
          have b1 : c / 4 * 16 + (c % 4 * 4 + r) < 240 := by omega
          have e1 : c / 4 * 16 + (c % 4 * 4 + r) = 4 * c + r := by omega
          have E1 := Lib.hid e1
          clear e1
          go_wp2
          go_roundw
          case rel => exact ⟨r + 1, by omega, by go_num, BoInv.set HB.out hs H1.out H2.out E1.out⟩
          case measure => simp [intOf]; omega
        · obtain rfl : r = 4 := by omega
          go_wp2
          go_roundw
          case rel => exact ⟨c + 1, by omega, by go_num, hI⟩
          case measure => simp [intOf]; omega
    · obtain rfl : c = 60 := by omega
      obtain ⟨hb, hs, h1, h2⟩ := hI
      rw [show 4 * 60 = 240 from rfl, upto_all] at h2
      have HB := Lib.hid hb
      clear hb
      go_wp2
      refine bodyPost_ret (v := .agg (ba 240 f)) (res_row rfl _ _ (w.heap.size + 1) _ _ _ rfl (row_setRow h1 _) bks_u (by rw [ba_size]; exact bks_i)) rfl ⟨rfl, ?_⟩
      exact below_setRow HB.out (by omega) _
end Go.Proofs.YtamemjldafoolaaGreat.Oct

/-! ## AesC -/
/- Contracts of aes.Round: one round of the cipher. -/
namespace Go.Proofs.YtamemjldafoolaaGreat.Oct
open Go.ChangeShapes Go.WideShapes Go.ChangeAt Go.RowKit

/-- what is known of the world on the way through Round -/
structure RdInv (w : World) (s k : Bf) (wr : World) : Prop where
  below : Below w.heap.size w wr
  size : w.heap.size + 3 ≤ wr.heap.size
  r0 : row wr w.heap.size = some (ba 16 s)
  r1 : row wr (w.heap.size + 1) = some (ba 16 k)
  r2 : row wr (w.heap.size + 1 + 1) = some (ba 16 fun _ => 0#8)
theorem RdInv.start (w : World) (s k : Bf) (t : TypeId) : RdInv w s k (((w.alloc (.cells (ba 16 s) t)).alloc (.cells (ba 16 k) t)).alloc (.cells (ba 16 fun _ => 0#8) t)) :=
  ⟨(((Below.refl _ _).alloc (by simp) _).alloc (by simp) _).alloc (by simp; omega) _, by simp, by simp [go_sem], by simp [go_sem], by simp [go_sem]⟩
theorem RdInv.call {w : World} {s k : Bf} {wr w' : World} (h : RdInv w s k wr) (hb : Below wr.heap.size wr w') : RdInv w s k w' :=
  ⟨onto h.below (by have := h.size; omega) hb, Nat.le_trans h.size hb.size, carry hb h.r0, carry hb h.r1, carry hb h.r2⟩
theorem RdInv.put {w : World} {s k : Bf} {wr : World} (h : RdInv w s k wr) (s' : Bf) : RdInv w s' k (wr.setRow w.heap.size (ba 16 s')) :=
  ⟨below_setRow h.below (by omega) _, by simpa using h.size, row_setRow h.r0 _, by rw [row_setRow_other _ _ _ _ (by omega)]; exact h.r1, by rw [row_setRow_other _ _ _ _ (by omega)]; exact h.r2⟩

set_option maxHeartbeats 1000000 in
theorem round_any (s k : Bf) (last : Bool) (w : World) :
    Calls Tryz.prog 84 #[.agg (ba 16 s), .agg (ba 16 k), .bool last] w fun e w' => e = .returned (.agg (ba 16 (rndF s k last))) ∧ Below w.heap.size w w' := by
  have I0 := Lib.hid (RdInv.start w s k 100)
  cases last
  · go_enter Tryz.func84, Tryz.ntmps84
    go_wp2_with fail
    refine (subB_any s _).mono ?_
    rintro e w1 ⟨rfl, hb1⟩
    have I1 := Lib.hid (I0.out.call hb1)
    clear hb1 I0
    go_wp2_with fail
    refine (shift_any (subF s) _).mono ?_
    rintro e w2 ⟨rfl, hb2⟩
    have I2 := I1.out.call hb2
    have r0 := I2.r0
    have I3 := Lib.hid (I2.put (shiftF (subF s)))
    have r00 := I3.out.r0
    clear hb2 I1 I2
    go_wp2_with fail
    refine (mix_any (shiftF (subF s)) _).mono ?_
    rintro e w3 ⟨rfl, hb3⟩
    have I4 := I3.out.call hb3
    clear r0 r00 hb3 I3
    have r0 := I4.r0
    have I5 := I4.put (mixF (shiftF (subF s)))
    have r00 := I5.r0
    have r01 := I5.r1
    have I6 := Lib.hid I5
    clear I4 I5
    go_wp2_with fail
    refine (addB_any (mixF (shiftF (subF s))) k _).mono ?_
    rintro e w4 ⟨rfl, hb4⟩
    have I7 := I6.out.call hb4
    clear r0 r00 r01 hb4 I6
    have r2 := I7.r2
    have hB := Lib.hid I7.below
    clear I7
    go_wp2_with fail
    refine bodyPost_ret (v := .agg (ba 16 (rndF s k false))) (res_row rfl _ _ (w.heap.size + 1 + 1) _ _ _ rfl (row_setRow r2 _) blk_u (by rw [ba_size]; exact blk_i)) rfl ⟨rfl, ?_⟩
    exact below_setRow hB.out (by omega) _
  · go_enter Tryz.func84, Tryz.ntmps84
    go_wp2_with fail
    refine (subB_any s _).mono ?_
    rintro e w1 ⟨rfl, hb1⟩
    have I1 := Lib.hid (I0.out.call hb1)
    clear hb1 I0
    go_wp2_with fail
    refine (shift_any (subF s) _).mono ?_
    rintro e w2 ⟨rfl, hb2⟩
    have I2 := I1.out.call hb2
    have r0 := I2.r0
    have I3 := I2.put (shiftF (subF s))
    have r00 := I3.r0
    have r01 := I3.r1
    have I6 := Lib.hid I3
    clear hb2 I1 I2 I3
    go_wp2_with fail
    refine (addB_any (shiftF (subF s)) k _).mono ?_
    rintro e w4 ⟨rfl, hb4⟩
    have I7 := I6.out.call hb4
    clear r0 r00 r01 hb4 I6
    have r2 := I7.r2
    have hB := Lib.hid I7.below
    clear I7
    go_wp2_with fail
    refine bodyPost_ret (v := .agg (ba 16 (rndF s k true))) (res_row rfl _ _ (w.heap.size + 1 + 1) _ _ _ rfl (row_setRow r2 _) blk_u (by rw [ba_size]; exact blk_i)) rfl ⟨rfl, ?_⟩
    exact below_setRow hB.out (by omega) _
end Go.Proofs.YtamemjldafoolaaGreat.Oct

/-! ## AesD -/
/- Contract of aes.Expand: the key schedule. -/
namespace Go.Proofs.YtamemjldafoolaaGreat.Oct
open Go.ChangeShapes Go.WideShapes Go.ChangeAt Go.RowKit

def z8 : Bf := fun _ => 0#8
/-- what is known of the world in Expand's second loop: m words are there -/
structure AExInv (w : World) (k : Bf) (m : Nat) (wr : World) : Prop where
  below : Below w.heap.size w wr
  size : w.heap.size + 3 ≤ wr.heap.size
  r1 : row wr (w.heap.size + 1) = some (ba 240 fun _ => 0#8)
  r2 : row wr (w.heap.size + 1 + 1) = some (ba 240 (upto (4 * m) (axpF k) fun _ => 0#8))

/-- .. and of the block b of the word t on the way -/
structure ExT (w : World) (k : Bf) (m b : Nat) (t : Bf) (wr : World) : Prop where
  inv : AExInv w k m wr
  hb : w.heap.size + 3 ≤ b
  rt : row wr b = some (ba 4 t)
theorem ExT.start {w : World} {k : Bf} {m : Nat} {wr : World} (h : AExInv w k m wr) (t : Bf) (ty : TypeId) : ExT w k m wr.heap.size t (wr.alloc (.cells (ba 4 t) ty)) :=
  ⟨⟨h.below.alloc (by have := h.size; omega) _, by have := h.size; simp; omega, row_alloc h.r1 _, row_alloc h.r2 _⟩, h.size, by simp [go_sem]⟩
theorem AExInv.call {w : World} {k : Bf} {m : Nat} {wr w' : World} (h : AExInv w k m wr) (hb : Below wr.heap.size wr w') : AExInv w k m w' :=
  ⟨onto h.below (by have := h.size; omega) hb, Nat.le_trans h.size hb.size, carry hb h.r1, carry hb h.r2⟩
theorem ExT.call {w : World} {k : Bf} {m b : Nat} {t : Bf} {wr w' : World} (h : ExT w k m b t wr) (hb : Below wr.heap.size wr w') : ExT w k m b t w' := ⟨h.inv.call hb, h.hb, carry hb h.rt⟩
theorem ExT.drewN {w : World} {k : Bf} {m b : Nat} {t : Bf} {wr : World} (h : ExT w k m b t wr) (n : Nat) : ExT w k m b t (wr.drewN n) :=
  ⟨⟨below_drewN h.inv.below n, h.inv.size, by rw [row_drewN]; exact h.inv.r1, by rw [row_drewN]; exact h.inv.r2⟩, h.hb, by rw [row_drewN]; exact h.rt⟩
theorem ExT.put {w : World} {k : Bf} {m b : Nat} {t : Bf} {wr : World} (h : ExT w k m b t wr) (t' : Bf) : ExT w k m b t' (wr.setRow b (ba 4 t')) :=
  ⟨⟨below_setRow h.inv.below (by have := h.hb; omega) _, by simpa using h.inv.size, by rw [row_setRow_other _ _ _ _ (by have := h.hb; omega)]; exact h.inv.r1, by rw [row_setRow_other _ _ _ _ (by have := h.hb; omega)]; exact h.inv.r2⟩, h.hb, row_setRow h.rt _⟩
theorem ExT.set {w : World} {k : Bf} {m b : Nat} {t : Bf} {wr : World} (h : ExT w k m b t wr) (i : Nat) (v : BitVec 8) : ExT w k m b (upd t i v) (wr.setCell ⟨b, i, none⟩ (.int .u8 (I v))) := by
  rw [setCell_row h.rt, ba_set]
  exact h.put _
theorem ExT.done {w : World} {k : Bf} {m b : Nat} {t : Bf} {wr : World} (h : ExT w k m b t wr) (g : Bf) (hg : ∀ j, j < 4 → g j = axpF k (4 * m + j)) :
    AExInv w k (m + 1) (wr.setRow (w.heap.size + 1 + 1) (ba 240 (putF (upto (4 * m) (axpF k) fun _ => 0#8) (m * 4) 4 g))) := by
  refine ⟨below_setRow h.inv.below (by omega) _, by simpa using h.inv.size, by rw [row_setRow_other _ _ _ _ (by omega)]; exact h.inv.r1, ?_⟩
  rw [row_setRow h.inv.r2]
  refine congrArg some (ba_ext fun p hp => ?_)
  unfold putF upto
  by_cases h1 : m * 4 ≤ p ∧ p < m * 4 + 4
  · rw [if_pos h1, if_pos (by omega), hg _ (by omega)]
    congr 1; omega
  · rw [if_neg h1]
    by_cases h2 : p < 4 * m
    · rw [if_pos h2, if_pos (by omega)]
    · rw [if_neg h2, if_neg (by omega)]

theorem ahead (k : Bf) (m d j : Nat) (hd : 1 ≤ d) (hdm : d ≤ m) (hj : j < 4) : offF (upto (4 * m) (axpF k) fun _ => 0#8) ((m - d) * 4) j = axpF k (4 * (m - d) + j) := by
  unfold offF upto
  rw [if_pos (by omega), Nat.mul_comm]
theorem word0 (k : Bf) (m : Nat) (h8 : 8 ≤ m) (hm : m < 60) (h0 : m % 8 = 0) (j : Nat) (hj : j < 4) :
    xorF (offF (upto (4 * m) (axpF k) fun _ => 0#8) ((m - 8) * 4)) (upd (subF (rotF (offF (upto (4 * m) (axpF k) fun _ => 0#8) ((m - 1) * 4)))) 0 (subF (rotF (offF (upto (4 * m) (axpF k) fun _ => 0#8) ((m - 1) * 4))) 0 ^^^ pwr ((m - 1) / 8))) j = axpF k (4 * m + j) := by
  rw [exp_rec k m j h8 hm hj]
  unfold newW xorF
  rw [if_pos h0, ahead k m 8 j (by omega) (by omega) hj]
  congr 1
  by_cases hj0 : j = 0
  · subst hj0
    simp only [upd, if_true, subF, rotF]
    rw [ahead k m 1 _ (by omega) (by omega) (by omega), show m / 8 - 1 = (m - 1) / 8 by omega]
  · simp only [upd, hj0, if_false, subF, rotF]
    rw [ahead k m 1 _ (by omega) (by omega) (by omega), BitVec.xor_zero]
theorem word4 (k : Bf) (m : Nat) (h8 : 8 ≤ m) (hm : m < 60) (h0 : ¬ m % 8 = 0) (h4 : m % 8 = 4) (j : Nat) (hj : j < 4) :
    xorF (offF (upto (4 * m) (axpF k) fun _ => 0#8) ((m - 8) * 4)) (subF (offF (upto (4 * m) (axpF k) fun _ => 0#8) ((m - 1) * 4))) j = axpF k (4 * m + j) := by
  rw [exp_rec k m j h8 hm hj]
  unfold newW xorF
  rw [if_neg h0, if_pos h4, ahead k m 8 j (by omega) (by omega) hj]
  simp only [subF]
  rw [ahead k m 1 _ (by omega) (by omega) (by omega)]
theorem word1 (k : Bf) (m : Nat) (h8 : 8 ≤ m) (hm : m < 60) (h0 : ¬ m % 8 = 0) (h4 : ¬ m % 8 = 4) (j : Nat) (hj : j < 4) :
    xorF (offF (upto (4 * m) (axpF k) fun _ => 0#8) ((m - 8) * 4)) (offF (upto (4 * m) (axpF k) fun _ => 0#8) ((m - 1) * 4)) j = axpF k (4 * m + j) := by
  rw [exp_rec k m j h8 hm hj]
  unfold newW xorF
  rw [if_neg h0, if_neg h4, ahead k m 8 j (by omega) (by omega) hj, ahead k m 1 _ (by omega) (by omega) (by omega)]

set_option maxHeartbeats 4000000 in
theorem expand_any (k : Bf) (w : World) :
    Calls Tryz.prog 82 #[.agg (ba 32 k)] w fun e w' => e = .returned (.agg (ba 240 (axpF k))) ∧ Below w.heap.size w w' := by
  go_enter Tryz.func82, Tryz.ntmps82
  go_wp2
  go_loopw [4, 5, 10] (fun _ _ i wr => ∃ c : Nat, c ≤ 32 ∧ i = .int .i64 c ∧ wr = ((w.alloc (.cells (ba 32 k) 32)).alloc (.cells (ba 240 fun _ => 0#8) 111)).alloc (.cells (ba 240 (upto c (axpF k) fun _ => 0#8)) 128)) (fun _ _ i _ => 32 - (intOf i).toNat)
  case atStart =>
    refine ⟨0, by omega, rfl, ?_⟩
    rw [upto_zero]
  case round =>
    obtain ⟨c, hc, rfl, rfl⟩ := hrel
    by_cases hlt : c < 32
    · have H := Lib.hid (upto_step c (axpF k) fun _ => 0#8)
      have H2 := Lib.hid (exp_key k c hlt)
      have b1 : c / 4 * 4 + c % 4 < 240 := by omega
      have E1 := Lib.hid (show c / 4 * 4 + c % 4 = c by omega)
      go_wp2
      go_roundw
      case rel => exact ⟨c + 1, by omega, by go_num, by rw [E1.out, ← H2.out, H.out]⟩
      case measure => simp [intOf]; omega
    · obtain rfl : c = 32 := by omega
      rw [show ((32 : Nat) : Int) = 32 from rfl]
      have hd32 : decide ((32 : Int) < 32) = false := by decide
      go_wp2
      clear hd32
      go_loopw [6, 7] (fun p i wr => ∃ m : Nat, 8 ≤ m ∧ m ≤ 60 ∧ i = .int .i64 m ∧ p = .int .u8 (I (pwr ((m - 1) / 8))) ∧ AExInv w k m wr) (fun _ i _ => 60 - (intOf i).toNat)
      case atStart =>
        exact ⟨8, by omega, by omega, rfl, rfl, (((Below.refl _ _).alloc (by simp) _).alloc (by simp) _).alloc (by simp; omega) _, by simp, by simp [go_sem], by simp [go_sem]⟩
      case round =>
        obtain ⟨m, h8, hm, rfl, rfl, hI⟩ := hrel
        by_cases hlt : m < 60
        · have b1 : (m - 1) * 4 + 4 ≤ 240 := by omega
          have b8 : (m - 8) * 4 + 4 ≤ 240 := by omega
          have b0 : m * 4 + 4 ≤ 240 := by omega
          obtain ⟨G, hG⟩ : ∃ G, G = upto (4 * m) (axpF k) fun _ => 0#8 := ⟨_, rfl⟩
          have r2 := hI.r2
          rw [← hG] at r2
          have HI := Lib.hid hI
          have HG := Lib.hid hG
          clear hG hI
          by_cases hm0 : m % 8 = 0
          · have hd : ((m : Int) % 8 == 0) = true := by simp; omega
            have hpw : t2 (pwr ((m - 1) / 8)) = pwr ((m + 1 - 1) / 8) := by rw [show (m + 1 - 1) / 8 = (m - 1) / 8 + 1 by omega]; rfl
            have HP := Lib.hid hpw
            have HW := Lib.hid (word0 k m h8 hlt hm0)
            clear hpw
            go_wp2_with fail
            have T0 := Lib.hid (ExT.start HI.out (offF G ((m - 1) * 4)) 127)
            refine (rotW_any (offF G ((m - 1) * 4)) _).mono ?_
            rintro e w1 ⟨rfl, hb1⟩
            have T1 := Lib.hid (T0.out.call hb1)
            clear r2 hb1 T0
            go_wp2_with fail
            refine (subW_any (rotF (offF G ((m - 1) * 4))) _).mono ?_
            rintro e w2 ⟨rfl, hb2⟩
            have T2 := T1.out.call hb2
            clear hb2 T1
            have rt := T2.rt
            have T3 := T2.put (subF (rotF (offF G ((m - 1) * 4))))
            have hc := cell_row T3.rt
            have hf := froz_row T3.rt
            have H2 := Lib.hid T2
            have H3 := Lib.hid T3
            clear T2 T3
            go_wp2_with fail
            rw [setCell_row H3.out.rt, ba_set]
            refine (t2_any (pwr ((m - 1) / 8)) rfl _).mono ?_
            rintro e w' ⟨rfl, rfl⟩
            have T4 := H3.out.put (upd (subF (rotF (offF G ((m - 1) * 4)))) 0 (subF (rotF (offF G ((m - 1) * 4))) 0 ^^^ pwr ((m - 1) / 8)))
            clear hc hf rt H2
            have rt := T4.rt
            have r2 := T4.inv.r2
            rw [← HG.out] at r2
            have H4 := Lib.hid T4
            clear T4
            go_wp2_with fail
            generalize (w2.setRow wr.heap.size (ba 4 (subF (rotF (offF G ((m - 1) * 4)))))).setRow wr.heap.size (ba 4 (upd (subF (rotF (offF G ((m - 1) * 4)))) 0 (subF (rotF (offF G ((m - 1) * 4))) 0 ^^^ pwr ((m - 1) / 8)))) = w4 at H4 rt r2 ⊢
            obtain ⟨q, hq⟩ : ∃ q, q = upd (subF (rotF (offF G ((m - 1) * 4)))) 0 (subF (rotF (offF G ((m - 1) * 4))) 0 ^^^ pwr ((m - 1) / 8)) := ⟨_, rfl⟩
            have HQ := Lib.hid hq
            rw [← hq] at rt H4
            clear hq
            refine quiet_tail' 1 6 (by kernel_rfl) (by kernel_rfl) (fun _ _ _ _ _ h => h) ?_
            simp only [List.take_succ_cons, List.take_zero, List.drop_succ_cons, List.drop_zero]
            repeat (go_big_quiet_step (fail))
            refine wpQuiet_nil ?_
            rintro _ ⟨nq, rfl⟩
            go_wp2_with fail
            refine (addW_any (offF G ((m - 8) * 4)) q _).mono ?_
            rintro e w5 ⟨rfl, hb5⟩
            have T6 := (H4.out.drewN nq).call hb5
            clear hb5 rt r2 H4
            have r2 := T6.inv.r2
            rw [← HG.out] at r2
            have T7 := T6.done (xorF (offF G ((m - 8) * 4)) q) (by rw [HQ.out, HG.out]; exact HW.out)
            rw [← HG.out] at T7
            have H7 := Lib.hid T7
            clear T6 T7
            go_wp2
            go_roundw
            case rel => exact ⟨m + 1, by omega, by omega, by go_num, by rw [HP.out], H7.out⟩
            case measure => simp [intOf]; omega
          · have hpw : pwr ((m - 1) / 8) = pwr ((m + 1 - 1) / 8) := by rw [show (m + 1 - 1) / 8 = (m - 1) / 8 by omega]
            have HP := Lib.hid hpw
            clear hpw
            have hd : ((m : Int) % 8 == 0) = false := by simp; omega
            by_cases hm4 : m % 8 = 4
            · have hd4 : ((m : Int) % 8 == 4) = true := by simp; omega
              have HW := Lib.hid (word4 k m h8 hlt hm0 hm4)
              go_wp2_with fail
              have T0 := Lib.hid (ExT.start HI.out (offF G ((m - 1) * 4)) 127)
              refine (subW_any (offF G ((m - 1) * 4)) _).mono ?_
              rintro e w2 ⟨rfl, hb2⟩
              have T2 := T0.out.call hb2
              clear hb2 T0 r2
              have rt0 := T2.rt
              have T4 := T2.put (subF (offF G ((m - 1) * 4)))
              clear T2
              have rt := T4.rt
              have r2 := T4.inv.r2
              rw [← HG.out] at r2
              have H4 := Lib.hid T4
              clear T4
              go_wp2_with fail
              clear rt0
              generalize w2.setRow wr.heap.size (ba 4 (subF (offF G ((m - 1) * 4)))) = w4 at H4 rt r2 ⊢
              obtain ⟨q, hq⟩ : ∃ q, q = subF (offF G ((m - 1) * 4)) := ⟨_, rfl⟩
              have HQ := Lib.hid hq
              rw [← hq] at rt H4
              clear hq
              refine quiet_tail' 1 6 (by kernel_rfl) (by kernel_rfl) (fun _ _ _ _ _ h => h) ?_
              simp only [List.take_succ_cons, List.take_zero, List.drop_succ_cons, List.drop_zero]
              repeat (go_big_quiet_step (fail))
              refine wpQuiet_nil ?_
              rintro _ ⟨nq, rfl⟩
              go_wp2_with fail
              refine (addW_any (offF G ((m - 8) * 4)) q _).mono ?_
              rintro e w5 ⟨rfl, hb5⟩
              have T6 := (H4.out.drewN nq).call hb5
              clear hb5 rt r2 H4
              have r2 := T6.inv.r2
              rw [← HG.out] at r2
              have T7 := T6.done (xorF (offF G ((m - 8) * 4)) q) (by rw [HQ.out, HG.out]; exact HW.out)
              rw [← HG.out] at T7
              have H7 := Lib.hid T7
              clear T6 T7
              go_wp2
              go_roundw
              case rel => exact ⟨m + 1, by omega, by omega, by go_num, by rw [HP.out], H7.out⟩
              case measure => simp [intOf]; omega
            · have hd4 : ((m : Int) % 8 == 4) = false := by simp; omega
              have HW := Lib.hid (word1 k m h8 hlt hm0 hm4)
              go_wp2_with fail
              have T4 := ExT.start HI.out (offF G ((m - 1) * 4)) 127
              have rt := T4.rt
              have H4 := Lib.hid T4
              have r20 := T4.inv.r2
              rw [← HG.out] at r20
              clear T4 r2
              have r2 := r20
              clear r20
              generalize wr.alloc (.cells (ba 4 (offF G ((m - 1) * 4))) 127) = w4 at H4 rt r2 ⊢
              obtain ⟨q, hq⟩ : ∃ q, q = offF G ((m - 1) * 4) := ⟨_, rfl⟩
              have HQ := Lib.hid hq
              rw [← hq] at rt H4
              clear hq
              refine quiet_tail' 1 6 (by kernel_rfl) (by kernel_rfl) (fun _ _ _ _ _ h => h) ?_
              simp only [List.take_succ_cons, List.take_zero, List.drop_succ_cons, List.drop_zero]
              repeat (go_big_quiet_step (fail))
              refine wpQuiet_nil ?_
              rintro _ ⟨nq, rfl⟩
              go_wp2_with fail
              refine (addW_any (offF G ((m - 8) * 4)) q _).mono ?_
              rintro e w5 ⟨rfl, hb5⟩
              have T6 := (H4.out.drewN nq).call hb5
              clear hb5 rt r2 H4
              have r2 := T6.inv.r2
              rw [← HG.out] at r2
              have T7 := T6.done (xorF (offF G ((m - 8) * 4)) q) (by rw [HQ.out, HG.out]; exact HW.out)
              rw [← HG.out] at T7
              have H7 := Lib.hid T7
              clear T6 T7
              go_wp2
              go_roundw
              case rel => exact ⟨m + 1, by omega, by omega, by go_num, by rw [HP.out], H7.out⟩
              case measure => simp [intOf]; omega
        · obtain rfl : m = 60 := by omega
          obtain ⟨hb, hs, r1, r2⟩ := hI
          rw [show 4 * 60 = 240 from rfl, upto_all] at r2
          have HB := Lib.hid hb
          have H1 := Lib.hid r1
          clear hb r1
          go_wp2_with fail
          refine (blocksOf_any (axpF k) _).mono ?_
          rintro e w5 ⟨rfl, hb5⟩
          have hb := Lib.hid (onto HB.out (by omega) hb5)
          have r1 := carry hb5 H1.out
          clear hb5 r2
          go_wp2
          refine bodyPost_ret (v := .agg (ba 240 (axpF k))) (res_row rfl _ _ (w.heap.size + 1) _ _ _ rfl (row_setRow r1 _) bks_u (by rw [ba_size]; exact bks_i)) rfl ⟨rfl, ?_⟩
          exact below_setRow hb.out (by omega) _
end Go.Proofs.YtamemjldafoolaaGreat.Oct

/-! ## AesE -/
/- Contract of aes.Encrypt. -/
namespace Go.Proofs.YtamemjldafoolaaGreat.Oct
open Go.ChangeShapes Go.WideShapes Go.ChangeAt Go.RowKit

/-- what is known of the world in Encrypt's loop: blocks p (the keys) and q (the state) -/
structure EnInv (w : World) (k : Bf) (p q : Nat) (s : Bf) (wr : World) : Prop where
  below : Below w.heap.size w wr
  hp : w.heap.size + 3 ≤ p
  hq : p < q
  r2 : row wr (w.heap.size + 1 + 1) = some (ba 16 fun _ => 0#8)
  rp : row wr p = some (ba 240 (axpF k))
  rq : row wr q = some (ba 16 s)
theorem EnInv.size {w : World} {k : Bf} {p q : Nat} {s : Bf} {wr : World} (h : EnInv w k p q s wr) : w.heap.size + 5 ≤ wr.heap.size := by
  have := row_lt h.rq; have := h.hp; have := h.hq; omega
theorem EnInv.call {w : World} {k : Bf} {p q : Nat} {s : Bf} {wr w' : World} (h : EnInv w k p q s wr) (hb : Below wr.heap.size wr w') : EnInv w k p q s w' :=
  ⟨onto h.below (by have := h.size; omega) hb, h.hp, h.hq, carry hb h.r2, carry hb h.rp, carry hb h.rq⟩
theorem EnInv.drewN {w : World} {k : Bf} {p q : Nat} {s : Bf} {wr : World} (h : EnInv w k p q s wr) (n : Nat) : EnInv w k p q s (wr.drewN n) :=
  ⟨below_drewN h.below n, h.hp, h.hq, by rw [row_drewN]; exact h.r2, by rw [row_drewN]; exact h.rp, by rw [row_drewN]; exact h.rq⟩
theorem EnInv.put {w : World} {k : Bf} {p q : Nat} {s : Bf} {wr : World} (h : EnInv w k p q s wr) (s' : Bf) : EnInv w k p q s' (wr.setRow q (ba 16 s')) := by
  have hp := h.hp; have hq := h.hq
  exact ⟨below_setRow h.below (by omega) _, hp, hq, by rw [row_setRow_other _ _ _ _ (by omega)]; exact h.r2, by rw [row_setRow_other _ _ _ _ (by omega)]; exact h.rp, row_setRow h.rq _⟩

set_option maxHeartbeats 2000000 in
theorem encrypt_any (k b : Bf) (w : World) :
    Calls Tryz.prog 63 #[.agg (ba 32 k), .agg (ba 16 b)] w fun e w' => e = .returned (.agg (ba 16 (aenF k b))) ∧ Below w.heap.size w w' := by
  have B0 := Lib.hid ((((Below.refl w.heap.size w).alloc (by simp) (.cells (ba 32 k) 32)).alloc (by simp) (.cells (ba 16 b) 100)).alloc (by simp; omega) (.cells (ba 16 fun _ => 0#8) 100))
  go_enter Tryz.func63, Tryz.ntmps63
  go_wp2_with fail
  refine (expand_any k _).mono ?_
  rintro e w1 ⟨rfl, hb1⟩
  have r1 := carry hb1 (b := w.heap.size + 1) (c := ba 16 b) (by simp [go_sem])
  have r2 := carry hb1 (b := w.heap.size + 1 + 1) (c := ba 16 fun _ => 0#8) (by simp [go_sem])
  have s1 : w.heap.size + 3 ≤ w1.heap.size := by have := hb1.size; simp at this; omega
  have B1 := Lib.hid (onto B0.out (by simp; omega) hb1)
  clear hb1 B0
  have s11 : w.heap.size + 1 < w1.heap.size := by omega
  have s12 : w.heap.size + 1 + 1 < w1.heap.size := by omega
  go_wp2_with fail
  refine (addB_any b (axpF k) _).mono ?_
  rintro e w3 ⟨rfl, hb3⟩
  have B3 := Lib.hid (onto (B1.out.alloc (by omega) _) (by simp; omega) hb3)
  have rp := carry hb3 (b := w1.heap.size) (c := ba 240 (axpF k)) (by simp [go_sem])
  have r23 := carry hb3 (row_alloc r2 _)
  have s3 : w1.heap.size < w3.heap.size := by have := hb3.size; simp at this; omega
  clear hb3 r1 r2
  have I0 : EnInv w k w1.heap.size w3.heap.size (stF k b 0) (w3.alloc (.cells (ba 16 (xorF b (axpF k))) 100)) :=
    ⟨B3.out.alloc (by omega) _, by omega, by omega, row_alloc r23 _, row_alloc rp _, by simp [go_sem]; rfl⟩
  have H0 := Lib.hid I0
  clear I0 r23 rp
  go_wp2_with fail
  go_loopw [7, 14] (fun _ i wr => ∃ n : Nat, n ≤ 14 ∧ i = .int .i64 n ∧ EnInv w k w1.heap.size w3.heap.size (stF k b n) wr) (fun _ i _ => 14 - (intOf i).toNat)
  case atStart => exact ⟨0, by omega, rfl, H0.out⟩
  case round =>
    obtain ⟨n, hn, rfl, hI⟩ := hrel
    have rp := hI.rp
    have rq := hI.rq
    have r2 := hI.r2
    have HI := Lib.hid hI
    clear hI
    by_cases hlt : n < 14
    · have b1 : (n + 1) * 16 + 16 ≤ 240 := by omega
      have ht : ((n : Int) == 13) = (n == 13) := by
        rw [Bool.eq_iff_iff]; simp; omega
      clear r2
      go_wp2_with fail
      refine quiet_tail 7 (by kernel_rfl) (by kernel_rfl) (fun _ _ _ _ _ h => h) ?_
      simp only [List.take_succ_cons, List.take_zero, List.drop_succ_cons, List.drop_zero]
      repeat (go_big_quiet_step (fail))
      refine wpQuiet_nil ?_
      rintro _ ⟨nq, rfl⟩
      go_wp2_with fail
      refine (round_any (stF k b n) (offF (axpF k) ((n + 1) * 16)) (n == 13) _).mono ?_
      rintro e w5 ⟨rfl, hb5⟩
      have I5 := (HI.out.drewN nq).call hb5
      have rq5 := I5.rq
      have H6 := Lib.hid (I5.put (rndF (stF k b n) (offF (axpF k) ((n + 1) * 16)) (n == 13)))
      clear hb5 I5 rq rp HI
      go_wp2
      go_roundw
      case rel => exact ⟨n + 1, by omega, by go_num, H6.out⟩
      case measure => simp [intOf]; omega
    · obtain rfl : n = 14 := by omega
      clear rp
      go_wp2
      refine bodyPost_ret (v := .agg (ba 16 (aenF k b))) (res_row rfl _ _ (w.heap.size + 1 + 1) _ _ _ rfl (row_setRow r2 _) blk_u (by rw [ba_size]; exact blk_i)) rfl ⟨rfl, ?_⟩
      exact below_setRow HI.out.below (by omega) _
end Go.Proofs.YtamemjldafoolaaGreat.Oct

/-! ## AesR -/
/- Contracts of the reference's box table and round. -/
namespace Go.Proofs.YtamemjldafoolaaGreat.Oct
open Go.ChangeShapes Go.WideShapes Go.ChangeAt Go.RowKit

def boxF : Bf := fun i => box (BitVec.ofNat 8 i)
theorem two8 : (2 : Int) = I 2#8 := rfl
theorem three8 : (3 : Int) = I 3#8 := rfl
theorem boxF_at (v : BitVec 8) : boxF (I v).toNat = box v := by
  unfold boxF I
  rw [Int.toNat_natCast]
  congr 1
  apply BitVec.eq_of_toNat_eq
  rw [BitVec.toNat_ofNat, Nat.mod_eq_of_lt v.isLt]
theorem I_ofNat (k : Nat) (h : k < 256) : (k : Int) = I (BitVec.ofNat 8 k) := by
  unfold I; rw [BitVec.toNat_ofNat, Nat.mod_eq_of_lt h]

set_option maxRecDepth 20000 in
set_option maxHeartbeats 1000000 in
theorem rboxes_any (w : World) :
    Calls Tryz.prog 70 #[] w fun e w' => e = .returned (.agg (ba 256 boxF)) ∧ Below w.heap.size w w' := by
  go_enter Tryz.func70, Tryz.ntmps70
  go_wp2
  go_loopw [2] (fun i wr => ∃ k : Nat, k ≤ 256 ∧ i = .int .i64 k ∧ ∃ n, wr = ((w.alloc (.cells (ba 256 fun _ => 0#8) 113)).alloc (.cells (ba 256 (upto k boxF fun _ => 0#8)) 113)).drewN n) (fun i _ => 256 - (intOf i).toNat)
  case atStart => exact ⟨0, by omega, rfl, 0, by rw [upto_zero]; rfl⟩
  case round =>
    obtain ⟨k, hk, rfl, n, rfl⟩ := hrel
    by_cases hlt : k < 256
    · have H := Lib.hid (upto_step k boxF fun _ => 0#8)
      have hc : (0 : Int) ≤ k ∧ (k : Int) ≤ 255 := by omega
      have HK := Lib.hid (I_ofNat k hlt)
      go_wp2_with (go_at_call 86; (refine (rbox_any (BitVec.ofNat 8 k) HK.out _).mono ?_); rintro e w' ⟨rfl, m, rfl⟩)
      go_roundw
      case rel => exact ⟨k + 1, by omega, by go_num, _, by rw [← H.out]; rfl⟩
      case measure => simp [intOf]; omega
    · obtain rfl : k = 256 := by omega
      rw [upto_all]
      go_wp2
      refine bodyPost_ret (v := .agg (ba 256 boxF)) (res_row rfl _ _ w.heap.size _ _ _ rfl (by simp [go_sem]) box_u (by rw [ba_size]; exact box_i)) rfl ⟨rfl, ?_⟩
      exact below_drewN (((Below.refl _ _).alloc (by simp) _).alloc (by simp) _) _

theorem rround_t (s : Bf) (c r : Nat) (hr : r < 4) : shiftF (subF s) (4 * c + r) = boxF (I (s (4 * ((c + r) % 4) + r))).toNat := by
  rw [boxF_at]
  unfold shiftF subF
  rw [show (4 * c + r) / 4 = c by omega, show (4 * c + r) % 4 = r by omega, Nat.mul_comm]
theorem rround_m (t : Bf) (c r : Nat) (hr : r < 4) : mixF t (4 * c + r) = ((mul (t (4 * c + r)) 2#8 ^^^ mul (t (4 * c + (r + 1) % 4)) 3#8) ^^^ t (4 * c + (r + 2) % 4)) ^^^ t (4 * c + (r + 3) % 4) := by
  unfold mixF
  rw [show (4 * c + r) / 4 = c by omega, show (4 * c + r) % 4 = r by omega]
  exact (BitVec.xor_assoc _ _ _).symm

set_option maxRecDepth 20000 in
set_option maxHeartbeats 4000000 in
theorem rround_any (s k : Bf) (last : Bool) (w : World) :
    Calls Tryz.prog 88 #[.agg (ba 16 s), .agg (ba 16 k), .bool last, .agg (ba 256 boxF)] w fun e w' => e = .returned (.agg (ba 16 (rndF s k last))) ∧ Below w.heap.size w w' := by
  go_enter Tryz.func88, Tryz.ntmps88
  go_wp2
  go_loopw [10] (fun i wr => ∃ c : Nat, c ≤ 4 ∧ i = .int .i64 c ∧ wr = ((((w.alloc (.cells (ba 16 s) 100)).alloc (.cells (ba 16 k) 100)).alloc (.cells (ba 256 boxF) 113)).alloc (.cells (ba 16 fun _ => 0#8) 100)).alloc (.cells (ba 16 (upto (4 * c) (shiftF (subF s)) fun _ => 0#8)) 100)) (fun i _ => 4 - (intOf i).toNat)
  case atStart => exact ⟨0, by omega, rfl, by rw [Nat.mul_zero, upto_zero]⟩
  case round =>
    obtain ⟨c, hc, rfl, rfl⟩ := hrel
    by_cases hlt : c < 4
    · have hd : decide ((c : Int) < 4) = true := by simp; omega
      go_wp2
      go_loopw [11] (fun i wr => ∃ r : Nat, r ≤ 4 ∧ i = .int .i64 r ∧ wr = ((((w.alloc (.cells (ba 16 s) 100)).alloc (.cells (ba 16 k) 100)).alloc (.cells (ba 256 boxF) 113)).alloc (.cells (ba 16 fun _ => 0#8) 100)).alloc (.cells (ba 16 (upto (4 * c + r) (shiftF (subF s)) fun _ => 0#8)) 100)) (fun i _ => 4 - (intOf i).toNat)
      case atStart => exact ⟨0, by omega, rfl, rfl⟩
      case round =>
        obtain ⟨r, hr, rfl, rfl⟩ := hrel
        by_cases hlr : r < 4
        · have H := Lib.hid (upto_step (4 * c + r) (shiftF (subF s)) fun _ => 0#8)
          have H2 := Lib.hid (rround_t s c r hlr)
          have b1 : 4 * ((c + r) % 4) + r < 16 := by omega
          have b2 : 4 * c + r < 16 := by omega
          obtain ⟨v0, v1⟩ := I_bd (s (4 * ((c + r) % 4) + r))
          have b3 : (I (s (4 * ((c + r) % 4) + r))).toNat < 256 := by omega
          go_wp2
          go_roundw
          case rel => exact ⟨r + 1, by omega, by go_num, by rw [← H2.out, H.out]; rfl⟩
          case measure => simp [intOf]; omega
        · obtain rfl : r = 4 := by omega
          go_wp2
          go_roundw
          case rel => exact ⟨c + 1, by omega, by go_num, rfl⟩
          case measure => simp [intOf]; omega
    · obtain rfl : c = 4 := by omega
      rw [show 4 * 4 = 16 from rfl, upto_all, show ((4 : Nat) : Int) = 4 from rfl]
      have hd4 : decide ((4 : Int) < 4) = false := by decide
      go_wp2
      clear hd4
      obtain ⟨T, hT⟩ : ∃ T, T = shiftF (subF s) := ⟨_, rfl⟩
      rw [← hT]
      have HT := Lib.hid hT
      clear hT
      cases last
      · go_loopw [13] (fun i wr => ∃ c : Nat, c ≤ 4 ∧ i = .int .i64 c ∧ ∃ n, wr = ((((((w.alloc (.cells (ba 16 s) 100)).alloc (.cells (ba 16 k) 100)).alloc (.cells (ba 256 boxF) 113)).alloc (.cells (ba 16 fun _ => 0#8) 100)).alloc (.cells (ba 16 T) 100)).alloc (.cells (ba 16 (upto (4 * c) (mixF T) T)) 100)).drewN n) (fun i _ => 4 - (intOf i).toNat)
        case atStart => exact ⟨0, by omega, rfl, 0, by rw [Nat.mul_zero, upto_zero]; rfl⟩
        case round =>
          obtain ⟨c, hc, rfl, n, rfl⟩ := hrel
          by_cases hlt : c < 4
          · have hd : decide ((c : Int) < 4) = true := by simp; omega
            go_wp2
            go_loopw [14] (fun i wr => ∃ r : Nat, r ≤ 4 ∧ i = .int .i64 r ∧ ∃ n, wr = ((((((w.alloc (.cells (ba 16 s) 100)).alloc (.cells (ba 16 k) 100)).alloc (.cells (ba 256 boxF) 113)).alloc (.cells (ba 16 fun _ => 0#8) 100)).alloc (.cells (ba 16 T) 100)).alloc (.cells (ba 16 (upto (4 * c + r) (mixF T) T)) 100)).drewN n) (fun i _ => 4 - (intOf i).toNat)
            case atStart => exact ⟨0, by omega, rfl, n, rfl⟩
            case round =>
              obtain ⟨r, hr, rfl, n2, rfl⟩ := hrel
              by_cases hlr : r < 4
              · have H := Lib.hid (upto_step (4 * c + r) (mixF T) T)
                have H2 := Lib.hid (rround_m T c r hlr)
                have b0 : 4 * c + r < 16 := by omega
                have b1 : 4 * c + (r + 1) % 4 < 16 := by omega
                have b2 : 4 * c + (r + 2) % 4 < 16 := by omega
                have b3 : 4 * c + (r + 3) % 4 < 16 := by omega
                go_wp2
                refine quiet_tail 28 (by kernel_rfl) (by kernel_rfl) (fun _ _ _ _ _ h => h) ?_
                simp only [List.take_succ_cons, List.take_zero, List.drop_succ_cons, List.drop_zero]
                repeat (go_big_quiet_step ((first | ((with_reducible refine (rmul_any (T (4 * c + r)) 2#8 rfl two8 _).mono ?_); rintro e w' ⟨rfl, rfl⟩; exact ⟨rfl, _, rfl⟩) | ((with_reducible refine (rmul_any (T (4 * c + (r + 1) % 4)) 3#8 rfl three8 _).mono ?_); rintro e w' ⟨rfl, rfl⟩; exact ⟨rfl, _, rfl⟩))))
                refine wpQuiet_nil ?_
                rintro _ ⟨m, rfl⟩
                go_wp2
                go_roundw
                case rel => exact ⟨r + 1, by omega, by go_num, _, by rw [← H2.out, H.out]; rfl⟩
                case measure => simp [intOf]; omega
              · obtain rfl : r = 4 := by omega
                go_wp2
                go_roundw
                case rel => exact ⟨c + 1, by omega, by go_num, _, rfl⟩
                case measure => simp [intOf]; omega
          · obtain rfl : c = 4 := by omega
            rw [show 4 * 4 = 16 from rfl, upto_all, show ((4 : Nat) : Int) = 4 from rfl]
            have hd4 : decide ((4 : Int) < 4) = false := by decide
            go_wp2
            clear hd4
            go_loopw [17] (fun i wr => ∃ c : Nat, c ≤ 16 ∧ i = .int .i64 c ∧ ∃ n, wr = ((((((w.alloc (.cells (ba 16 s) 100)).alloc (.cells (ba 16 k) 100)).alloc (.cells (ba 256 boxF) 113)).alloc (.cells (ba 16 fun _ => 0#8) 100)).alloc (.cells (ba 16 T) 100)).alloc (.cells (ba 16 (upto c (xorF (mixF T) k) (mixF T))) 100)).drewN n) (fun i _ => 16 - (intOf i).toNat)
            case atStart => exact ⟨0, by omega, rfl, _, by rw [upto_zero]⟩
            case round =>
              obtain ⟨c, hc, rfl, n, rfl⟩ := hrel
              by_cases hlt : c < 16
              · have H := Lib.hid (upto_step c (xorF (mixF T) k) (mixF T))
                go_wp2
                refine quiet_tail 9 (by kernel_rfl) (by kernel_rfl) (fun _ _ _ _ _ h => h) ?_
                simp only [List.take_succ_cons, List.take_zero, List.drop_succ_cons, List.drop_zero]
                repeat (go_big_quiet_step (fail))
                refine wpQuiet_nil ?_
                rintro _ ⟨m, rfl⟩
                go_wp2
                go_roundw
                case rel => exact ⟨c + 1, by omega, by go_num, _, by rw [← H.out]; rfl⟩
                case measure => simp [intOf]; omega
              · obtain rfl : c = 16 := by omega
                rw [upto_all]
                go_wp2
                have hv : ba 16 (xorF (mixF T) k) = ba 16 (rndF s k false) := by rw [HT.out]; rfl
                rw [hv]
                refine bodyPost_ret (v := .agg (ba 16 (rndF s k false))) (res_row rfl _ _ (w.heap.size + 1 + 1 + 1) _ _ _ rfl (by simp [go_sem]) blk_u (by rw [ba_size]; exact blk_i)) rfl ⟨rfl, ?_⟩
                exact below_drewN (((((((Below.refl _ _).alloc (by simp) _).alloc (by simp) _).alloc (by simp; omega) _).alloc (by simp; omega) _).alloc (by simp; omega) _).alloc (by simp; omega) _) _
      · go_loopw [13] (fun i wr => i = .int .i64 0 ∧ ∃ n, wr = ((((((w.alloc (.cells (ba 16 s) 100)).alloc (.cells (ba 16 k) 100)).alloc (.cells (ba 256 boxF) 113)).alloc (.cells (ba 16 fun _ => 0#8) 100)).alloc (.cells (ba 16 T) 100)).alloc (.cells (ba 16 T) 100)).drewN n) (fun _ _ => 0)
        case atStart => exact ⟨rfl, 0, rfl⟩
        case round =>
          obtain ⟨rfl, n, rfl⟩ := hrel
          go_wp2
          go_loopw [17] (fun i wr => ∃ c : Nat, c ≤ 16 ∧ i = .int .i64 c ∧ ∃ n, wr = ((((((w.alloc (.cells (ba 16 s) 100)).alloc (.cells (ba 16 k) 100)).alloc (.cells (ba 256 boxF) 113)).alloc (.cells (ba 16 fun _ => 0#8) 100)).alloc (.cells (ba 16 T) 100)).alloc (.cells (ba 16 (upto c (xorF T k) T)) 100)).drewN n) (fun i _ => 16 - (intOf i).toNat)
          case atStart => exact ⟨0, by omega, rfl, _, by rw [upto_zero]⟩
          case round =>
            obtain ⟨c, hc, rfl, n, rfl⟩ := hrel
            by_cases hlt : c < 16
            · have H := Lib.hid (upto_step c (xorF T k) T)
              go_wp2
              refine quiet_tail 9 (by kernel_rfl) (by kernel_rfl) (fun _ _ _ _ _ h => h) ?_
              simp only [List.take_succ_cons, List.take_zero, List.drop_succ_cons, List.drop_zero]
              repeat (go_big_quiet_step (fail))
              refine wpQuiet_nil ?_
              rintro _ ⟨m, rfl⟩
              go_wp2
              go_roundw
              case rel => exact ⟨c + 1, by omega, by go_num, _, by rw [← H.out]; rfl⟩
              case measure => simp [intOf]; omega
            · obtain rfl : c = 16 := by omega
              rw [upto_all]
              go_wp2
              have hv : ba 16 (xorF T k) = ba 16 (rndF s k true) := by rw [HT.out]; rfl
              rw [hv]
              refine bodyPost_ret (v := .agg (ba 16 (rndF s k true))) (res_row rfl _ _ (w.heap.size + 1 + 1 + 1) _ _ _ rfl (by simp [go_sem]) blk_u (by rw [ba_size]; exact blk_i)) rfl ⟨rfl, ?_⟩
              exact below_drewN (((((((Below.refl _ _).alloc (by simp) _).alloc (by simp) _).alloc (by simp; omega) _).alloc (by simp; omega) _).alloc (by simp; omega) _).alloc (by simp; omega) _) _
end Go.Proofs.YtamemjldafoolaaGreat.Oct

/-! ## AesT -/
/- Contract of the reference's Encrypts. -/
namespace Go.Proofs.YtamemjldafoolaaGreat.Oct
open Go.ChangeShapes Go.WideShapes Go.ChangeAt Go.RowKit

/-- what is known of the world in Encrypts -/
structure EcInv (w : World) (F s : Bf) (wr : World) : Prop where
  below : Below w.heap.size w wr
  size : w.heap.size + 4 ≤ wr.heap.size
  r0 : row wr w.heap.size = some (ba 240 F)
  r1 : row wr (w.heap.size + 1) = some (ba 16 s)
  r2 : row wr (w.heap.size + 1 + 1) = some (ba 256 boxF)
  r3 : row wr (w.heap.size + 1 + 1 + 1) = some (ba 16 fun _ => 0#8)
theorem EcInv.call {w : World} {F s : Bf} {wr w' : World} (h : EcInv w F s wr) (hb : Below wr.heap.size wr w') : EcInv w F s w' :=
  ⟨onto h.below (by have := h.size; omega) hb, Nat.le_trans h.size hb.size, carry hb h.r0, carry hb h.r1, carry hb h.r2, carry hb h.r3⟩
theorem EcInv.drewN {w : World} {F s : Bf} {wr : World} (h : EcInv w F s wr) (n : Nat) : EcInv w F s (wr.drewN n) :=
  ⟨below_drewN h.below n, h.size, by rw [row_drewN]; exact h.r0, by rw [row_drewN]; exact h.r1, by rw [row_drewN]; exact h.r2, by rw [row_drewN]; exact h.r3⟩
theorem EcInv.put {w : World} {F s : Bf} {wr : World} (h : EcInv w F s wr) (s' : Bf) : EcInv w F s' (wr.setRow (w.heap.size + 1) (ba 16 s')) :=
  ⟨below_setRow h.below (by omega) _, by simpa using h.size, by rw [row_setRow_other _ _ _ _ (by omega)]; exact h.r0, row_setRow h.r1 _, by rw [row_setRow_other _ _ _ _ (by omega)]; exact h.r2, by rw [row_setRow_other _ _ _ _ (by omega)]; exact h.r3⟩

set_option maxHeartbeats 2000000 in
theorem encrypts_any (k b : Bf) (w : World) :
    Calls Tryz.prog 72 #[.agg (ba 240 (axpF k)), .agg (ba 16 b), .agg (ba 256 boxF)] w fun e w' => e = .returned (.agg (ba 16 (aenF k b))) ∧ Below w.heap.size w w' := by
  obtain ⟨F, hF⟩ : ∃ F, F = axpF k := ⟨_, rfl⟩
  rw [← hF]
  have HF := Lib.hid hF
  clear hF
  go_enter Tryz.func72, Tryz.ntmps72
  go_wp2
  go_loopw [7] (fun i wr => ∃ c : Nat, c ≤ 16 ∧ i = .int .i64 c ∧ ∃ n, wr = ((((w.alloc (.cells (ba 240 F) 111)).alloc (.cells (ba 16 (upto c (xorF b F) b)) 100)).alloc (.cells (ba 256 boxF) 113)).alloc (.cells (ba 16 fun _ => 0#8) 100)).drewN n) (fun i _ => 16 - (intOf i).toNat)
  case atStart => exact ⟨0, by omega, rfl, 0, by rw [upto_zero]; rfl⟩
  case round =>
    obtain ⟨c, hc, rfl, n, rfl⟩ := hrel
    by_cases hlt : c < 16
    · have H := Lib.hid (upto_step c (xorF b F) b)
      have b1 : c < 240 := by omega
      go_wp2
      refine quiet_tail 10 (by kernel_rfl) (by kernel_rfl) (fun _ _ _ _ _ h => h) ?_
      simp only [List.take_succ_cons, List.take_zero, List.drop_succ_cons, List.drop_zero]
      repeat (go_big_quiet_step (fail))
      refine wpQuiet_nil ?_
      rintro _ ⟨m, rfl⟩
      go_wp2
      go_roundw
      case rel => exact ⟨c + 1, by omega, by go_num, _, by rw [← H.out]; rfl⟩
      case measure => simp [intOf]; omega
    · obtain rfl : c = 16 := by omega
      rw [upto_all, show ((16 : Nat) : Int) = 16 from rfl]
      have hd16 : decide ((16 : Int) < 16) = false := by decide
      have I0 : EcInv w F (stF k b 0) (((((w.alloc (.cells (ba 240 F) 111)).alloc (.cells (ba 16 (xorF b F)) 100)).alloc (.cells (ba 256 boxF) 113)).alloc (.cells (ba 16 fun _ => 0#8) 100)).drewN n) :=
        ⟨below_drewN (((((Below.refl _ _).alloc (by simp) _).alloc (by simp) _).alloc (by simp; omega) _).alloc (by simp; omega) _) _, by show _ ≤ (World.heap (World.alloc _ _)).size; simp, by simp [go_sem], by rw [HF.out]; simp [go_sem]; rfl, by simp [go_sem], by simp [go_sem]⟩
      have H0 := Lib.hid I0
      clear I0
      go_wp2
      clear hd16
      go_loopw [8] (fun i wr => ∃ m : Nat, m ≤ 14 ∧ i = .int .i64 (m + 1) ∧ EcInv w F (stF k b m) wr) (fun i _ => 15 - (intOf i).toNat)
      case atStart => exact ⟨0, by omega, rfl, H0.out⟩
      case round =>
        clear H0
        obtain ⟨m, hm, rfl, hI⟩ := hrel
        have q0 := hI.r0
        have q1 := hI.r1
        have q2 := hI.r2
        have q3 := hI.r3
        have HI := Lib.hid hI
        clear hI
        by_cases hlt : m < 14
        · have b1 : (m + 1) * 16 + 16 ≤ 240 := by omega
          have ht : (((m : Int) + 1) == 14) = (m == 13) := by
            rw [Bool.eq_iff_iff]; simp; omega
          clear q3
          go_wp2_with fail
          refine quiet_tail 7 (by kernel_rfl) (by kernel_rfl) (fun _ _ _ _ _ h => h) ?_
          simp only [List.take_succ_cons, List.take_zero, List.drop_succ_cons, List.drop_zero]
          repeat (go_big_quiet_step (fail))
          refine wpQuiet_nil ?_
          rintro _ ⟨nq, rfl⟩
          go_wp2_with fail
          refine (rround_any (stF k b m) (offF F ((m + 1) * 16)) (m == 13) _).mono ?_
          rintro e w5 ⟨rfl, hb5⟩
          have I5 := (HI.out.drewN nq).call hb5
          have rq5 := I5.r1
          have H6 := Lib.hid (I5.put (rndF (stF k b m) (offF F ((m + 1) * 16)) (m == 13)))
          clear hb5 I5 q0 q1 q2 HI
          go_wp2
          go_roundw
          case rel => exact ⟨m + 1, by omega, by go_num, by have := H6.out; rw [HF.out] at this ⊢; exact this⟩
          case measure => simp [intOf]; omega
        · obtain rfl : m = 14 := by omega
          clear q0 q2
          go_wp2
          refine bodyPost_ret (v := .agg (ba 16 (aenF k b))) (res_row rfl _ _ (w.heap.size + 1 + 1 + 1) _ _ _ rfl (row_setRow q3 _) blk_u (by rw [ba_size]; exact blk_i)) rfl ⟨rfl, ?_⟩
          exact below_setRow HI.out.below (by omega) _
end Go.Proofs.YtamemjldafoolaaGreat.Oct

/-! ## AesX -/
/- Contract of the reference's Expand: sixty slices of four bytes. -/
namespace Go.Proofs.YtamemjldafoolaaGreat.Oct
open Go.ChangeShapes Go.WideShapes Go.ChangeAt Go.RowKit

/-- the cells of n values -/
@[irreducible] def va (n : Nat) (A : Nat → Value) : Array Value := Array.ofFn (n := n) fun i => A i
def updV (A : Nat → Value) (k : Nat) (v : Value) : Nat → Value := fun i => if i = k then v else A i
theorem va_size (n : Nat) (A : Nat → Value) : (va n A).size = n := by unfold va; simp
theorem va_get (n : Nat) (A : Nat → Value) (k : Nat) (h : k < n) : (va n A)[k]? = some (A k) := by unfold va; simp [h]
theorem va_none (n : Nat) (A : Nat → Value) (k : Nat) (h : ¬ k < n) : (va n A)[k]? = none := by unfold va; simp; omega
theorem va_elem (n : Nat) (A : Nat → Value) (k : Nat) (h : k < (va n A).size) : (va n A)[k] = A k := by
  have e := va_get n A k (by rwa [va_size] at h)
  rw [Array.getElem?_eq_getElem h] at e
  exact Option.some.inj e
theorem va_set (n : Nat) (A : Nat → Value) (k : Nat) (v : Value) : (va n A).setIfInBounds k v = va n (updV A k v) := by
  apply Array.ext_getElem?
  intro i
  rw [Array.getElem?_setIfInBounds]
  by_cases hi : i < n
  · rw [va_get n (updV A k v) i hi, va_size, va_get n A i hi]
    by_cases hk : k = i
    · subst hk; simp [updV, hi]
    · have : ¬ i = k := fun e => hk e.symm
      simp [hk, updV, this]
  · rw [va_none n (updV A k v) i hi, va_size, va_none n A i hi]
    by_cases hk : k = i
    · subst hk; simp [hi]
    · simp [hk]
attribute [go_sem] va_size va_elem
theorem row_setCellV {w : World} {b n : Nat} {A : Nat → Value} (h : row w b = some (va n A)) (i : Nat) (v : Value) : row (w.setCell ⟨b, i, none⟩ v) b = some (va n (updV A i v)) := by
  rw [setCell_row h, row_setRow h, va_set]

/-- a slice of four bytes that lies in a block other than p and q -/
def WordAt (w : World) (p q : Nat) (v : Value) (f : Bf) : Prop :=
  ∃ b o c, v = .slice (some ⟨b, o, none⟩) 4 c ∧ b ≠ p ∧ b ≠ q ∧ b < w.heap.size ∧ ∀ i, i < 4 → w.cell? ⟨b, o + i, none⟩ = some (.int .u8 (I (f i)))
theorem WordAt.below {w w' : World} {p q : Nat} {v : Value} {f : Bf} (h : WordAt w p q v f) (hb : Below w.heap.size w w') : WordAt w' p q v f := by
  obtain ⟨b, o, c, rfl, h1, h2, h3, h4⟩ := h
  exact ⟨b, o, c, rfl, h1, h2, by have := hb.size; omega, fun i hi => by rw [hb.cell (p := ⟨b, o + i, none⟩) h3]; exact h4 i hi⟩
theorem WordAt.setCell {w : World} {p q : Nat} {v : Value} {f : Bf} (h : WordAt w p q v f) (i : Nat) (u : Value) : WordAt (w.setCell ⟨q, i, none⟩ u) p q v f := by
  obtain ⟨b, o, c, rfl, h1, h2, h3, h4⟩ := h
  exact ⟨b, o, c, rfl, h1, h2, by simpa using h3, fun j hj => by rw [World.cell?_setCell_other _ _ _ _ (by intro e; exact h2 (congrArg Addr.block e).symm)]; exact h4 j hj⟩

/-- what is known at the head of the first loop: m words are there -/
structure XInv (w : World) (k : Bf) (m : Nat) (A : Nat → Value) (wr : World) : Prop where
  below : Below w.heap.size w wr
  size : w.heap.size + 3 ≤ wr.heap.size
  r0 : row wr w.heap.size = some (ba 32 k)
  r1 : row wr (w.heap.size + 1) = some (ba 240 fun _ => 0#8)
  r2 : row wr (w.heap.size + 1 + 1) = some (va 60 A)
  wd : ∀ j, j < m → WordAt wr (w.heap.size + 1) (w.heap.size + 1 + 1) (A j) (offF (axpF k) (4 * j))
theorem XInv.call {w : World} {k : Bf} {m : Nat} {A : Nat → Value} {wr w' : World} (h : XInv w k m A wr) (hb : Below wr.heap.size wr w') : XInv w k m A w' :=
  ⟨onto h.below (by have := h.size; omega) hb, Nat.le_trans h.size hb.size, carry hb h.r0, carry hb h.r1, carry hb h.r2, fun j hj => (h.wd j hj).below hb⟩
/-- one word more -/
theorem XInv.next {w : World} {k : Bf} {m : Nat} {A : Nat → Value} {wr : World} (h : XInv w k m A wr) (v : Value) (hv : WordAt wr (w.heap.size + 1) (w.heap.size + 1 + 1) v (offF (axpF k) (4 * m))) :
    XInv w k (m + 1) (updV A m v) (wr.setCell ⟨w.heap.size + 1 + 1, m, none⟩ v) := by
  refine ⟨h.below.setCell (by simp; omega) _, by simpa using h.size, by rw [row_setCell_other _ _ _ _ (by simp; omega)]; exact h.r0, by rw [row_setCell_other _ _ _ _ (by simp)]; exact h.r1, row_setCellV h.r2 m v, fun j hj => ?_⟩
  by_cases e : j = m
  · subst e; simp only [updV, if_true]; exact hv.setCell _ _
  · simp only [updV, e, if_false]; exact (h.wd j (by omega)).setCell _ _

/-- the word t on its way, in block g, behind a world wr of which nothing has turned -/
structure TInv (wr : World) (g : Nat) (t : Bf) (w' : World) : Prop where
  below : Below wr.heap.size wr w'
  hg : wr.heap.size ≤ g
  lt : g < w'.heap.size
  ct : ∀ i, i < 4 → w'.cell? ⟨g, i, none⟩ = some (.int .u8 (I (t i)))
  fr : ∀ i, w'.frozen? ⟨g, i, none⟩ = false
theorem TInv.drewN {wr : World} {g : Nat} {t : Bf} {w' : World} (h : TInv wr g t w') (n : Nat) : TInv wr g t (w'.drewN n) := ⟨below_drewN h.below n, h.hg, h.lt, h.ct, h.fr⟩
theorem TInv.set {wr : World} {g : Nat} {t : Bf} {w' : World} (h : TInv wr g t w') (i : Nat) (v : BitVec 8) : TInv wr g (upd t i v) (w'.setCell ⟨g, i, none⟩ (.int .u8 (I v))) := by
  refine ⟨h.below.setCell h.hg _, h.hg, by simpa using h.lt, fun j hj => ?_, fun j => by rw [World.frozen?_setCell]; exact h.fr j⟩
  by_cases e : j = i
  · subst e
    rw [World.cell?_setCell_same _ _ _ (h.ct j hj)]; simp [upd]
  · rw [World.cell?_setCell_other _ _ _ _ (fun e' => e (congrArg Addr.off e').symm)]; simp only [upd, e, if_false]; exact h.ct j hj
/-- a literal of four bytes -/
theorem TInv.lit {wr w2 : World} (hb : Below wr.heap.size wr w2) (a b c d : BitVec 8) (ty : TypeId) :
    TInv wr w2.heap.size (fun j => if j = 0 then a else if j = 1 then b else if j = 2 then c else d) (w2.alloc (.cells #[.int .u8 (I a), .int .u8 (I b), .int .u8 (I c), .int .u8 (I d)] ty)) := by
  refine ⟨hb.alloc hb.size _, hb.size, by simp, fun i hi => ?_, fun i => by rw [World.frozen?_alloc_at _ _ _ _ rfl]⟩
  rw [World.cell?_alloc_at _ _ _ _ rfl]
  have : i = 0 ∨ i = 1 ∨ i = 2 ∨ i = 3 := by omega
  rcases this with rfl | rfl | rfl | rfl <;> rfl
/-- an empty slice, and four bytes laid behind it -/
theorem TInv.append {wr w2 : World} {B g cap : Nat} {t : Bf} {ty : TypeId} (hown : w2.ownsRow B ty 1 (.slice (some ⟨g, 0, none⟩) (0 + 4) cap) (0 + 4) ([] ++ (ba 4 t).toList)) (hgrow : (wr.alloc (.cells #[] ty)).grownBy w2 (some wr.heap.size))
    (hat : Value.ownBlock (.slice (some ⟨wr.heap.size, 0, none⟩) 0 0) = some g ∨ g = wr.heap.size + 1) (hlt : g < w2.heap.size) : TInv wr g t w2 := by
  have hg : wr.heap.size ≤ g := by
    rcases hat with h | h
    · have : wr.heap.size = g := by simpa [Value.ownBlock] using h
      omega
    · omega
  rcases hown with ⟨_, ⟨h, _⟩ | ⟨g', cap', cur, hv, _, hh, _, _, hcs, htk⟩⟩
  · cases h
  · have e : g = g' := by injection hv with h1 _ _; injection h1 with h2; exact congrArg Addr.block h2
    subst e
    refine ⟨((Below.refl _ _).alloc (Nat.le_refl _) _).grown hgrow (by simp) (fun k hk => Nat.le_of_eq (Option.some.inj hk)), hg, hlt, fun i hi => ?_, fun i => frozen_of_row w2 g i cur _ hh⟩
    rw [cell_of_row w2 g i cur _ (0, 0) hh, ← Array.getElem?_toList]
    have e2 : (cur.toList.take (4 * 1))[i]? = ((ba 4 t).toList)[i]? := by
      rw [show 4 * 1 = (0 + 4) * 1 from rfl, htk, List.nil_append]
    rw [List.getElem?_take, if_pos (by omega)] at e2
    rw [e2, Array.getElem?_toList, ba_get 4 t i hi]
theorem xword0 (k : Bf) (m : Nat) (h8 : 8 ≤ m) (hm : m < 60) (h0 : m % 8 = 0) {T V : Bf} (hT : T = offF (axpF k) (4 * (m - 1))) (hV : V = offF (axpF k) (4 * (m - 8))) (i : Nat) (hi : i < 4) :
    xorF (fun j => if j = 0 then box (T 1) ^^^ pwr ((m - 1) / 8) else if j = 1 then box (T 2) else if j = 2 then box (T 3) else box (T 0)) V i = offF (axpF k) (4 * m) i := by
  subst hT; subst hV
  unfold xorF
  rw [BitVec.xor_comm]
  show _ = axpF k (4 * m + i)
  rw [exp_rec k m i h8 hm hi]
  unfold newW
  rw [if_pos h0, show (m - 1) / 8 = m / 8 - 1 by omega]
  have : i = 0 ∨ i = 1 ∨ i = 2 ∨ i = 3 := by omega
  rcases this with rfl | rfl | rfl | rfl
  · rfl
  · simp [offF]
  · simp [offF]
  · simp [offF]
theorem xword4 (k : Bf) (m : Nat) (h8 : 8 ≤ m) (hm : m < 60) (h0 : ¬ m % 8 = 0) (h4 : m % 8 = 4) {T V : Bf} (hT : T = offF (axpF k) (4 * (m - 1))) (hV : V = offF (axpF k) (4 * (m - 8))) (i : Nat) (hi : i < 4) :
    xorF (fun j => if j = 0 then box (T 0) else if j = 1 then box (T 1) else if j = 2 then box (T 2) else box (T 3)) V i = offF (axpF k) (4 * m) i := by
  subst hT; subst hV
  unfold xorF
  rw [BitVec.xor_comm]
  show _ = axpF k (4 * m + i)
  rw [exp_rec k m i h8 hm hi]
  unfold newW
  rw [if_neg h0, if_pos h4]
  have : i = 0 ∨ i = 1 ∨ i = 2 ∨ i = 3 := by omega
  rcases this with rfl | rfl | rfl | rfl <;> rfl
theorem xword1 (k : Bf) (m : Nat) (h8 : 8 ≤ m) (hm : m < 60) (h0 : ¬ m % 8 = 0) (h4 : ¬ m % 8 = 4) {T V : Bf} (hT : T = offF (axpF k) (4 * (m - 1))) (hV : V = offF (axpF k) (4 * (m - 8))) (i : Nat) (hi : i < 4) :
    xorF T V i = offF (axpF k) (4 * m) i := by
  subst hT; subst hV
  unfold xorF
  rw [BitVec.xor_comm]
  show _ = axpF k (4 * m + i)
  rw [exp_rec k m i h8 hm hi]
  unfold newW
  rw [if_neg h0, if_neg h4]
  rfl
theorem key_sl (B m : Nat) (hm : m < 8) (w : World) : (Instr.sliceAt 32 (.pointer (some ⟨B, 0, none⟩)) (some (.int .i64 (4 * (m : Int)))) (some (.int .i64 (4 * (m : Int) + 4))) none).run Tryz.prog w = .ok (.slice (some ⟨B, 4 * m, none⟩) 4 (32 - 4 * m)) w := by
  have hL : Tryz.prog.arrayLen 32 = 32 := by kernel_rfl
  have hE : Tryz.prog.elem 32 = 5 := by kernel_rfl
  have hs : (sizeOf 5).run Tryz.prog w = .ok 1 w := by kernel_rfl
  rw [run_sliceAt_array_lh w 32 ⟨B, 0, none⟩ (by kernel_rfl) .i64 .i64 _ _ (by omega) (by omega) (by rw [hL]; omega), hE, hs, hL, Result.andThen_ok]
  have e1 : (4 * (m : Int)).toNat = 4 * m := by omega
  have e2 : (4 * (m : Int) + 4).toNat = 4 * m + 4 := by omega
  rw [e1, e2]
  unfold slicedAt
  rw [if_neg (by omega), add_mid, show 0 + 4 * m * 1 = 4 * m by omega, show 4 * m + 4 - 4 * m = 4 by omega]
set_option maxRecDepth 20000 in
set_option maxHeartbeats 4000000 in
theorem refexpand_any (k : Bf) (w : World) :
    Calls Tryz.prog 69 #[.agg (ba 32 k)] w fun e w' => e = .returned (.agg (ba 240 (axpF k))) ∧ Below w.heap.size w w' := by
  have hmk : ∀ w : World, (Instr.makeSlice 30 (.int .i64 60) (.int .i64 60)).run Tryz.prog w = .ok (.slice (some ⟨w.heap.size, 0, none⟩) 60 60) (w.alloc (.cells (va 60 fun _ => .slice none 0 0) 33)) := fun _ => by unfold va; kernel_rfl
  have X0 : XInv w k 0 (fun _ => .slice none 0 0) (((w.alloc (.cells (ba 32 k) 32)).alloc (.cells (ba 240 fun _ => 0#8) 111)).alloc (.cells (va 60 fun _ => .slice none 0 0) 33)) :=
    ⟨(((Below.refl _ _).alloc (by simp) _).alloc (by simp) _).alloc (by simp; omega) _, by simp, by simp [go_sem], by simp [go_sem], by simp [go_sem], fun j hj => by omega⟩
  have HX0 := Lib.hid X0
  clear X0
  go_enter Tryz.func69, Tryz.ntmps69
  go_wp2
  go_loopw [4, 5] (fun p i wr => ∃ m : Nat, ∃ A : Nat → Value, m ≤ 60 ∧ i = .int .i64 m ∧ p = .int .u8 (I (pwr ((m - 1) / 8))) ∧ XInv w k m A wr) (fun _ i _ => 60 - (intOf i).toNat)
  case atStart => exact ⟨0, _, by omega, rfl, rfl, HX0.out⟩
  case round =>
    clear HX0 hmk
    obtain ⟨m, A, hm, rfl, rfl, hI⟩ := hrel
    obtain ⟨wo, rfl⟩ : ∃ wo : World, wo = wr := ⟨_, rfl⟩
    by_cases hlt : m < 60
    · have hd60 : decide ((m : Int) < 60) = true := by simp; omega
      have hc2 := cell_row hI.r2
      have hf2 := froz_row hI.r2
      by_cases h8 : m < 8
      · have hd8 : decide ((m : Int) < 8) = true := by simp; omega
        have hsl := key_sl w.heap.size m h8
        have hw : WordAt wo (w.heap.size + 1) (w.heap.size + 1 + 1) (.slice (some ⟨w.heap.size, 4 * m, none⟩) 4 (32 - 4 * m)) (offF (axpF k) (4 * m)) :=
          ⟨_, _, _, rfl, by omega, by omega, by have := hI.size; omega, fun i hi => by rw [cell_row hI.r0, ba_get 32 k _ (by omega)]; unfold offF; rw [exp_key k _ (by omega)]⟩
        have HN := Lib.hid (hI.next _ hw)
        have b60 : m < 60 := by omega
        clear hI hw
        go_wp2
        go_roundw
        case rel => exact ⟨m + 1, _, by omega, by go_num, by rw [show (m - 1) / 8 = 0 by omega, show (m + 1 - 1) / 8 = 0 by omega], HN.out⟩
        case measure => simp [intOf]; omega
      · have hd8 : decide ((m : Int) < 8) = false := by simp; omega
        obtain ⟨b1, o1, c1, hA1, n11, n12, l1, ct1⟩ := hI.wd (m - 1) (by omega)
        obtain ⟨bb8, o8, c8, hA8, n81, n82, l8, ct8⟩ := hI.wd (m - 8) (by omega)
        have hm8 : m - 8 < 60 := by omega
        have hlt60 : m < 60 := hlt
        obtain ⟨V, hV⟩ : ∃ V, V = offF (axpF k) (4 * (m - 8)) := ⟨_, rfl⟩
        rw [← hV] at ct8
        have HV := Lib.hid hV
        have HCT8 := Lib.hid ct8
        clear hV ct8
        have hBs : w.heap.size + 1 + 1 < wo.heap.size := by have := hI.size; omega
        have hm1 : m - 1 < 60 := by omega
        obtain ⟨i0, hi, hz0, hz1, hz2⟩ := info_parts u8_info
        obtain ⟨T, hT⟩ : ∃ T, T = offF (axpF k) (4 * (m - 1)) := ⟨_, rfl⟩
        rw [← hT] at ct1
        have hown : (wo.alloc (.cells #[] 5)).ownsRow (w.heap.size + 3) 5 1 (.slice (some ⟨wo.heap.size, 0, none⟩) 0 0) 0 [] :=
          ⟨rfl, .inr ⟨wo.heap.size, 0, #[], rfl, hI.size, heap_alloc_new wo _, by omega, by unfold maxLen; omega, rfl, rfl⟩⟩
        have hnews : ∀ j u, (ba 4 T).toList[j]? = some u → (wo.alloc (.cells #[] 5)).cell? ((⟨b1, o1, none⟩ : Addr).add j) = some u := fun j u hu => by
          rw [Array.getElem?_toList] at hu
          by_cases hj : j < 4
          · rw [ba_get 4 T j hj] at hu
            rw [add_mid, World.cell?_alloc_lt _ _ _ l1, ct1 j hj, hu]
          · rw [ba_none 4 T j hj] at hu; cases hu
        have h1 : ∀ u ∈ (ba 4 T).toList, u.oneCell' = true := fun u hu => (Array.all_eq_true_iff_forall_mem.1 (ba_one 4 T)) u (by simpa using hu)
        have hl4 : (ba 4 T).toList.length = 4 * 1 := by rw [Array.length_toList, ba_size]
        have hbase : w.heap.size + 3 ≤ (wo.alloc (.cells #[] 5)).heap.size := by have := hI.size; simp; omega
        have HT := Lib.hid hT
        have HI := Lib.hid hI
        have HL := Lib.hid hl4
        have HO := Lib.hid hown
        have HNW := Lib.hid hnews
        have H1 := Lib.hid h1
        have HBASE := Lib.hid hbase
        have HCT := Lib.hid ct1
        have hi' := Lib.hid hi
        have hz0' := Lib.hid hz0
        have hz1' := Lib.hid hz1
        have hz2' := Lib.hid hz2
        clear hI hown hnews h1 hl4 hbase hT ct1 hi hz0 hz1 hz2
        have HTA := fun (w2 : World) (g cap : Nat) h1 h2 h3 h4 => TInv.append (wr := wo) (w2 := w2) (B := w.heap.size + 3) (g := g) (cap := cap) (t := T) (ty := 5) h1 h2 h3 h4
        have HAPP := Lib.hid HTA
        clear HTA
        by_cases hm0 : m % 8 = 0
        · have hd0 : ((m : Int) % 8 == 0) = true := by simp; omega
          have hd4 : ((m : Int) % 8 == 4) = false := by simp; omega
          go_wp2_with (at_builtin; refine wpList_append_lies _ rfl _ _ 33 rfl (w.heap.size + 3) 5 i0 (.int .u8 0) 1 1 Tryz.underlying33 hi'.out hz0'.out hz1'.out hz2'.out rfl (by decide) _ 0 [] rfl HO.out ⟨b1, o1, none⟩ 4 c1 (ba 4 T).toList rfl HL.out HNW.out H1.out (by decide) (by unfold maxLen; decide) (by decide) HBASE.out (wo.heap.size + 1) (by simp) ?_; intro g cap w2 hown2 hgrow hat hlt)
          have ht := HAPP.out _ _ _ hown2 hgrow hat hlt
          clear hown2 hgrow hat hlt hc2 hf2
          have e0 := ht.ct 0 (by omega)
          have e1 := ht.ct 1 (by omega)
          have e2 := ht.ct 2 (by omega)
          have e3 := ht.ct 3 (by omega)
          have HTB := Lib.hid ht.below
          clear ht
          refine quiet_tail 18 (by kernel_rfl) (by kernel_rfl) (fun _ _ _ _ _ h => h) ?_
          simp only [List.take_succ_cons, List.take_zero, List.drop_succ_cons, List.drop_zero]
          repeat (go_big_quiet_step ((first | (with_reducible refine Calls.quiet_of (rbox_any (T 0) rfl _)) | (with_reducible refine Calls.quiet_of (rbox_any (T 1) rfl _)) | (with_reducible refine Calls.quiet_of (rbox_any (T 2) rfl _)) | (with_reducible refine Calls.quiet_of (rbox_any (T 3) rfl _)))))
          refine wpQuiet_nil ?_
          rintro _ ⟨nq, rfl⟩
          clear e0 e1 e2 e3
          have HPW := Lib.hid (show mul (pwr ((m - 1) / 8)) 2#8 = pwr ((m + 1 - 1) / 8) by rw [mul_two, show (m + 1 - 1) / 8 = (m - 1) / 8 + 1 by omega]; rfl)
          go_wp2_with (go_at_call 87; (refine (rmul_any (pwr ((m - 1) / 8)) 2#8 rfl two8 _).mono ?_); rintro e w' ⟨rfl, rfl⟩)
          obtain ⟨U, hU⟩ : ∃ U, U = (fun j => if j = 0 then box (T 1) ^^^ pwr ((m - 1) / 8) else if j = 1 then box (T 2) else if j = 2 then box (T 3) else box (T 0)) := ⟨_, rfl⟩
          have HU := Lib.hid hU
          have HTI := Lib.hid (show TInv wo w2.heap.size U _ from by rw [hU]; exact (TInv.lit HTB.out _ _ _ _ 5).drewN nq)
          clear hU
          go_loopw [7] (fun j wq => ∃ r : Nat, r ≤ 4 ∧ j = .int .i64 r ∧ TInv wo w2.heap.size (upto r (xorF U V) U) wq) (fun j _ => 4 - (intOf j).toNat)
          case atStart => exact ⟨0, by omega, rfl, by rw [upto_zero]; exact HTI.out⟩
          case round =>
            clear HTI
            obtain ⟨r, hr, rfl, hq⟩ := hrel
            have hc2 := cell_row (carry hq.below HI.out.r2)
            have hf2 := froz_row (carry hq.below HI.out.r2)
            by_cases hlr : r < 4
            · have hct := hq.ct r hlr
              rw [upto_at] at hct
              have hfr := hq.fr
              have hc8 : wr.cell? ⟨bb8, o8 + r, none⟩ = some (.int .u8 (I (V r))) := by rw [hq.below.cell (p := ⟨bb8, o8 + r, none⟩) l8]; exact HCT8.out r hlr
              have HQ := Lib.hid hq
              have HS := Lib.hid (upto_step r (xorF U V) U)
              clear hq
              go_wp2
              refine quiet_tail 16 (by kernel_rfl) (by kernel_rfl) (fun _ _ _ _ _ h => h) ?_
              simp only [List.take_succ_cons, List.take_zero, List.drop_succ_cons, List.drop_zero]
              repeat (go_big_quiet_step (fail))
              refine wpQuiet_nil ?_
              rintro _ ⟨nq, rfl⟩
              go_wp2
              go_roundw
              case rel => exact ⟨r + 1, by omega, by go_num, by rw [← HS.out]; exact (HQ.out.drewN nq).set r _⟩
              case measure => simp [intOf]; omega
            · obtain rfl : r = 4 := by omega
              have HN := Lib.hid ((HI.out.call hq.below).next (.slice (some ⟨w2.heap.size, 0, none⟩) 4 4) ⟨_, _, _, rfl, by have := hq.hg; omega, by have := hq.hg; omega, hq.lt, fun i hi => by
                rw [Nat.zero_add, hq.ct i hi]
                simp only [upto, hi, if_true]
                rw [HU.out, xword0 k m (by omega) hlt60 hm0 HT.out HV.out i hi]⟩)
              clear hq
              go_wp2
              go_roundw
              case rel => exact ⟨m + 1, _, by omega, by go_num, by rw [HPW.out], HN.out⟩
              case measure => simp [intOf]; omega
        · have hd0 : ((m : Int) % 8 == 0) = false := by simp; omega
          by_cases hm4 : m % 8 = 4
          · have hd4 : ((m : Int) % 8 == 4) = true := by simp; omega
            go_wp2_with (at_builtin; refine wpList_append_lies _ rfl _ _ 33 rfl (w.heap.size + 3) 5 i0 (.int .u8 0) 1 1 Tryz.underlying33 hi'.out hz0'.out hz1'.out hz2'.out rfl (by decide) _ 0 [] rfl HO.out ⟨b1, o1, none⟩ 4 c1 (ba 4 T).toList rfl HL.out HNW.out H1.out (by decide) (by unfold maxLen; decide) (by decide) HBASE.out (wo.heap.size + 1) (by simp) ?_; intro g cap w2 hown2 hgrow hat hlt)
            have ht := HAPP.out _ _ _ hown2 hgrow hat hlt
            clear hown2 hgrow hat hlt hc2 hf2
            have e0 := ht.ct 0 (by omega)
            have e1 := ht.ct 1 (by omega)
            have e2 := ht.ct 2 (by omega)
            have e3 := ht.ct 3 (by omega)
            have HTB := Lib.hid ht.below
            clear ht
            refine quiet_tail 16 (by kernel_rfl) (by kernel_rfl) (fun _ _ _ _ _ h => h) ?_
            simp only [List.take_succ_cons, List.take_zero, List.drop_succ_cons, List.drop_zero]
            repeat (go_big_quiet_step ((first | (with_reducible refine Calls.quiet_of (rbox_any (T 0) rfl _)) | (with_reducible refine Calls.quiet_of (rbox_any (T 1) rfl _)) | (with_reducible refine Calls.quiet_of (rbox_any (T 2) rfl _)) | (with_reducible refine Calls.quiet_of (rbox_any (T 3) rfl _)))))
            refine wpQuiet_nil ?_
            rintro _ ⟨nq, rfl⟩
            clear e0 e1 e2 e3
            go_wp2
            obtain ⟨U, hU⟩ : ∃ U, U = (fun j => if j = 0 then box (T 0) else if j = 1 then box (T 1) else if j = 2 then box (T 2) else box (T 3)) := ⟨_, rfl⟩
            have HU := Lib.hid hU
            have HTI := Lib.hid (show TInv wo w2.heap.size U _ from by rw [hU]; exact (TInv.lit HTB.out _ _ _ _ 5).drewN nq)
            clear hU
            go_loopw [7] (fun j wq => ∃ r : Nat, r ≤ 4 ∧ j = .int .i64 r ∧ TInv wo w2.heap.size (upto r (xorF U V) U) wq) (fun j _ => 4 - (intOf j).toNat)
            case atStart => exact ⟨0, by omega, rfl, by rw [upto_zero]; exact HTI.out⟩
            case round =>
              clear HTI
              obtain ⟨r, hr, rfl, hq⟩ := hrel
              have hc2 := cell_row (carry hq.below HI.out.r2)
              have hf2 := froz_row (carry hq.below HI.out.r2)
              by_cases hlr : r < 4
              · have hct := hq.ct r hlr
                rw [upto_at] at hct
                have hfr := hq.fr
                have hc8 : wr.cell? ⟨bb8, o8 + r, none⟩ = some (.int .u8 (I (V r))) := by rw [hq.below.cell (p := ⟨bb8, o8 + r, none⟩) l8]; exact HCT8.out r hlr
                have HQ := Lib.hid hq
                have HS := Lib.hid (upto_step r (xorF U V) U)
                clear hq
                go_wp2
                refine quiet_tail 16 (by kernel_rfl) (by kernel_rfl) (fun _ _ _ _ _ h => h) ?_
                simp only [List.take_succ_cons, List.take_zero, List.drop_succ_cons, List.drop_zero]
                repeat (go_big_quiet_step (fail))
                refine wpQuiet_nil ?_
                rintro _ ⟨nq, rfl⟩
                go_wp2
                go_roundw
                case rel => exact ⟨r + 1, by omega, by go_num, by rw [← HS.out]; exact (HQ.out.drewN nq).set r _⟩
                case measure => simp [intOf]; omega
              · obtain rfl : r = 4 := by omega
                have HN := Lib.hid ((HI.out.call hq.below).next (.slice (some ⟨w2.heap.size, 0, none⟩) 4 4) ⟨_, _, _, rfl, by have := hq.hg; omega, by have := hq.hg; omega, hq.lt, fun i hi => by
                  rw [Nat.zero_add, hq.ct i hi]
                  simp only [upto, hi, if_true]
                  rw [HU.out, xword4 k m (by omega) hlt60 hm0 hm4 HT.out HV.out i hi]⟩)
                clear hq
                go_wp2
                go_roundw
                case rel => exact ⟨m + 1, _, by omega, by go_num, by rw [show (m - 1) / 8 = (m + 1 - 1) / 8 by omega], HN.out⟩
                case measure => simp [intOf]; omega
          · have hd4 : ((m : Int) % 8 == 4) = false := by simp; omega
            go_wp2_with (at_builtin; refine wpList_append_lies _ rfl _ _ 33 rfl (w.heap.size + 3) 5 i0 (.int .u8 0) 1 1 Tryz.underlying33 hi'.out hz0'.out hz1'.out hz2'.out rfl (by decide) _ 0 [] rfl HO.out ⟨b1, o1, none⟩ 4 c1 (ba 4 T).toList rfl HL.out HNW.out H1.out (by decide) (by unfold maxLen; decide) (by decide) HBASE.out (wo.heap.size + 1) (by simp) ?_; intro g cap w2 hown2 hgrow hat hlt)
            have ht := HAPP.out _ _ _ hown2 hgrow hat hlt
            clear hown2 hgrow hat hlt hc2 hf2
            obtain ⟨U, hU⟩ : ∃ U, U = T := ⟨_, rfl⟩
            have HU := Lib.hid hU
            have HTI := Lib.hid (show TInv wo g U _ from by rw [hU]; exact ht)
            clear hU
            go_loopw [7] (fun j wq => ∃ r : Nat, r ≤ 4 ∧ j = .int .i64 r ∧ TInv wo g (upto r (xorF U V) U) wq) (fun j _ => 4 - (intOf j).toNat)
            case atStart => exact ⟨0, by omega, rfl, by rw [upto_zero]; exact HTI.out⟩
            case round =>
              clear HTI
              obtain ⟨r, hr, rfl, hq⟩ := hrel
              have hc2 := cell_row (carry hq.below HI.out.r2)
              have hf2 := froz_row (carry hq.below HI.out.r2)
              by_cases hlr : r < 4
              · have hct := hq.ct r hlr
                rw [upto_at] at hct
                have hfr := hq.fr
                have hc8 : wr.cell? ⟨bb8, o8 + r, none⟩ = some (.int .u8 (I (V r))) := by rw [hq.below.cell (p := ⟨bb8, o8 + r, none⟩) l8]; exact HCT8.out r hlr
                have HQ := Lib.hid hq
                have HS := Lib.hid (upto_step r (xorF U V) U)
                clear hq
                go_wp2
                refine quiet_tail 16 (by kernel_rfl) (by kernel_rfl) (fun _ _ _ _ _ h => h) ?_
                simp only [List.take_succ_cons, List.take_zero, List.drop_succ_cons, List.drop_zero]
                repeat (go_big_quiet_step (fail))
                refine wpQuiet_nil ?_
                rintro _ ⟨nq, rfl⟩
                go_wp2
                go_roundw
                case rel => exact ⟨r + 1, by omega, by go_num, by rw [← HS.out]; exact (HQ.out.drewN nq).set r _⟩
                case measure => simp [intOf]; omega
              · obtain rfl : r = 4 := by omega
                have HN := Lib.hid ((HI.out.call hq.below).next (.slice (some ⟨g, 0, none⟩) 4 cap) ⟨_, _, _, rfl, by have := hq.hg; omega, by have := hq.hg; omega, hq.lt, fun i hi => by
                  rw [Nat.zero_add, hq.ct i hi]
                  simp only [upto, hi, if_true]
                  rw [HU.out, xword1 k m (by omega) hlt60 hm0 hm4 HT.out HV.out i hi]⟩)
                clear hq
                go_wp2
                go_roundw
                case rel => exact ⟨m + 1, _, by omega, by go_num, by rw [show (m - 1) / 8 = (m + 1 - 1) / 8 by omega], HN.out⟩
                case measure => simp [intOf]; omega
    · obtain rfl : m = 60 := by omega
      clear hlt
      rw [show ((60 : Nat) : Int) = 60 from rfl]
      have hd60 : decide ((60 : Int) < 60) = false := by decide
      have HI := Lib.hid hI
      obtain ⟨F, hF⟩ : ∃ F, F = axpF k := ⟨_, rfl⟩
      have HF := Lib.hid hF
      clear hI hF
      go_wp2
      clear hd60
      go_loopw [9] (fun i wq => ∃ c : Nat, c ≤ 60 ∧ i = .int .i64 c ∧ ∃ n, wq = (wo.alloc (.cells (ba 240 (upto (4 * c) F fun _ => 0#8)) 111)).drewN n) (fun i _ => 60 - (intOf i).toNat)
      case atStart => exact ⟨0, by omega, rfl, 0, by rw [Nat.mul_zero, upto_zero]; rfl⟩
      case round =>
        obtain ⟨c, hc, rfl, n, rfl⟩ := hrel
        by_cases hlc : c < 60
        · have hd : decide ((c : Int) < 60) = true := by simp; omega
          obtain ⟨b, o, cc, hA, n1, n2, lb, hct⟩ := HI.out.wd c hlc
          have HCT := Lib.hid hct
          clear hct
          go_wp2
          go_loopw [10] (fun j wq => ∃ r : Nat, r ≤ 4 ∧ j = .int .i64 r ∧ ∃ n, wq = (wo.alloc (.cells (ba 240 (upto (4 * c + r) F fun _ => 0#8)) 111)).drewN n) (fun j _ => 4 - (intOf j).toNat)
          case atStart => exact ⟨0, by omega, rfl, n, rfl⟩
          case round =>
            obtain ⟨r, hr, rfl, n3, rfl⟩ := hrel
            by_cases hlr : r < 4
            · have hcr := HCT.out r hlr
              have hc2 := cell_row HI.out.r2
              have HS := Lib.hid (upto_step (4 * c + r) F fun _ => 0#8)
              have hBs : w.heap.size + 1 + 1 < wo.heap.size := by have := HI.out.size; omega
              have b1 : c / 4 * 16 + (c % 4 * 4 + r) < 240 := by omega
              have E1 := Lib.hid (show c / 4 * 16 + (c % 4 * 4 + r) = 4 * c + r by omega)
              have E2 := Lib.hid (show offF (axpF k) (4 * c) r = F (4 * c + r) by rw [HF.out]; rfl)
              go_wp2
              refine quiet_tail 16 (by kernel_rfl) (by kernel_rfl) (fun _ _ _ _ _ h => h) ?_
              simp only [List.take_succ_cons, List.take_zero, List.drop_succ_cons, List.drop_zero]
              repeat (go_big_quiet_step (fail))
              refine wpQuiet_nil ?_
              rintro _ ⟨nq, rfl⟩
              go_wp2
              go_roundw
              case rel => exact ⟨r + 1, by omega, by go_num, _, by rw [E1.out, E2.out, HS.out]; rfl⟩
              case measure => simp [intOf]; omega
            · obtain rfl : r = 4 := by omega
              go_wp2
              go_roundw
              case rel => exact ⟨c + 1, by omega, by go_num, _, rfl⟩
              case measure => simp [intOf]; omega
        · obtain rfl : c = 60 := by omega
          rw [show 4 * 60 = 240 from rfl, upto_all]
          have r1 := row_alloc HI.out.r1 (.cells (ba 240 F) 111)
          have HB := Lib.hid (below_drewN (HI.out.below.alloc (by have := HI.out.size; omega) (.cells (ba 240 F) 111)) n)
          go_wp2
          rw [← HF.out]
          refine bodyPost_ret (v := .agg (ba 240 F)) (res_row rfl _ _ (w.heap.size + 1) _ _ _ rfl (by rw [row_drewN]; exact row_setRow r1 _) bks_u (by rw [ba_size]; exact bks_i)) rfl ⟨rfl, ?_⟩
          exact below_setRow HB.out (by omega) _
end Go.Proofs.YtamemjldafoolaaGreat.Oct
