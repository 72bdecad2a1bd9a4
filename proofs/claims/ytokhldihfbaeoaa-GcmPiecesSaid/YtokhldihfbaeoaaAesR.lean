/- Contracts of the reference's box table and round. -/
import Derived.Test.YtokhldihfbaeoaaAesE
import Derived.Test.YtokhldihfbaeoaaSeen
namespace Go.Proofs.Ytokhldihfbaeoaa.Oct
open Go.ChangeShapes Go.WideShapes Go.ChangeAt Go.RowKit

def boxF : Bf := fun i => box (BitVec.ofNat 8 i)
theorem two8 : (2 : Int) = I 2#8 := rfl
theorem three8 : (3 : Int) = I 3#8 := rfl
theorem boxF_at (v : BitVec 8) : boxF (I v).toNat = box v := by
  unfold boxF I
  rw [Int.toNat_natCast]
  congr 1
  apply BitVec.eq_of_toNat_eq
  rw [BitVec.toNat_ofNat, Nat.mod_eq_of_lt v.isLt]
theorem I_ofNat (k : Nat) (h : k < 256) : (k : Int) = I (BitVec.ofNat 8 k) := by
  unfold I; rw [BitVec.toNat_ofNat, Nat.mod_eq_of_lt h]

set_option maxRecDepth 20000 in
set_option maxHeartbeats 1000000 in
theorem rboxes_any (w : World) :
    Calls Try.prog 25 #[] w fun e w' => e = .returned (.agg (ba 256 boxF)) ∧ Below w.heap.size w w' := by
  go_enter Try.func25, Try.ntmps25
  go_wp2
  go_loopw [2] (fun i wr => ∃ k : Nat, k ≤ 256 ∧ i = .int .i64 k ∧ ∃ n, wr = ((w.alloc (.cells (ba 256 fun _ => 0#8) 53)).alloc (.cells (ba 256 (upto k boxF fun _ => 0#8)) 53)).drewN n) (fun i _ => 256 - (intOf i).toNat)
  case atStart => exact ⟨0, by omega, rfl, 0, by rw [upto_zero]; rfl⟩
  case round =>
    obtain ⟨k, hk, rfl, n, rfl⟩ := hrel
    by_cases hlt : k < 256
    · have H := Lib.hid (upto_step k boxF fun _ => 0#8)
      have hc : (0 : Int) ≤ k ∧ (k : Int) ≤ 255 := by omega
      have HK := Lib.hid (I_ofNat k hlt)
      go_wp2_with (go_at_call 41; (refine (rbox_any (BitVec.ofNat 8 k) HK.out _).mono ?_); rintro e w' ⟨rfl, m, rfl⟩)
      go_roundw
      case rel => exact ⟨k + 1, by omega, by go_num, _, by rw [← H.out]; rfl⟩
      case measure => simp [intOf]; omega
    · obtain rfl : k = 256 := by omega
      rw [upto_all]
      go_wp2
      refine bodyPost_ret (v := .agg (ba 256 boxF)) (res_row rfl _ _ w.heap.size _ _ _ rfl (by simp [go_sem]) box_u (by rw [ba_size]; exact box_i)) rfl ⟨rfl, ?_⟩
      exact below_drewN (((Below.refl _ _).alloc (by simp) _).alloc (by simp) _) _

theorem rround_t (s : Bf) (c r : Nat) (hr : r < 4) : shiftF (subF s) (4 * c + r) = boxF (I (s (4 * ((c + r) % 4) + r))).toNat := by
  rw [boxF_at]
  unfold shiftF subF
  rw [show (4 * c + r) / 4 = c by omega, show (4 * c + r) % 4 = r by omega, Nat.mul_comm]
theorem rround_m (t : Bf) (c r : Nat) (hr : r < 4) : mixF t (4 * c + r) = ((mul (t (4 * c + r)) 2#8 ^^^ mul (t (4 * c + (r + 1) % 4)) 3#8) ^^^ t (4 * c + (r + 2) % 4)) ^^^ t (4 * c + (r + 3) % 4) := by
  unfold mixF
  rw [show (4 * c + r) / 4 = c by omega, show (4 * c + r) % 4 = r by omega]
  exact (BitVec.xor_assoc _ _ _).symm

set_option maxRecDepth 20000 in
set_option maxHeartbeats 4000000 in
theorem rround_any (s k : Bf) (last : Bool) (w : World) :
    Calls Try.prog 43 #[.agg (ba 16 s), .agg (ba 16 k), .bool last, .agg (ba 256 boxF)] w fun e w' => e = .returned (.agg (ba 16 (rndF s k last))) ∧ Below w.heap.size w w' := by
  go_enter Try.func43, Try.ntmps43
  go_wp2
  go_loopw [10] (fun i wr => ∃ c : Nat, c ≤ 4 ∧ i = .int .i64 c ∧ wr = ((((w.alloc (.cells (ba 16 s) 35)).alloc (.cells (ba 16 k) 35)).alloc (.cells (ba 256 boxF) 53)).alloc (.cells (ba 16 fun _ => 0#8) 35)).alloc (.cells (ba 16 (upto (4 * c) (shiftF (subF s)) fun _ => 0#8)) 35)) (fun i _ => 4 - (intOf i).toNat)
  case atStart => exact ⟨0, by omega, rfl, by rw [Nat.mul_zero, upto_zero]⟩
  case round =>
    obtain ⟨c, hc, rfl, rfl⟩ := hrel
    by_cases hlt : c < 4
    · have hd : decide ((c : Int) < 4) = true := by simp; omega
      go_wp2
      go_loopw [11] (fun i wr => ∃ r : Nat, r ≤ 4 ∧ i = .int .i64 r ∧ wr = ((((w.alloc (.cells (ba 16 s) 35)).alloc (.cells (ba 16 k) 35)).alloc (.cells (ba 256 boxF) 53)).alloc (.cells (ba 16 fun _ => 0#8) 35)).alloc (.cells (ba 16 (upto (4 * c + r) (shiftF (subF s)) fun _ => 0#8)) 35)) (fun i _ => 4 - (intOf i).toNat)
      case atStart => exact ⟨0, by omega, rfl, rfl⟩
      case round =>
        obtain ⟨r, hr, rfl, rfl⟩ := hrel
        by_cases hlr : r < 4
        · have H := Lib.hid (upto_step (4 * c + r) (shiftF (subF s)) fun _ => 0#8)
          have H2 := Lib.hid (rround_t s c r hlr)
          have b1 : 4 * ((c + r) % 4) + r < 16 := by omega
          have b2 : 4 * c + r < 16 := by omega
          obtain ⟨v0, v1⟩ := I_bd (s (4 * ((c + r) % 4) + r))
          have b3 : (I (s (4 * ((c + r) % 4) + r))).toNat < 256 := by omega
          go_wp2
          go_roundw
          case rel => exact ⟨r + 1, by omega, by go_num, by rw [← H2.out, H.out]; rfl⟩
          case measure => simp [intOf]; omega
        · obtain rfl : r = 4 := by omega
          go_wp2
          go_roundw
          case rel => exact ⟨c + 1, by omega, by go_num, rfl⟩
          case measure => simp [intOf]; omega
    · obtain rfl : c = 4 := by omega
      rw [show 4 * 4 = 16 from rfl, upto_all, show ((4 : Nat) : Int) = 4 from rfl]
      have hd4 : decide ((4 : Int) < 4) = false := by decide
      go_wp2
      clear hd4
      obtain ⟨T, hT⟩ : ∃ T, T = shiftF (subF s) := ⟨_, rfl⟩
      rw [← hT]
      have HT := Lib.hid hT
      clear hT
      cases last
      · go_loopw [13] (fun i wr => ∃ c : Nat, c ≤ 4 ∧ i = .int .i64 c ∧ ∃ n, wr = ((((((w.alloc (.cells (ba 16 s) 35)).alloc (.cells (ba 16 k) 35)).alloc (.cells (ba 256 boxF) 53)).alloc (.cells (ba 16 fun _ => 0#8) 35)).alloc (.cells (ba 16 T) 35)).alloc (.cells (ba 16 (upto (4 * c) (mixF T) T)) 35)).drewN n) (fun i _ => 4 - (intOf i).toNat)
        case atStart => exact ⟨0, by omega, rfl, 0, by rw [Nat.mul_zero, upto_zero]; rfl⟩
        case round =>
          obtain ⟨c, hc, rfl, n, rfl⟩ := hrel
          by_cases hlt : c < 4
          · have hd : decide ((c : Int) < 4) = true := by simp; omega
            go_wp2
            go_loopw [14] (fun i wr => ∃ r : Nat, r ≤ 4 ∧ i = .int .i64 r ∧ ∃ n, wr = ((((((w.alloc (.cells (ba 16 s) 35)).alloc (.cells (ba 16 k) 35)).alloc (.cells (ba 256 boxF) 53)).alloc (.cells (ba 16 fun _ => 0#8) 35)).alloc (.cells (ba 16 T) 35)).alloc (.cells (ba 16 (upto (4 * c + r) (mixF T) T)) 35)).drewN n) (fun i _ => 4 - (intOf i).toNat)
            case atStart => exact ⟨0, by omega, rfl, n, rfl⟩
            case round =>
              obtain ⟨r, hr, rfl, n2, rfl⟩ := hrel
              by_cases hlr : r < 4
              · have H := Lib.hid (upto_step (4 * c + r) (mixF T) T)
                have H2 := Lib.hid (rround_m T c r hlr)
                have b0 : 4 * c + r < 16 := by omega
                have b1 : 4 * c + (r + 1) % 4 < 16 := by omega
                have b2 : 4 * c + (r + 2) % 4 < 16 := by omega
                have b3 : 4 * c + (r + 3) % 4 < 16 := by omega
                go_wp2
                refine quiet_tail 28 (by kernel_rfl) (by kernel_rfl) (fun _ _ _ _ _ h => h) ?_
                simp only [List.take_succ_cons, List.take_zero, List.drop_succ_cons, List.drop_zero]
                repeat (go_big_quiet_step ((first | ((with_reducible refine (rmul_any (T (4 * c + r)) 2#8 rfl two8 _).mono ?_); rintro e w' ⟨rfl, rfl⟩; exact ⟨rfl, _, rfl⟩) | ((with_reducible refine (rmul_any (T (4 * c + (r + 1) % 4)) 3#8 rfl three8 _).mono ?_); rintro e w' ⟨rfl, rfl⟩; exact ⟨rfl, _, rfl⟩))))
                refine wpQuiet_nil ?_
                rintro _ ⟨m, rfl⟩
                go_wp2
                go_roundw
                case rel => exact ⟨r + 1, by omega, by go_num, _, by rw [← H2.out, H.out]; rfl⟩
                case measure => simp [intOf]; omega
              · obtain rfl : r = 4 := by omega
                go_wp2
                go_roundw
                case rel => exact ⟨c + 1, by omega, by go_num, _, rfl⟩
                case measure => simp [intOf]; omega
          · obtain rfl : c = 4 := by omega
            rw [show 4 * 4 = 16 from rfl, upto_all, show ((4 : Nat) : Int) = 4 from rfl]
            have hd4 : decide ((4 : Int) < 4) = false := by decide
            go_wp2
            clear hd4
            go_loopw [17] (fun i wr => ∃ c : Nat, c ≤ 16 ∧ i = .int .i64 c ∧ ∃ n, wr = ((((((w.alloc (.cells (ba 16 s) 35)).alloc (.cells (ba 16 k) 35)).alloc (.cells (ba 256 boxF) 53)).alloc (.cells (ba 16 fun _ => 0#8) 35)).alloc (.cells (ba 16 T) 35)).alloc (.cells (ba 16 (upto c (xorF (mixF T) k) (mixF T))) 35)).drewN n) (fun i _ => 16 - (intOf i).toNat)
            case atStart => exact ⟨0, by omega, rfl, _, by rw [upto_zero]⟩
            case round =>
              obtain ⟨c, hc, rfl, n, rfl⟩ := hrel
              by_cases hlt : c < 16
              · have H := Lib.hid (upto_step c (xorF (mixF T) k) (mixF T))
                go_wp2
                refine quiet_tail 9 (by kernel_rfl) (by kernel_rfl) (fun _ _ _ _ _ h => h) ?_
                simp only [List.take_succ_cons, List.take_zero, List.drop_succ_cons, List.drop_zero]
                repeat (go_big_quiet_step (fail))
                refine wpQuiet_nil ?_
                rintro _ ⟨m, rfl⟩
                go_wp2
                go_roundw
                case rel => exact ⟨c + 1, by omega, by go_num, _, by rw [← H.out]; rfl⟩
                case measure => simp [intOf]; omega
              · obtain rfl : c = 16 := by omega
                rw [upto_all]
                go_wp2
                have hv : ba 16 (xorF (mixF T) k) = ba 16 (rndF s k false) := by rw [HT.out]; rfl
                rw [hv]
                refine bodyPost_ret (v := .agg (ba 16 (rndF s k false))) (res_row rfl _ _ (w.heap.size + 1 + 1 + 1) _ _ _ rfl (by simp [go_sem]) blk_u (by rw [ba_size]; exact blk_i)) rfl ⟨rfl, ?_⟩
                exact below_drewN (((((((Below.refl _ _).alloc (by simp) _).alloc (by simp) _).alloc (by simp; omega) _).alloc (by simp; omega) _).alloc (by simp; omega) _).alloc (by simp; omega) _) _
      · go_loopw [13] (fun i wr => i = .int .i64 0 ∧ ∃ n, wr = ((((((w.alloc (.cells (ba 16 s) 35)).alloc (.cells (ba 16 k) 35)).alloc (.cells (ba 256 boxF) 53)).alloc (.cells (ba 16 fun _ => 0#8) 35)).alloc (.cells (ba 16 T) 35)).alloc (.cells (ba 16 T) 35)).drewN n) (fun _ _ => 0)
        case atStart => exact ⟨rfl, 0, rfl⟩
        case round =>
          obtain ⟨rfl, n, rfl⟩ := hrel
          go_wp2
          go_loopw [17] (fun i wr => ∃ c : Nat, c ≤ 16 ∧ i = .int .i64 c ∧ ∃ n, wr = ((((((w.alloc (.cells (ba 16 s) 35)).alloc (.cells (ba 16 k) 35)).alloc (.cells (ba 256 boxF) 53)).alloc (.cells (ba 16 fun _ => 0#8) 35)).alloc (.cells (ba 16 T) 35)).alloc (.cells (ba 16 (upto c (xorF T k) T)) 35)).drewN n) (fun i _ => 16 - (intOf i).toNat)
          case atStart => exact ⟨0, by omega, rfl, _, by rw [upto_zero]⟩
          case round =>
            obtain ⟨c, hc, rfl, n, rfl⟩ := hrel
            by_cases hlt : c < 16
            · have H := Lib.hid (upto_step c (xorF T k) T)
              go_wp2
              refine quiet_tail 9 (by kernel_rfl) (by kernel_rfl) (fun _ _ _ _ _ h => h) ?_
              simp only [List.take_succ_cons, List.take_zero, List.drop_succ_cons, List.drop_zero]
              repeat (go_big_quiet_step (fail))
              refine wpQuiet_nil ?_
              rintro _ ⟨m, rfl⟩
              go_wp2
              go_roundw
              case rel => exact ⟨c + 1, by omega, by go_num, _, by rw [← H.out]; rfl⟩
              case measure => simp [intOf]; omega
            · obtain rfl : c = 16 := by omega
              rw [upto_all]
              go_wp2
              have hv : ba 16 (xorF T k) = ba 16 (rndF s k true) := by rw [HT.out]; rfl
              rw [hv]
              refine bodyPost_ret (v := .agg (ba 16 (rndF s k true))) (res_row rfl _ _ (w.heap.size + 1 + 1 + 1) _ _ _ rfl (by simp [go_sem]) blk_u (by rw [ba_size]; exact blk_i)) rfl ⟨rfl, ?_⟩
              exact below_drewN (((((((Below.refl _ _).alloc (by simp) _).alloc (by simp) _).alloc (by simp; omega) _).alloc (by simp; omega) _).alloc (by simp; omega) _).alloc (by simp; omega) _) _
end Go.Proofs.Ytokhldihfbaeoaa.Oct
