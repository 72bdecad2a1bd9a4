/- Contracts of sha's small functions, and of the reference's 'right'. -/
import Derived.Test.YtjebkokkgkkogaaDoorShaMath
import Derived.Test.YtjebkokkgkkogaaDoorTyW
import Derived.WalkKit
import Derived.ProofKit
import Derived.OpenShut
import Derived.Lib.Hide
import Derived.Outline
namespace Go.Proofs.YtjebkokkgkkogaaDoor.Oct
open Go.ChangeShapes Go.WideShapes Go.ChangeAt Go.RowKit
set_option linter.unusedVariables false

set_option maxHeartbeats 400000 in
theorem rotl_any (x : BitVec 32) (n : Nat) (h0 : 0 < n) (h1 : n < 32) (k : Int) (hk : k = -(n : Int)) (w : World) :
    Calls Tryd.prog 34 #[.int .u32 (M x), .int .i64 k] w fun e w' => e = .returned (.int .u32 (M (rotr x n))) ∧ w' = w := by
  subst hk
  obtain ⟨s, hs⟩ : ∃ s, s + n = 32 := ⟨32 - n, by omega⟩
  have e1 : bits .and .u64 (IntKind.u64.wrap (-(n : Int))) 31 = (s : Int) := by
    have e : IntKind.u64.wrap (-(n : Int)) = ((18446744073709551616 - n : Nat) : Int) := by
      show (-(n : Int)) % 18446744073709551616 = _
      omega
    rw [e]
    refine (u64_and_nat (18446744073709551616 - n) 31 (by omega) (by omega)).trans ?_
    rw [show (31 : Nat) = 2 ^ 5 - 1 from rfl, Nat.and_two_pow_sub_one_eq_mod]
    omega
  have HR := Lib.hid (show x <<< s ||| x >>> n = rotr x n by unfold rotr; rw [BitVec.or_comm, show 32 - n = s by omega])
  have e2 : IntKind.u64.wrap (32 - (s : Int)) = (n : Int) := by
    show (32 - (s : Int)) % 18446744073709551616 = _
    omega
  have e3 : (32 : Int) - (s : Int) = (n : Int) := by omega
  clear hs
  go_enter Tryd.func34, Tryd.ntmps34
  go_wp2
  rw [HR.out]
  go_ret
  exact ⟨rfl, rfl⟩
set_option maxHeartbeats 400000 in
theorem ch_any (x y z : BitVec 32) (w : World) :
    Calls Tryd.prog 20 #[.int .u32 (M x), .int .u32 (M y), .int .u32 (M z)] w fun e w' => e = .returned (.int .u32 (M (chF x y z))) ∧ w' = w := by
  go_enter Tryd.func20, Tryd.ntmps20
  go_wp2
  go_ret
  exact ⟨rfl, rfl⟩
set_option maxHeartbeats 400000 in
theorem mj_any (x y z : BitVec 32) (w : World) :
    Calls Tryd.prog 22 #[.int .u32 (M x), .int .u32 (M y), .int .u32 (M z)] w fun e w' => e = .returned (.int .u32 (M (mjF x y z))) ∧ w' = w := by
  go_enter Tryd.func22, Tryd.ntmps22
  go_wp2
  go_ret
  exact ⟨rfl, rfl⟩
set_option maxHeartbeats 400000 in
theorem right_any (x : BitVec 32) (n : Nat) (h0 : 0 < n) (h1 : n < 32) (k : Int) (hk : k = (n : Int)) (w : World) :
    Calls Tryd.prog 32 #[.int .u32 (M x), .int .i64 k] w fun e w' => e = .returned (.int .u32 (M (rotr x n))) ∧ ∃ m, w' = w.drewN m := by
  subst hk
  obtain ⟨s, hs⟩ : ∃ s, s + n = 32 := ⟨32 - n, by omega⟩
  have e3 : (32 : Int) - (n : Int) = (s : Int) := by omega
  have HR := Lib.hid (show x >>> n ||| x <<< s = rotr x n by unfold rotr; rw [show 32 - n = s by omega])
  clear hs
  go_enter Tryd.func32, Tryd.ntmps32
  go_wp2
  go_quiet (fail)
  rw [HR.out]
  go_wp2
  go_ret
  exact ⟨rfl, _, rfl⟩
set_option maxHeartbeats 400000 in
theorem rot_any (x : BitVec 32) (n : Nat) (h0 : 0 < n) (h1 : n < 32) (k : Int) (hk : k = (n : Int)) (w : World) :
    Calls Tryd.prog 31 #[.int .u32 (M x), .int .i64 k] w fun e w' => e = .returned (.int .u32 (M (rotr x n))) ∧ w' = w := by
  subst hk
  go_enter Tryd.func31, Tryd.ntmps31
  go_wp2_with fail
  refine (rotl_any x n h0 h1 _ rfl _).mono ?_
  rintro e w' ⟨rfl, rfl⟩
  go_wp2_with fail
  go_ret
  exact ⟨rfl, rfl⟩
set_option maxHeartbeats 400000 in
theorem sm0_any (x : BitVec 32) (w : World) :
    Calls Tryd.prog 30 #[.int .u32 (M x)] w fun e w' => e = .returned (.int .u32 (M (sm0 x))) ∧ w' = w := by
  go_enter Tryd.func30, Tryd.ntmps30
  go_wp2_with fail
  refine (rot_any x 7 (by omega) (by omega) _ rfl _).mono ?_
  rintro e w' ⟨rfl, rfl⟩
  go_wp2_with fail
  refine (rot_any x 18 (by omega) (by omega) _ rfl _).mono ?_
  rintro e w' ⟨rfl, rfl⟩
  go_wp2_with fail
  go_ret
  exact ⟨rfl, rfl⟩
set_option maxHeartbeats 400000 in
theorem sm1_any (x : BitVec 32) (w : World) :
    Calls Tryd.prog 29 #[.int .u32 (M x)] w fun e w' => e = .returned (.int .u32 (M (sm1 x))) ∧ w' = w := by
  go_enter Tryd.func29, Tryd.ntmps29
  go_wp2_with fail
  refine (rot_any x 17 (by omega) (by omega) _ rfl _).mono ?_
  rintro e w' ⟨rfl, rfl⟩
  go_wp2_with fail
  refine (rot_any x 19 (by omega) (by omega) _ rfl _).mono ?_
  rintro e w' ⟨rfl, rfl⟩
  go_wp2_with fail
  go_ret
  exact ⟨rfl, rfl⟩
set_option maxHeartbeats 400000 in
theorem bg0_any (x : BitVec 32) (w : World) :
    Calls Tryd.prog 21 #[.int .u32 (M x)] w fun e w' => e = .returned (.int .u32 (M (bg0 x))) ∧ w' = w := by
  go_enter Tryd.func21, Tryd.ntmps21
  go_wp2_with fail
  refine (rot_any x 2 (by omega) (by omega) _ rfl _).mono ?_
  rintro e w' ⟨rfl, rfl⟩
  go_wp2_with fail
  refine (rot_any x 13 (by omega) (by omega) _ rfl _).mono ?_
  rintro e w' ⟨rfl, rfl⟩
  go_wp2_with fail
  refine (rot_any x 22 (by omega) (by omega) _ rfl _).mono ?_
  rintro e w' ⟨rfl, rfl⟩
  go_wp2_with fail
  go_ret
  exact ⟨rfl, rfl⟩
set_option maxHeartbeats 400000 in
theorem bg1_any (x : BitVec 32) (w : World) :
    Calls Tryd.prog 19 #[.int .u32 (M x)] w fun e w' => e = .returned (.int .u32 (M (bg1 x))) ∧ w' = w := by
  go_enter Tryd.func19, Tryd.ntmps19
  go_wp2_with fail
  refine (rot_any x 6 (by omega) (by omega) _ rfl _).mono ?_
  rintro e w' ⟨rfl, rfl⟩
  go_wp2_with fail
  refine (rot_any x 11 (by omega) (by omega) _ rfl _).mono ?_
  rintro e w' ⟨rfl, rfl⟩
  go_wp2_with fail
  refine (rot_any x 25 (by omega) (by omega) _ rfl _).mono ?_
  rintro e w' ⟨rfl, rfl⟩
  go_wp2_with fail
  go_ret
  exact ⟨rfl, rfl⟩
theorem rt2 (x : BitVec 32) (w : World) :
    Calls Tryd.prog 32 #[.int .u32 (M x), .int .i64 2] w fun e w' => e = .returned (.int .u32 (M (rotr x 2))) ∧ ∃ m, w' = w.drewN m := right_any x 2 (by omega) (by omega) _ rfl w
theorem rt6 (x : BitVec 32) (w : World) :
    Calls Tryd.prog 32 #[.int .u32 (M x), .int .i64 6] w fun e w' => e = .returned (.int .u32 (M (rotr x 6))) ∧ ∃ m, w' = w.drewN m := right_any x 6 (by omega) (by omega) _ rfl w
theorem rt7 (x : BitVec 32) (w : World) :
    Calls Tryd.prog 32 #[.int .u32 (M x), .int .i64 7] w fun e w' => e = .returned (.int .u32 (M (rotr x 7))) ∧ ∃ m, w' = w.drewN m := right_any x 7 (by omega) (by omega) _ rfl w
theorem rt11 (x : BitVec 32) (w : World) :
    Calls Tryd.prog 32 #[.int .u32 (M x), .int .i64 11] w fun e w' => e = .returned (.int .u32 (M (rotr x 11))) ∧ ∃ m, w' = w.drewN m := right_any x 11 (by omega) (by omega) _ rfl w
theorem rt13 (x : BitVec 32) (w : World) :
    Calls Tryd.prog 32 #[.int .u32 (M x), .int .i64 13] w fun e w' => e = .returned (.int .u32 (M (rotr x 13))) ∧ ∃ m, w' = w.drewN m := right_any x 13 (by omega) (by omega) _ rfl w
theorem rt17 (x : BitVec 32) (w : World) :
    Calls Tryd.prog 32 #[.int .u32 (M x), .int .i64 17] w fun e w' => e = .returned (.int .u32 (M (rotr x 17))) ∧ ∃ m, w' = w.drewN m := right_any x 17 (by omega) (by omega) _ rfl w
theorem rt18 (x : BitVec 32) (w : World) :
    Calls Tryd.prog 32 #[.int .u32 (M x), .int .i64 18] w fun e w' => e = .returned (.int .u32 (M (rotr x 18))) ∧ ∃ m, w' = w.drewN m := right_any x 18 (by omega) (by omega) _ rfl w
theorem rt19 (x : BitVec 32) (w : World) :
    Calls Tryd.prog 32 #[.int .u32 (M x), .int .i64 19] w fun e w' => e = .returned (.int .u32 (M (rotr x 19))) ∧ ∃ m, w' = w.drewN m := right_any x 19 (by omega) (by omega) _ rfl w
theorem rt22 (x : BitVec 32) (w : World) :
    Calls Tryd.prog 32 #[.int .u32 (M x), .int .i64 22] w fun e w' => e = .returned (.int .u32 (M (rotr x 22))) ∧ ∃ m, w' = w.drewN m := right_any x 22 (by omega) (by omega) _ rfl w
theorem rt25 (x : BitVec 32) (w : World) :
    Calls Tryd.prog 32 #[.int .u32 (M x), .int .i64 25] w fun e w' => e = .returned (.int .u32 (M (rotr x 25))) ∧ ∃ m, w' = w.drewN m := right_any x 25 (by omega) (by omega) _ rfl w
end Go.Proofs.YtjebkokkgkkogaaDoor.Oct
