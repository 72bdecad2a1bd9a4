import Derived.Test.YteffjpdcghlnlaaGreatDoorZcLib
import Derived.Test.YteffjpdcghlnlaaGreatDoorRows
import Derived.Test.YteffjpdcghlnlaaGreatDoorZcAa
import Derived.WalkKit
import Derived.ProofKit
import Derived.OpenShut
import Derived.Lib.Hide
import Derived.Outline
import Derived.StillTailTactics
set_option linter.unusedVariables false
set_option linter.unusedSimpArgs false
set_option maxHeartbeats 4000000
set_option maxRecDepth 20000
namespace Go.Proofs.YteffjpdcghlnlaaGreatDoor.Oct
open Go.RowKit
def rotr (x : BitVec 32) (n : Nat) : BitVec 32 := x >>> n ||| x <<< (32 - n)
def sm0 (x : BitVec 32) : BitVec 32 := rotr x 7 ^^^ rotr x 18 ^^^ x >>> 3
def sm1 (x : BitVec 32) : BitVec 32 := rotr x 17 ^^^ rotr x 19 ^^^ x >>> 10
def bg0 (x : BitVec 32) : BitVec 32 := rotr x 2 ^^^ rotr x 13 ^^^ rotr x 22
def bg1 (x : BitVec 32) : BitVec 32 := rotr x 6 ^^^ rotr x 11 ^^^ rotr x 25
def chF (e f g : BitVec 32) : BitVec 32 := e &&& f ^^^ ~~~e &&& g
def mjF (a b c : BitVec 32) : BitVec 32 := a &&& b ^^^ a &&& c ^^^ b &&& c
def wrd (m : Bf) (j : Nat) : BitVec 32 := (m (4 * j)).setWidth 32 <<< 24 ||| (m (4 * j + 1)).setWidth 32 <<< 16 ||| (m (4 * j + 2)).setWidth 32 <<< 8 ||| (m (4 * j + 3)).setWidth 32
def nxt (f : Wf) (t : Nat) : BitVec 32 := sm1 (f (t - 2)) + f (t - 7) + sm0 (f (t - 15)) + f (t - 16)
def sch (m : Bf) : Nat → Wf
 | 0 => fun _ => 0#32
 | t + 1 => updA (sch m t) t (if t < 16 then wrd m t else nxt (sch m t) t)
def t1F (k w : BitVec 32) (s : Wf) : BitVec 32 := s 7 + bg1 (s 4) + chF (s 4) (s 5) (s 6) + k + w
def t2F (s : Wf) : BitVec 32 := bg0 (s 0) + mjF (s 0) (s 1) (s 2)
def oct (a b c d e f g h : BitVec 32) : Wf := fun i => match i with | 0 => a | 1 => b | 2 => c | 3 => d | 4 => e | 5 => f | 6 => g | 7 => h | _ => 0#32
def rnd (k w : BitVec 32) (s : Wf) : Wf := oct (t1F k w s + t2F s) (s 0) (s 1) (s 2) (s 3 + t1F k w s) (s 4) (s 5) (s 6)
def rds (K W h : Wf) : Nat → Wf
 | 0 => h
 | t + 1 => rnd (K t) (W t) (rds K W h t)
def prF (K h : Wf) (m : Bf) : Wf := fun i => rds K (sch m 64) h 64 i + h i
theorem sch_low (m : Bf) : ∀ t, t ≤ 16 → sch m t = fun j => if j < t then wrd m j else 0#32 := by
 intro t
 induction t with
 | zero => intro _; funext j; simp [sch]
 | succ t ih =>
  intro h
  funext j
  simp only [sch]
  rw [ih (by omega), if_pos (by omega)]
  unfold updA
  by_cases hj : j = t
  ·subst hj; simp
  ·by_cases h2 : j < t
   ·have : j < t + 1 := by omega
    simp [hj, h2, this]
   ·have : ¬ j < t + 1 := by omega
    simp [hj, h2, this]
theorem wrd_congr {m m' : Bf} (h : ∀ i, i < 64 → m i = m' i) (j : Nat) (hj : j < 16) : wrd m j = wrd m' j := by
 unfold wrd; rw [h _ (by omega), h _ (by omega), h _ (by omega), h _ (by omega)]
theorem sch_congr {m m' : Bf} (h : ∀ i, i < 64 → m i = m' i) : ∀ t, sch m t = sch m' t := by
 intro t
 induction t with
 | zero => rfl
 | succ t ih =>
  simp only [sch]
  rw [ih]
  by_cases ht : t < 16
  ·rw [if_pos ht, if_pos ht, wrd_congr h t ht]
  ·rw [if_neg ht, if_neg ht]
theorem rnd_congr (k w : BitVec 32) {s s' : Wf} (h : ∀ i, i < 8 → s i = s' i) : rnd k w s = rnd k w s' := by
 unfold rnd t1F t2F
 rw [h 0 (by omega), h 1 (by omega), h 2 (by omega), h 3 (by omega), h 4 (by omega), h 5 (by omega), h 6 (by omega), h 7 (by omega)]
theorem rds_congr {K K' W h h' : Wf} (hK : ∀ i, i < 64 → K i = K' i) (hh : ∀ i, i < 8 → h i = h' i) : ∀ t, t ≤ 64 → ∀ i, i < 8 → rds K W h t i = rds K' W h' t i := by
 intro t
 induction t with
 | zero => intro _; exact hh
 | succ t ih =>
  intro ht i hi
  simp only [rds]
  rw [rnd_congr _ _ (ih (by omega)), hK t (by omega)]
theorem prF_congr {K K' h h' : Wf} {m m' : Bf} (hK : ∀ i, i < 64 → K i = K' i) (hh : ∀ i, i < 8 → h i = h' i) (hm : ∀ i, i < 64 → m i = m' i) : ∀ i, i < 8 → prF K h m i = prF K' h' m' i := by
 intro i hi
 unfold prF
 rw [sch_congr hm, rds_congr hK hh 64 (by omega) i hi, hh i hi]
def nbk (n : Nat) : Nat := (n + 8) / 64 + 1
theorem nbk_bd (n : Nat) : n + 9 ≤ 64 * nbk n ∧ 64 * nbk n ≤ n + 72 := by unfold nbk; omega
def lenB (n k : Nat) : BitVec 8 := BitVec.ofNat 8 (8 * n / 256 ^ (7 - k))
def msg (b : Bf) (n : Nat) : Bf := fun i => if i < n then b i else if i = n then 128#8 else if i < 64 * nbk n - 8 then 0#8 else lenB n (i - (64 * nbk n - 8))
def hst (K h : Wf) (m : Bf) : Nat → Wf
 | 0 => h
 | j + 1 => prF K (hst K h m j) (offF m (64 * j))
def outF (s : Wf) : Bf := fun i => (s (i / 4) >>> (24 - 8 * (i % 4))).setWidth 8
def shaF (K h : Wf) (b : Bf) (n : Nat) : Bf := outF (hst K h (msg b n) (nbk n))
theorem outF_congr {s s' : Wf} (h : ∀ i, i < 8 → s i = s' i) (i : Nat) (hi : i < 32) : outF s i = outF s' i := by
 unfold outF; rw [h _ (by omega)]
theorem s8_u : Tryz.prog.underlying 136 = some (.array 8 135) := by kernel_rfl
theorem s8_i : (Tryz.prog.info? 136).map (·.size) = some 8 := by kernel_rfl
@[go_sem ↓] theorem s8_l (p : Value) : Instr.loadAt 136 p = ldA 136 p := rfl
@[go_sem ↓] theorem s8_s (p v : Value) : Instr.storeAt 136 p v = stA 136 p v := rfl
@[go_sem] theorem s8_ld (w : World) (b o : Nat) : (ldA 136 (.pointer (some ⟨b, o, none⟩))).run Tryz.prog w = ldR Tryz.prog 136 8 w b o (row w b) := yU _ _ _ s8_u 8 s8_i w b o
@[go_sem] theorem s8_st (w : World) (b o : Nat) (c : Array Value) : (stA 136 (.pointer (some ⟨b, o, none⟩)) (.agg c)).run Tryz.prog w = stR Tryz.prog 136 8 w b o (.agg c) (row w b) := yO _ 8 s8_i w b o c
theorem s8_z : (Tryz.prog.info? 136).map (·.zero) = some (some (.agg (wa 8 fun _ => 0#32))) := by unfold wa; kernel_rfl
@[go_sem ↓] theorem s8_zero (w : World) : (zeroValue 136).run Tryz.prog w = .ok (.agg (wa 8 fun _ => 0#32)) w := yC _ _ s8_z w
@[go_sem] theorem s8_ix (f : Nat → BitVec 32) (k : Nat) (h : k < 8) (w : World) : (Instr.index 136 (.agg (wa 8 f)) (.int .i64 (k : Int))).run Tryz.prog w = .ok (.int .u32 (M (f k))) w := by
 simp [Instr.index, part, go_sem, h]
theorem s64_u : Tryz.prog.underlying 357 = some (.array 64 135) := by kernel_rfl
theorem s64_i : (Tryz.prog.info? 357).map (·.size) = some 64 := by kernel_rfl
@[go_sem ↓] theorem s64_l (p : Value) : Instr.loadAt 357 p = ldA 357 p := rfl
@[go_sem ↓] theorem s64_s (p v : Value) : Instr.storeAt 357 p v = stA 357 p v := rfl
@[go_sem] theorem s64_ld (w : World) (b o : Nat) : (ldA 357 (.pointer (some ⟨b, o, none⟩))).run Tryz.prog w = ldR Tryz.prog 357 64 w b o (row w b) := yU _ _ _ s64_u 64 s64_i w b o
@[go_sem] theorem s64_st (w : World) (b o : Nat) (c : Array Value) : (stA 357 (.pointer (some ⟨b, o, none⟩)) (.agg c)).run Tryz.prog w = stR Tryz.prog 357 64 w b o (.agg c) (row w b) := yO _ 64 s64_i w b o c
theorem s64_z : (Tryz.prog.info? 357).map (·.zero) = some (some (.agg (wa 64 fun _ => 0#32))) := by unfold wa; kernel_rfl
@[go_sem ↓] theorem s64_zero (w : World) : (zeroValue 357).run Tryz.prog w = .ok (.agg (wa 64 fun _ => 0#32)) w := yC _ _ s64_z w
@[go_sem] theorem s64_ix (f : Nat → BitVec 32) (k : Nat) (h : k < 64) (w : World) : (Instr.index 357 (.agg (wa 64 f)) (.int .i64 (k : Int))).run Tryz.prog w = .ok (.int .u32 (M (f k))) w := by
 simp [Instr.index, part, go_sem, h]
theorem m64_u : Tryz.prog.underlying 328 = some (.array 64 5) := by kernel_rfl
theorem m64_i : (Tryz.prog.info? 328).map (·.size) = some 64 := by kernel_rfl
@[go_sem ↓] theorem m64_l (p : Value) : Instr.loadAt 328 p = ldA 328 p := rfl
@[go_sem ↓] theorem m64_s (p v : Value) : Instr.storeAt 328 p v = stA 328 p v := rfl
@[go_sem] theorem m64_ld (w : World) (b o : Nat) : (ldA 328 (.pointer (some ⟨b, o, none⟩))).run Tryz.prog w = ldR Tryz.prog 328 64 w b o (row w b) := yU _ _ _ m64_u 64 m64_i w b o
@[go_sem] theorem m64_st (w : World) (b o : Nat) (c : Array Value) : (stA 328 (.pointer (some ⟨b, o, none⟩)) (.agg c)).run Tryz.prog w = stR Tryz.prog 328 64 w b o (.agg c) (row w b) := yO _ 64 m64_i w b o c
theorem m64_z : (Tryz.prog.info? 328).map (·.zero) = some (some (.agg (ba 64 fun _ => 0#8))) := by unfold ba; kernel_rfl
@[go_sem ↓] theorem m64_zero (w : World) : (zeroValue 328).run Tryz.prog w = .ok (.agg (ba 64 fun _ => 0#8)) w := yC _ _ m64_z w
@[go_sem] theorem m64_ix (f : Nat → BitVec 8) (k : Nat) (h : k < 64) (w : World) : (Instr.index 328 (.agg (ba 64 f)) (.int .i64 (k : Int))).run Tryz.prog w = .ok (.int .u8 (I (f k))) w := by
 simp [Instr.index, part, go_sem, h]
theorem m64_len : Tryz.prog.arrayLen 328 = 64 := by kernel_rfl
theorem m64_elem : Tryz.prog.elem 328 = 5 := by kernel_rfl
theorem m64_sl_l (B m : Nat) (hm : m < 64) (w : World) : (Instr.sliceAt 328 (.pointer (some ⟨B, 0, none⟩)) (some (.int .i64 (m : Int))) none none).run Tryz.prog w = .ok (.slice (some ⟨B, m, none⟩) (64 - m) (64 - m)) w := by
 rw [run_sliceAt_array_l w 328 ⟨B, 0, none⟩ (by kernel_rfl) .i64 _ (by omega) (by rw [m64_len]; omega), m64_elem, u8_size, m64_len, Result.andThen_ok]
 unfold slicedAt
 rw [if_neg (by omega), Int.toNat_natCast, yS]
 simp
theorem sum_u : Tryz.prog.underlying 66 = some (.array 32 5) := by kernel_rfl
theorem sum_i : (Tryz.prog.info? 66).map (·.size) = some 32 := by kernel_rfl
@[go_sem ↓] theorem sum_l (p : Value) : Instr.loadAt 66 p = ldA 66 p := rfl
@[go_sem ↓] theorem sum_s (p v : Value) : Instr.storeAt 66 p v = stA 66 p v := rfl
@[go_sem] theorem sum_ld (w : World) (b o : Nat) : (ldA 66 (.pointer (some ⟨b, o, none⟩))).run Tryz.prog w = ldR Tryz.prog 66 32 w b o (row w b) := yU _ _ _ sum_u 32 sum_i w b o
@[go_sem] theorem sum_st (w : World) (b o : Nat) (c : Array Value) : (stA 66 (.pointer (some ⟨b, o, none⟩)) (.agg c)).run Tryz.prog w = stR Tryz.prog 66 32 w b o (.agg c) (row w b) := yO _ 32 sum_i w b o c
theorem sum_z : (Tryz.prog.info? 66).map (·.zero) = some (some (.agg (ba 32 fun _ => 0#8))) := by unfold ba; kernel_rfl
@[go_sem ↓] theorem sum_zero (w : World) : (zeroValue 66).run Tryz.prog w = .ok (.agg (ba 32 fun _ => 0#8)) w := yC _ _ sum_z w
theorem sum_len : Tryz.prog.arrayLen 66 = 32 := by kernel_rfl
theorem sum_elem : Tryz.prog.elem 66 = 5 := by kernel_rfl
theorem q4_u : Tryz.prog.underlying 305 = some (.array 4 253) := by kernel_rfl
theorem q4_i : (Tryz.prog.info? 305).map (·.size) = some 4 := by kernel_rfl
@[go_sem ↓] theorem q4_l (p : Value) : Instr.loadAt 305 p = ldA 305 p := rfl
@[go_sem ↓] theorem q4_s (p v : Value) : Instr.storeAt 305 p v = stA 305 p v := rfl
@[go_sem] theorem q4_ld (w : World) (b o : Nat) : (ldA 305 (.pointer (some ⟨b, o, none⟩))).run Tryz.prog w = ldR Tryz.prog 305 4 w b o (row w b) := yU _ _ _ q4_u 4 q4_i w b o
@[go_sem] theorem q4_st (w : World) (b o : Nat) (c : Array Value) : (stA 305 (.pointer (some ⟨b, o, none⟩)) (.agg c)).run Tryz.prog w = stR Tryz.prog 305 4 w b o (.agg c) (row w b) := yO _ 4 q4_i w b o c
theorem q4_z : (Tryz.prog.info? 305).map (·.zero) = some (some (.agg (qa 4 fun _ => 0))) := by unfold qa; kernel_rfl
@[go_sem ↓] theorem q4_zero (w : World) : (zeroValue 305).run Tryz.prog w = .ok (.agg (qa 4 fun _ => 0)) w := yC _ _ q4_z w
@[go_sem ↓] theorem q8_l (p : Value) : Instr.loadAt 308 p = ldA 308 p := rfl
@[go_sem ↓] theorem q8_s (p v : Value) : Instr.storeAt 308 p v = stA 308 p v := rfl
theorem q8_z : (Tryz.prog.info? 308).map (·.zero) = some (some (.agg (qa 8 fun _ => 0))) := by unfold qa; kernel_rfl
@[go_sem ↓] theorem q8_zero (w : World) : (zeroValue 308).run Tryz.prog w = .ok (.agg (qa 8 fun _ => 0)) w := yC _ _ q8_z w
theorem q12_u : Tryz.prog.underlying 306 = some (.array 12 253) := by kernel_rfl
theorem q12_i : (Tryz.prog.info? 306).map (·.size) = some 12 := by kernel_rfl
@[go_sem ↓] theorem q12_l (p : Value) : Instr.loadAt 306 p = ldA 306 p := rfl
@[go_sem ↓] theorem q12_s (p v : Value) : Instr.storeAt 306 p v = stA 306 p v := rfl
@[go_sem] theorem q12_ld (w : World) (b o : Nat) : (ldA 306 (.pointer (some ⟨b, o, none⟩))).run Tryz.prog w = ldR Tryz.prog 306 12 w b o (row w b) := yU _ _ _ q12_u 12 q12_i w b o
@[go_sem] theorem q12_st (w : World) (b o : Nat) (c : Array Value) : (stA 306 (.pointer (some ⟨b, o, none⟩)) (.agg c)).run Tryz.prog w = stR Tryz.prog 306 12 w b o (.agg c) (row w b) := yO _ 12 q12_i w b o c
theorem q12_z : (Tryz.prog.info? 306).map (·.zero) = some (some (.agg (qa 12 fun _ => 0))) := by unfold qa; kernel_rfl
@[go_sem ↓] theorem q12_zero (w : World) : (zeroValue 306).run Tryz.prog w = .ok (.agg (qa 12 fun _ => 0)) w := yC _ _ q12_z w
theorem sum_sl_lh (B a b : Nat) (x y : Int) (hx : x = (a : Int)) (hy : y = (b : Int)) (h1 : a < b) (h2 : b ≤ 32) (w : World) : (Instr.sliceAt 66 (.pointer (some ⟨B, 0, none⟩)) (some (.int .i64 x)) (some (.int .i64 y)) none).run Tryz.prog w = .ok (.slice (some ⟨B, a, none⟩) (b - a) (32 - a)) w := by
 subst hx; subst hy
 rw [run_sliceAt_array_lh w 66 ⟨B, 0, none⟩ (by kernel_rfl) .i64 .i64 _ _ (by omega) (by omega) (by rw [sum_len]; omega), sum_elem, u8_size, sum_len, Result.andThen_ok]
 unfold slicedAt
 rw [Int.toNat_natCast, Int.toNat_natCast, if_neg (by omega), yS]
 simp
theorem m64_sl_all (B : Nat) (w : World) : (Instr.sliceAt 328 (.pointer (some ⟨B, 0, none⟩)) none none none).run Tryz.prog w = .ok (.slice (some ⟨B, 0, none⟩) 64 64) w := by
 rw [run_sliceAt_array_all w 328 ⟨B, 0, none⟩ (by kernel_rfl), m64_elem, u8_size, m64_len, Result.andThen_ok]
 rfl
theorem sum_sl_all (B : Nat) (w : World) : (Instr.sliceAt 66 (.pointer (some ⟨B, 0, none⟩)) none none none).run Tryz.prog w = .ok (.slice (some ⟨B, 0, none⟩) 32 32) w := by
 rw [run_sliceAt_array_all w 66 ⟨B, 0, none⟩ (by kernel_rfl), sum_elem, u8_size, sum_len, Result.andThen_ok]
 rfl
open Go.ChangeShapes Go.WideShapes Go.ChangeAt
theorem rotl_any (x : BitVec 32) (n : Nat) (h0 : 0 < n) (h1 : n < 32) (k : Int) (hk : k = -(n : Int)) (w : World) :
  Calls Tryz.prog 318 #[.int .u32 (M x), .int .i64 k] w fun e w' => e = .returned (.int .u32 (M (rotr x n))) ∧ w' = w := by
 subst hk
 obtain ⟨s, hs⟩ : ∃ s, s + n = 32 := ⟨32 - n, by omega⟩
 have e1 : bits .and .u64 (IntKind.u64.wrap (-(n : Int))) 31 = (s : Int) := by
  have e : IntKind.u64.wrap (-(n : Int)) = ((18446744073709551616 - n : Nat) : Int) := by
   show (-(n : Int)) % 18446744073709551616 = _
   omega
  rw [e]
  refine (u64_and_nat (18446744073709551616 - n) 31 (by omega) (by omega)).trans ?_
  rw [show (31 : Nat) = 2 ^ 5 - 1 from rfl, Nat.and_two_pow_sub_one_eq_mod]
  omega
 have HR := Lib.hid (show x <<< s ||| x >>> n = rotr x n by unfold rotr; rw [BitVec.or_comm, show 32 - n = s by omega])
 have e2 : IntKind.u64.wrap (32 - (s : Int)) = (n : Int) := by
  show (32 - (s : Int)) % 18446744073709551616 = _
  omega
 have e3 : (32 : Int) - (s : Int) = (n : Int) := by omega
 clear hs
 go_enter Tryz.func318, Tryz.ntmps318
 go_wp2
 rw [HR.out]
 go_ret
 exact ⟨rfl, rfl⟩
theorem ch_any (x y z : BitVec 32) (w : World) :
  Calls Tryz.prog 308 #[.int .u32 (M x), .int .u32 (M y), .int .u32 (M z)] w fun e w' => e = .returned (.int .u32 (M (chF x y z))) ∧ w' = w := by
 go_enter Tryz.func308, Tryz.ntmps308
 go_wp2
 go_ret
 exact ⟨rfl, rfl⟩
theorem mj_any (x y z : BitVec 32) (w : World) :
  Calls Tryz.prog 310 #[.int .u32 (M x), .int .u32 (M y), .int .u32 (M z)] w fun e w' => e = .returned (.int .u32 (M (mjF x y z))) ∧ w' = w := by
 go_enter Tryz.func310, Tryz.ntmps310
 go_wp2
 go_ret
 exact ⟨rfl, rfl⟩
theorem xA (x : BitVec 32) (n : Nat) (h0 : 0 < n) (h1 : n < 32) (k : Int) (hk : k = (n : Int)) (w : World) :
  Calls Tryz.prog 210 #[.int .u32 (M x), .int .i64 k] w fun e w' => e = .returned (.int .u32 (M (rotr x n))) ∧ ∃ m, w' = w.drewN m := by
 subst hk
 obtain ⟨s, hs⟩ : ∃ s, s + n = 32 := ⟨32 - n, by omega⟩
 have e3 : (32 : Int) - (n : Int) = (s : Int) := by omega
 have HR := Lib.hid (show x >>> n ||| x <<< s = rotr x n by unfold rotr; rw [show 32 - n = s by omega])
 clear hs
 go_enter Tryz.func210, Tryz.ntmps210
 go_wp2
 go_quiet (fail)
 rw [HR.out]
 go_wp2
 go_ret
 exact ⟨rfl, _, rfl⟩
theorem rot_any (x : BitVec 32) (n : Nat) (h0 : 0 < n) (h1 : n < 32) (k : Int) (hk : k = (n : Int)) (w : World) :
  Calls Tryz.prog 317 #[.int .u32 (M x), .int .i64 k] w fun e w' => e = .returned (.int .u32 (M (rotr x n))) ∧ w' = w := by
 subst hk
 go_enter Tryz.func317, Tryz.ntmps317
 go_wp2_with fail
 refine (rotl_any x n h0 h1 _ rfl _).mono ?_
 rintro e w' ⟨rfl, rfl⟩
 go_wp2_with fail
 go_ret
 exact ⟨rfl, rfl⟩
theorem sm0_any (x : BitVec 32) (w : World) :
  Calls Tryz.prog 316 #[.int .u32 (M x)] w fun e w' => e = .returned (.int .u32 (M (sm0 x))) ∧ w' = w := by
 go_enter Tryz.func316, Tryz.ntmps316
 go_wp2_with fail
 refine (rot_any x 7 (by omega) (by omega) _ rfl _).mono ?_
 rintro e w' ⟨rfl, rfl⟩
 go_wp2_with fail
 refine (rot_any x 18 (by omega) (by omega) _ rfl _).mono ?_
 rintro e w' ⟨rfl, rfl⟩
 go_wp2_with fail
 go_ret
 exact ⟨rfl, rfl⟩
theorem sm1_any (x : BitVec 32) (w : World) :
  Calls Tryz.prog 315 #[.int .u32 (M x)] w fun e w' => e = .returned (.int .u32 (M (sm1 x))) ∧ w' = w := by
 go_enter Tryz.func315, Tryz.ntmps315
 go_wp2_with fail
 refine (rot_any x 17 (by omega) (by omega) _ rfl _).mono ?_
 rintro e w' ⟨rfl, rfl⟩
 go_wp2_with fail
 refine (rot_any x 19 (by omega) (by omega) _ rfl _).mono ?_
 rintro e w' ⟨rfl, rfl⟩
 go_wp2_with fail
 go_ret
 exact ⟨rfl, rfl⟩
theorem bg0_any (x : BitVec 32) (w : World) :
  Calls Tryz.prog 309 #[.int .u32 (M x)] w fun e w' => e = .returned (.int .u32 (M (bg0 x))) ∧ w' = w := by
 go_enter Tryz.func309, Tryz.ntmps309
 go_wp2_with fail
 refine (rot_any x 2 (by omega) (by omega) _ rfl _).mono ?_
 rintro e w' ⟨rfl, rfl⟩
 go_wp2_with fail
 refine (rot_any x 13 (by omega) (by omega) _ rfl _).mono ?_
 rintro e w' ⟨rfl, rfl⟩
 go_wp2_with fail
 refine (rot_any x 22 (by omega) (by omega) _ rfl _).mono ?_
 rintro e w' ⟨rfl, rfl⟩
 go_wp2_with fail
 go_ret
 exact ⟨rfl, rfl⟩
theorem bg1_any (x : BitVec 32) (w : World) :
  Calls Tryz.prog 307 #[.int .u32 (M x)] w fun e w' => e = .returned (.int .u32 (M (bg1 x))) ∧ w' = w := by
 go_enter Tryz.func307, Tryz.ntmps307
 go_wp2_with fail
 refine (rot_any x 6 (by omega) (by omega) _ rfl _).mono ?_
 rintro e w' ⟨rfl, rfl⟩
 go_wp2_with fail
 refine (rot_any x 11 (by omega) (by omega) _ rfl _).mono ?_
 rintro e w' ⟨rfl, rfl⟩
 go_wp2_with fail
 refine (rot_any x 25 (by omega) (by omega) _ rfl _).mono ?_
 rintro e w' ⟨rfl, rfl⟩
 go_wp2_with fail
 go_ret
 exact ⟨rfl, rfl⟩
theorem rt2 (x : BitVec 32) (w : World) :
  Calls Tryz.prog 210 #[.int .u32 (M x), .int .i64 2] w fun e w' => e = .returned (.int .u32 (M (rotr x 2))) ∧ ∃ m, w' = w.drewN m := xA x 2 (by omega) (by omega) _ rfl w
theorem rt6 (x : BitVec 32) (w : World) :
  Calls Tryz.prog 210 #[.int .u32 (M x), .int .i64 6] w fun e w' => e = .returned (.int .u32 (M (rotr x 6))) ∧ ∃ m, w' = w.drewN m := xA x 6 (by omega) (by omega) _ rfl w
theorem rt7 (x : BitVec 32) (w : World) :
  Calls Tryz.prog 210 #[.int .u32 (M x), .int .i64 7] w fun e w' => e = .returned (.int .u32 (M (rotr x 7))) ∧ ∃ m, w' = w.drewN m := xA x 7 (by omega) (by omega) _ rfl w
theorem rt11 (x : BitVec 32) (w : World) :
  Calls Tryz.prog 210 #[.int .u32 (M x), .int .i64 11] w fun e w' => e = .returned (.int .u32 (M (rotr x 11))) ∧ ∃ m, w' = w.drewN m := xA x 11 (by omega) (by omega) _ rfl w
theorem rt13 (x : BitVec 32) (w : World) :
  Calls Tryz.prog 210 #[.int .u32 (M x), .int .i64 13] w fun e w' => e = .returned (.int .u32 (M (rotr x 13))) ∧ ∃ m, w' = w.drewN m := xA x 13 (by omega) (by omega) _ rfl w
theorem rt17 (x : BitVec 32) (w : World) :
  Calls Tryz.prog 210 #[.int .u32 (M x), .int .i64 17] w fun e w' => e = .returned (.int .u32 (M (rotr x 17))) ∧ ∃ m, w' = w.drewN m := xA x 17 (by omega) (by omega) _ rfl w
theorem rt18 (x : BitVec 32) (w : World) :
  Calls Tryz.prog 210 #[.int .u32 (M x), .int .i64 18] w fun e w' => e = .returned (.int .u32 (M (rotr x 18))) ∧ ∃ m, w' = w.drewN m := xA x 18 (by omega) (by omega) _ rfl w
theorem rt19 (x : BitVec 32) (w : World) :
  Calls Tryz.prog 210 #[.int .u32 (M x), .int .i64 19] w fun e w' => e = .returned (.int .u32 (M (rotr x 19))) ∧ ∃ m, w' = w.drewN m := xA x 19 (by omega) (by omega) _ rfl w
theorem rt22 (x : BitVec 32) (w : World) :
  Calls Tryz.prog 210 #[.int .u32 (M x), .int .i64 22] w fun e w' => e = .returned (.int .u32 (M (rotr x 22))) ∧ ∃ m, w' = w.drewN m := xA x 22 (by omega) (by omega) _ rfl w
theorem rt25 (x : BitVec 32) (w : World) :
  Calls Tryz.prog 210 #[.int .u32 (M x), .int .i64 25] w fun e w' => e = .returned (.int .u32 (M (rotr x 25))) ∧ ∃ m, w' = w.drewN m := xA x 25 (by omega) (by omega) _ rfl w
def prt (m : Bf) (j : Nat) : Nat → BitVec 32
 | 0 => 0#32
 | r + 1 => prt m j r <<< 8 ||| (m (4 * j + r)).setWidth 32
def w1F (m : Bf) (k : Nat) : Wf := fun j => prt m j (min 4 (k - 4 * j))
theorem prt_4 (m : Bf) (j : Nat) : prt m j 4 = wrd m j := by
 simp only [prt, wrd, BitVec.zero_shiftLeft, BitVec.zero_or, Nat.add_zero, BitVec.shiftLeft_or_distrib, ← BitVec.shiftLeft_add]
theorem w1F_zero (m : Bf) : w1F m 0 = fun _ => 0#32 := by funext j; simp [w1F, prt]
theorem w1F_step (m : Bf) (k : Nat) : updA (w1F m k) (k / 4) (w1F m k (k / 4) <<< 8 ||| (m k).setWidth 32) = w1F m (k + 1) := by
 funext j
 unfold updA w1F
 by_cases hj : j = k / 4
 ·subst hj
  rw [if_pos rfl, show min 4 (k + 1 - 4 * (k / 4)) = min 4 (k - 4 * (k / 4)) + 1 by omega]
  simp only [prt]
  rw [show 4 * (k / 4) + min 4 (k - 4 * (k / 4)) = k by omega]
 ·rw [if_neg hj]
  congr 1
  omega
theorem w1F_all (m : Bf) : wa 64 (w1F m 64) = wa 64 (sch m 16) := wa_ext fun j hj => by
 rw [sch_low m 16 (by omega)]
 unfold w1F
 by_cases h : j < 16
 ·simp only [h, if_true]; rw [show min 4 (64 - 4 * j) = 4 by omega, prt_4]
 ·simp only [h, if_false]; rw [show min 4 (64 - 4 * j) = 0 by omega]; rfl
theorem sch_step (m : Bf) (t : Nat) (h : 16 ≤ t) : updA (sch m t) t (sm1 (sch m t (t - 2)) + sch m t (t - 7) + sm0 (sch m t (t - 15)) + sch m t (t - 16)) = sch m (t + 1) := by
 simp only [sch]
 rw [if_neg (by omega)]
 rfl
theorem sched_any (m : Bf) (w : World) :
  Calls Tryz.prog 306 #[.agg (ba 64 m)] w fun e w' => e = .returned (.agg (wa 64 (sch m 64))) ∧ Below w.heap.size w w' := by
 go_enter Tryz.func306, Tryz.ntmps306
 go_wp2
 go_loopw [4, 5, 8] (fun _ _ i wr => ∃ k : Nat, k ≤ 64 ∧ i = .int .i64 k ∧ wr = ((w.alloc (.cells (ba 64 m) 328)).alloc (.cells (wa 64 fun _ => 0#32) 357)).alloc (.cells (wa 64 (w1F m k)) 357)) (fun _ _ i _ => 64 - (intOf i).toNat)
 case atStart => exact ⟨0, by omega, rfl, by rw [w1F_zero]⟩
 case round =>
  obtain ⟨k, hk, rfl, rfl⟩ := hrel
  by_cases hlt : k < 64
  ·have hd : decide ((k : Int) < 64) = true := by simp; omega
   have H := Lib.hid (w1F_step m k)
   have b1 : k / 4 < 64 := by omega
   obtain ⟨v0, v1⟩ := I_bd (m k)
   go_wp2
   go_roundw
   case rel => exact ⟨k + 1, by omega, by go_num, by rw [H.out]⟩
   case measure => simp [intOf]; omega
  ·obtain rfl : k = 64 := by omega
   rw [w1F_all]
   go_wp2
   go_loopw [6] (fun i wr => ∃ t n : Nat, 16 ≤ t ∧ t ≤ 64 ∧ i = .int .i64 t ∧ wr = (((w.alloc (.cells (ba 64 m) 328)).alloc (.cells (wa 64 fun _ => 0#32) 357)).alloc (.cells (wa 64 (sch m t)) 357)).drewN n) (fun i _ => 64 - (intOf i).toNat)
   case atStart => exact ⟨16, 0, by omega, by omega, rfl, rfl⟩
   case round =>
    obtain ⟨t, n, ht, hk, rfl, rfl⟩ := hrel
    by_cases hlt : t < 64
    ·have hd : decide ((t : Int) < 64) = true := by simp; omega
     have H := Lib.hid (sch_step m t ht)
     have c2 : ((t : Int) - 2).toNat = t - 2 := by omega
     have c7 : ((t : Int) - 7).toNat = t - 7 := by omega
     have c15 : ((t : Int) - 15).toNat = t - 15 := by omega
     have c16 : ((t : Int) - 16).toNat = t - 16 := by omega
     have f2 : t - 2 < 64 := by omega
     have f7 : t - 7 < 64 := by omega
     have f15 : t - 15 < 64 := by omega
     have f16 : t - 16 < 64 := by omega
     have d2 : (0 : Int) ≤ (t : Int) - 2 ∧ (t : Int) - 2 < 64 := by omega
     have d7 : (0 : Int) ≤ (t : Int) - 7 ∧ (t : Int) - 7 < 64 := by omega
     have d15 : (0 : Int) ≤ (t : Int) - 15 ∧ (t : Int) - 15 < 64 := by omega
     have d16 : (0 : Int) ≤ (t : Int) - 16 ∧ (t : Int) - 16 < 64 := by omega
     go_wp2
     refine yQ 23 (by kernel_rfl) (by kernel_rfl) (fun _ _ _ _ _ h => h) ?_
     simp only [List.take_succ_cons, List.take_zero, List.drop_succ_cons, List.drop_zero]
     repeat (go_big_quiet_step ((first | (go_at_call 315; (refine (sm1_any _ _).mono ?_); rintro e w' ⟨rfl, rfl⟩; exact ⟨rfl, _, rfl⟩) | (go_at_call 316; (refine (sm0_any _ _).mono ?_); rintro e w' ⟨rfl, rfl⟩; exact ⟨rfl, _, rfl⟩))))
     refine wpQuiet_nil ?_
     rintro _ ⟨m, rfl⟩
     go_wp2
     go_roundw
     case rel => exact ⟨t + 1, _, by omega, by omega, by go_num, by rw [H.out]⟩
     case measure => simp [intOf]; omega
    ·obtain rfl : t = 64 := by omega
     go_wp2
     refine bodyPost_ret (v := .agg (wa 64 (sch m 64))) (zS rfl _ _ (w.heap.size + 1) _ _ _ rfl (by simp [go_sem]) s64_u (by rw [xE]; exact s64_i)) rfl ⟨rfl, ?_⟩
     exact zL ((((Below.refl _ _).alloc (by simp) _).alloc (by simp) _).alloc (by simp; omega) _) _
theorem adds_any (f g : Wf) (w : World) :
  Calls Tryz.prog 311 #[.agg (wa 8 f), .agg (wa 8 g)] w fun e w' => e = .returned (.agg (wa 8 fun i => f i + g i)) ∧ Below w.heap.size w w' := by
 go_enter Tryz.func311, Tryz.ntmps311
 go_wp2
 go_loopw [5, 6] (fun _ i wr => ∃ k n : Nat, k ≤ 8 ∧ i = .int .i64 k ∧ wr = (((w.alloc (.cells (wa 8 (uptoA k (fun i => f i + g i) f)) 136)).alloc (.cells (wa 8 g) 136)).alloc (.cells (wa 8 fun _ => 0#32) 136)).drewN n) (fun _ i _ => 8 - (intOf i).toNat)
 case atStart => exact ⟨0, 0, by omega, rfl, by rw [uptoA_zero]; rfl⟩
 case round =>
  obtain ⟨k, n, hk, rfl, rfl⟩ := hrel
  by_cases hlt : k < 8
  ·have hd : decide ((k : Int) < 8) = true := by simp; omega
   have H := Lib.hid (uptoA_step k (fun i => f i + g i) f)
   have hu := uptoA_at k (fun i => f i + g i) f
   go_wp2
   refine yQ 8 (by kernel_rfl) (by kernel_rfl) (fun _ _ _ _ _ h => h) ?_
   simp only [List.take_succ_cons, List.take_zero, List.drop_succ_cons, List.drop_zero]
   repeat (go_big_quiet_step (fail))
   refine wpQuiet_nil ?_
   rintro _ ⟨m, rfl⟩
   go_wp2
   go_roundw
   case rel => exact ⟨k + 1, _, by omega, by go_num, by rw [← H.out]⟩
   case measure => simp [intOf]; omega
  ·obtain rfl : k = 8 := by omega
   have HV := Lib.hid (show wa 8 (uptoA 8 (fun i => f i + g i) f) = wa 8 fun i => f i + g i from wa_ext fun i hi => by unfold uptoA; rw [if_pos hi])
   rw [HV.out]
   go_wp2
   refine bodyPost_ret (v := .agg (wa 8 fun i => f i + g i)) (zS rfl _ _ (w.heap.size + 1 + 1) _ _ _ rfl (by simp [go_sem]) s8_u (by rw [xE]; exact s8_i)) rfl ⟨rfl, ?_⟩
   exact zL ((((Below.refl _ _).alloc (by simp) _).alloc (by simp) _).alloc (by simp; omega) _) _
def iF : Wf := oct 1779033703#32 3144134277#32 1013904242#32 2773480762#32 1359893119#32 2600822924#32 528734635#32 1541459225#32
theorem iF_ok : (#[.int .u32 1779033703, .int .u32 3144134277, .int .u32 1013904242, .int .u32 2773480762, .int .u32 1359893119, .int .u32 2600822924, .int .u32 528734635, .int .u32 1541459225] : Array Value) = wa 8 iF := by unfold wa; kernel_rfl
theorem iF_lit (w : World) : (Instr.build 136 #[(0, .int .u32 1779033703), (1, .int .u32 3144134277), (2, .int .u32 1013904242), (3, .int .u32 2773480762), (4, .int .u32 1359893119), (5, .int .u32 2600822924), (6, .int .u32 528734635), (7, .int .u32 1541459225)]).run Tryz.prog w = .ok (.agg (wa 8 iF)) w := by
 rw [← iF_ok]; kernel_rfl
theorem start_any (w : World) :
  Calls Tryz.prog 300 #[] w fun e w' => e = .returned (.agg (wa 8 iF)) ∧ Below w.heap.size w w' := by
 have HI := Lib.hid iF_lit
 go_enter Tryz.func300, Tryz.ntmps300
 go_wp2_with (refine wpl_build rfl 136 #[(0, .const (.int .u32 1779033703)), (1, .const (.int .u32 3144134277)), (2, .const (.int .u32 1013904242)), (3, .const (.int .u32 2773480762)), (4, .const (.int .u32 1359893119)), (5, .const (.int .u32 2600822924)), (6, .const (.int .u32 528734635)), (7, .const (.int .u32 1541459225))] rfl _ _ HI.out (by kernel_rfl) ?_)
 refine bodyPost_ret (v := .agg (wa 8 iF)) (zS rfl _ _ w.heap.size _ _ _ rfl (by simp [go_sem]) s8_u (by rw [xE]; exact s8_i)) rfl ⟨rfl, ?_⟩
 exact (Below.refl _ _).alloc (by simp) _
def bgN (m x : Nat) : Bf := fun i => BitVec.ofNat 8 (x / 256 ^ (m - 1 - i))
def wsF (f : Bf) (o m x j : Nat) : Bf := fun i => if o + (m - j) ≤ i ∧ i < o + m then bgN m x (i - o) else f i
theorem wsF_zero (f : Bf) (o m x : Nat) : wsF f o m x 0 = f := by funext i; unfold wsF; rw [if_neg (by omega)]
theorem wsF_all (f : Bf) (o m x : Nat) : wsF f o m x m = putF f o m (bgN m x) := by
 funext i; unfold wsF putF; rw [Nat.sub_self, Nat.add_zero]
theorem wsF_step (f : Bf) (o m x j : Nat) (h : j < m) : upd (wsF f o m x j) (o + (m - (j + 1))) (BitVec.ofNat 8 (x / 256 ^ j)) = wsF f o m x (j + 1) := by
 funext i
 unfold upd wsF
 by_cases hi : i = o + (m - (j + 1))
 ·rw [if_pos hi, if_pos (by omega)]
  unfold bgN
  congr 2
  congr 1
  omega
 ·rw [if_neg hi]
  by_cases h2 : o + (m - j) ≤ i ∧ i < o + m
  ·rw [if_pos h2, if_pos (by omega)]
  ·rw [if_neg h2, if_neg (by omega)]
theorem I_ofN (n : Nat) : ((n : Int) % 256) = I (BitVec.ofNat 8 n) := by
 unfold I; rw [BitVec.toNat_ofNat]; omega
theorem wrn_any (g o m c N x : Nat) (f : Bf) (w : World) (hr : row w g = some (ba N f)) (hom : o + m ≤ N) (hN : N ≤ 1000) (hx : x < 18446744073709551616) :
  Calls Tryz.prog 312 #[.slice (some ⟨g, o, none⟩) m c, .int .u64 x] w fun e w' => e = .returned (.tuple #[]) ∧ w' = w.setRow g (ba N (putF f o m (bgN m x))) := by
 go_enter Tryz.func312, Tryz.ntmps312
 go_wp2
 go_loopw [1, 4] (fun v i wr => ∃ r j : Nat, r + j = m ∧ v = .int .u64 ((x / 256 ^ j : Nat) : Int) ∧ i = .int .i64 ((r : Int) - 1) ∧ wr = w.setRow g (ba N (wsF f o m x j))) (fun _ i _ => (intOf i + 1).toNat)
 case atStart => exact ⟨m, 0, by omega, by simp, rfl, by rw [wsF_zero, yE hr]⟩
 case round =>
  obtain ⟨r, j, hrj, rfl, rfl, rfl⟩ := hrel
  rcases r with _ | s
  ·obtain rfl : j = m := by omega
   rw [wsF_all]
   have hd : decide ((0 : Int) ≤ ((0 : Nat) : Int) - 1) = false := by decide
   go_wp2
   go_end0
   exact ⟨rfl, rfl⟩
  ·have e1 : ((s + 1 : Nat) : Int) - 1 = (s : Int) := by omega
   rw [e1]
   have hd : decide ((0 : Int) ≤ (s : Int)) = true := by simp
   have hc := I_ofN (x / 256 ^ j)
   have hlt : x / 256 ^ j < 18446744073709551616 := Nat.lt_of_le_of_lt (Nat.div_le_self _ _) hx
   have hq : ((x / 256 ^ j : Nat) : Int) / 256 = ((x / 256 ^ (j + 1) : Nat) : Int) := by
    rw [Nat.pow_succ, ← Nat.div_div_eq_div_mul]; rfl
   obtain ⟨y, hy⟩ : ∃ y, y = x / 256 ^ j := ⟨_, rfl⟩
   obtain ⟨z, hz⟩ : ∃ z, z = x / 256 ^ (j + 1) := ⟨_, rfl⟩
   rw [← hy] at hc hlt hq ⊢
   rw [← hz] at hq
   have hrow := zD hr (ba N (wsF f o m x j))
   have HY := Lib.hid hy
   have HZ := Lib.hid hz
   have hs : s < m := by omega
   have hj : j + s + 1 = m := by omega
   have hcl : (w.setRow g (ba N (wsF f o m x j))).cell? ⟨g, o + s, none⟩ = some (.int .u8 (I (wsF f o m x j (o + s)))) := by rw [zF hrow, zY _ _ _ (by omega)]
   have hfz : (w.setRow g (ba N (wsF f o m x j))).frozen? ⟨g, o + s, none⟩ = false := zW hrow _
   have HW := Lib.hid (show ((w.setRow g (ba N (wsF f o m x j))).setCell ⟨g, o + s, none⟩ (.int .u8 (I (BitVec.ofNat 8 y)))) = w.setRow g (ba N (wsF f o m x (j + 1))) by
    rw [zP hrow, ba_set, setRow_setRow, hy, ← wsF_step f o m x j (by omega), show o + (m - (j + 1)) = o + s by omega])
   generalize w.setRow g (ba N (wsF f o m x j)) = wr at hcl hfz HW ⊢
   clear hy hz hrow
   go_wp2
   rw [HW.out]
   go_roundw
   case rel => exact ⟨s, j + 1, by omega, by rw [HZ.out], rfl, rfl⟩
   case measure => simp [intOf]
theorem bg4 (x : BitVec 32) (i : Nat) (h : i < 4) : bgN 4 x.toNat i = (x >>> (24 - 8 * i)).setWidth 8 := by
 apply BitVec.eq_of_toNat_eq
 unfold bgN
 rw [BitVec.toNat_ofNat, BitVec.toNat_setWidth, BitVec.toNat_ushiftRight, Nat.shiftRight_eq_div_pow, show (256 : Nat) = 2 ^ 8 from rfl, ← Nat.pow_mul]
 congr 3
 omega
theorem out_step (s : Wf) (k : Nat) : ba 32 (putF (upto (4 * k) (outF s) fun _ => 0#8) (4 * k) 4 (bgN 4 (s k).toNat)) = ba 32 (upto (4 * (k + 1)) (outF s) fun _ => 0#8) := yT fun i hi => by
 unfold putF upto
 by_cases h : 4 * k ≤ i ∧ i < 4 * k + 4
 ·rw [if_pos h, if_pos (by omega), bg4 _ _ (by omega)]
  unfold outF
  rw [show i / 4 = k by omega, show i % 4 = i - 4 * k by omega]
 ·rw [if_neg h]
  by_cases h2 : i < 4 * k
  ·rw [if_pos h2, if_pos (by omega)]
  ·rw [if_neg h2, if_neg (by omega)]
theorem sumOf_any (s : Wf) (w : World) :
  Calls Tryz.prog 302 #[.agg (wa 8 s)] w fun e w' => e = .returned (.agg (ba 32 (outF s))) ∧ Below w.heap.size w w' := by
 go_enter Tryz.func302, Tryz.ntmps302
 go_wp2
 go_loopw [4, 5, 7] (fun _ _ i wr => ∃ k : Nat, k ≤ 8 ∧ i = .int .i64 k ∧ wr = ((w.alloc (.cells (wa 8 s) 136)).alloc (.cells (ba 32 fun _ => 0#8) 66)).alloc (.cells (ba 32 (upto (4 * k) (outF s) fun _ => 0#8)) 66)) (fun _ _ i _ => 8 - (intOf i).toNat)
 case atStart => exact ⟨0, by omega, rfl, by rw [Nat.mul_zero, yI]⟩
 case round =>
  obtain ⟨k, hk, rfl, rfl⟩ := hrel
  by_cases hlt : k < 8
  ·have hd : decide ((k : Int) < 8) = true := by simp; omega
   have H := Lib.hid (out_step s k)
   obtain ⟨v0, v1⟩ := M_bd (s k)
   have hsl := sum_sl_lh (w.heap.size + 1 + 1) (4 * k) (4 * (k + 1)) (4 * (k : Int)) (4 * ((k : Int) + 1)) (by omega) (by omega) (by omega) (by omega)
   rw [show 4 * (k + 1) - 4 * k = 4 by omega] at hsl
   go_wp2_with fail
   refine (wrn_any _ (4 * k) 4 _ 32 (s k).toNat _ _ (zA _ _ _ _ (by simp)) (by omega) (by omega) (by omega)).mono ?_
   rintro e w' ⟨rfl, rfl⟩
   go_wp2_with fail
   rw [H.out]
   go_roundw
   case rel => exact ⟨k + 1, by omega, by go_num, rfl⟩
   case measure => simp [intOf]; omega
  ·obtain rfl : k = 8 := by omega
   rw [show 4 * 8 = 32 from rfl, yP]
   go_wp2
   refine bodyPost_ret (v := .agg (ba 32 (outF s))) (zS rfl _ _ (w.heap.size + 1) _ _ _ rfl (by simp [go_sem]) sum_u (by rw [zG]; exact sum_i)) rfl ⟨rfl, ?_⟩
   exact (((Below.refl _ _).alloc (by simp) _).alloc (by simp) _).alloc (by simp; omega) _
def kL : List (BitVec 32) := [1116352408#32, 1899447441#32, 3049323471#32, 3921009573#32, 961987163#32, 1508970993#32, 2453635748#32, 2870763221#32, 3624381080#32, 310598401#32, 607225278#32, 1426881987#32, 1925078388#32, 2162078206#32, 2614888103#32, 3248222580#32, 3835390401#32, 4022224774#32, 264347078#32, 604807628#32, 770255983#32, 1249150122#32, 1555081692#32, 1996064986#32, 2554220882#32, 2821834349#32, 2952996808#32, 3210313671#32, 3336571891#32, 3584528711#32, 113926993#32, 338241895#32, 666307205#32, 773529912#32, 1294757372#32, 1396182291#32, 1695183700#32, 1986661051#32, 2177026350#32, 2456956037#32, 2730485921#32, 2820302411#32, 3259730800#32, 3345764771#32, 3516065817#32, 3600352804#32, 4094571909#32, 275423344#32, 430227734#32, 506948616#32, 659060556#32, 883997877#32, 958139571#32, 1322822218#32, 1537002063#32, 1747873779#32, 1955562222#32, 2024104815#32, 2227730452#32, 2361852424#32, 2428436474#32, 2756734187#32, 3204031479#32, 3329325298#32]
def kF : Wf := fun i => kL.getD i 0#32
structure Tab (w : World) : Prop where
 pos : 0 < w.heap.size
 cell : ∀ i, i < 64 → w.cell? ⟨0, i, none⟩ = some (.int .u32 (M (kF i)))
theorem Tab.below {B : Nat} {w w' : World} (h : Tab w) (hb : Below B w w') (hB : 0 < B) : Tab w' :=
 ⟨Nat.lt_of_lt_of_le h.pos hb.size, fun i hi => by rw [hb.cell (p := ⟨0, i, none⟩) hB]; exact h.cell i hi⟩
theorem Tab.after {W : World} (h : Tab W) (x : After W) : Tab x.val := h.below x.below h.pos
theorem Tab.drewN {w : World} (h : Tab w) (n : Nat) : Tab (w.drewN n) := ⟨h.pos, h.cell⟩
def oct8 (a b c d e f g h : BitVec 32) : Wf := updA (updA (updA (updA (updA (updA (updA (updA (fun _ => 0#32) 0 a) 1 b) 2 c) 3 d) 4 e) 5 f) 6 g) 7 h
theorem oct8_eq (a b c d e f g h : BitVec 32) (i : Nat) (hi : i < 8) : oct8 a b c d e f g h i = oct a b c d e f g h i := by
 match i, hi with
 | 0, _ => rfl
 | 1, _ => rfl
 | 2, _ => rfl
 | 3, _ => rfl
 | 4, _ => rfl
 | 5, _ => rfl
 | 6, _ => rfl
 | 7, _ => rfl
theorem oct_same (s : Wf) (i : Nat) (hi : i < 8) : oct (s 0) (s 1) (s 2) (s 3) (s 4) (s 5) (s 6) (s 7) i = s i := by
 match i, hi with
 | 0, _ => rfl
 | 1, _ => rfl
 | 2, _ => rfl
 | 3, _ => rfl
 | 4, _ => rfl
 | 5, _ => rfl
 | 6, _ => rfl
 | 7, _ => rfl
theorem press_any (h : Wf) (m : Bf) (w : World) (ht : Tab w) :
  Calls Tryz.prog 301 #[.agg (wa 8 h), .agg (ba 64 m)] w fun e w' => e = .returned (.agg (wa 8 (prF kF h m))) ∧ Below w.heap.size w w' := by
 have B0 := Lib.hid ((((Below.refl w.heap.size w).alloc (by simp) (.cells (wa 8 h) 136)).alloc (by simp) (.cells (ba 64 m) 328)).alloc (by simp; omega) (.cells (wa 8 fun _ => 0#32) 136))
 have q0 : row (((w.alloc (.cells (wa 8 h) 136)).alloc (.cells (ba 64 m) 328)).alloc (.cells (wa 8 fun _ => 0#32) 136)) w.heap.size = some (wa 8 h) := by simp [go_sem]
 have q2 : row (((w.alloc (.cells (wa 8 h) 136)).alloc (.cells (ba 64 m) 328)).alloc (.cells (wa 8 fun _ => 0#32) 136)) (w.heap.size + 1 + 1) = some (wa 8 fun _ => 0#32) := by simp [go_sem]
 have HT0 := Lib.hid (ht.below B0.out ht.pos)
 have HT := Lib.hid ht
 clear ht
 go_enter Tryz.func301, Tryz.ntmps301
 go_wp2_with fail
 go_quiet (fail)
 go_wp2_with fail
 go_quiet (fail)
 go_wp2_with fail
 refine (sched_any m _).mono ?_
 rintro e w1 ⟨rfl, hb1⟩
 have r0 := zC hb1 (b := w.heap.size) (c := wa 8 h) (by rw [zQ]; exact q0)
 have r2 := zC hb1 (b := w.heap.size + 1 + 1) (c := wa 8 fun _ => 0#32) (by rw [zQ]; exact q2)
 have B1 := Lib.hid (onto (zL B0.out _) (by simp; omega) hb1)
 have s1 : w.heap.size + 3 ≤ w1.heap.size := by have := hb1.size; simp at this; omega
 have HT1 := Lib.hid (HT.out.below B1.out HT.out.pos)
 clear hb1 q0 q2 B0 HT0
 have HR0 := Lib.hid r0
 have HR2 := Lib.hid r2
 clear r0 r2
 go_wp2_with fail
 go_loopw [5, 6, 7, 8, 9, 10, 11, 12, 13, 14, 15, 16, 35] (fun v5 v6 v7 v8 v9 v10 v11 v12 _ _ _ _ i wr => ∃ t n : Nat, ∃ S : Wf, t ≤ 64 ∧ S = rds kF (sch m 64) h t ∧ i = .int .i64 t ∧ v5 = .int .u32 (M (S 0)) ∧ v6 = .int .u32 (M (S 1)) ∧ v7 = .int .u32 (M (S 2)) ∧ v8 = .int .u32 (M (S 3)) ∧ v9 = .int .u32 (M (S 4)) ∧ v10 = .int .u32 (M (S 5)) ∧ v11 = .int .u32 (M (S 6)) ∧ v12 = .int .u32 (M (S 7)) ∧ wr = w1.drewN n) (fun _ _ _ _ _ _ _ _ _ _ _ _ i _ => 64 - (intOf i).toNat)
 case atStart => exact ⟨0, 0, h, by omega, rfl, rfl, rfl, rfl, rfl, rfl, rfl, rfl, rfl, rfl, rfl⟩
 case round =>
  obtain ⟨t, n, S, ht, hS, rfl, rfl, rfl, rfl, rfl, rfl, rfl, rfl, rfl, rfl⟩ := hrel
  have HS := Lib.hid hS
  clear hS
  by_cases hlt : t < 64
  ·have hd : decide ((t : Int) < 64) = true := by simp; omega
   have hk := HT1.out.cell t hlt
   go_wp2_with fail
   go_quiet ((first | (go_at_call 307; (refine (bg1_any _ _).mono ?_); rintro e w' ⟨rfl, rfl⟩; exact ⟨rfl, _, rfl⟩) | (go_at_call 308; (refine (ch_any _ _ _ _).mono ?_); rintro e w' ⟨rfl, rfl⟩; exact ⟨rfl, _, rfl⟩)))
   go_wp2_with fail
   refine (bg0_any _ _).mono ?_
   rintro e w' ⟨rfl, rfl⟩
   go_wp2_with fail
   refine (mj_any _ _ _ _).mono ?_
   rintro e w' ⟨rfl, rfl⟩
   go_wp2_with fail
   go_roundw
   case rel =>
    refine ⟨t + 1, _, rnd (kF t) (sch m 64 t) S, by omega, by rw [HS.out]; rfl, by go_num, rfl, rfl, rfl, rfl, rfl, rfl, rfl, rfl, rfl⟩
   case measure => simp [intOf]; omega
  ·obtain rfl : t = 64 := by omega
   have r0 := HR0.out
   have HV := Lib.hid (show (wa 8 fun i => h i + oct8 (S 0) (S 1) (S 2) (S 3) (S 4) (S 5) (S 6) (S 7) i) = wa 8 (prF kF h m) from wa_ext fun i hi => by
    rw [oct8_eq _ _ _ _ _ _ _ _ i hi, oct_same S i hi, HS.out]
    unfold prF
    rw [BitVec.add_comm])
   go_wp2_with fail
   refine (adds_any _ _ _).mono ?_
   rintro e w2 ⟨rfl, hb2⟩
   rw [show (Value.agg (wa 8 fun i => h i + updA (updA (updA (updA (updA (updA (updA (updA (fun _ => 0#32) 0 (S 0)) 1 (S 1)) 2 (S 2)) 3 (S 3)) 4 (S 4)) 5 (S 5)) 6 (S 6)) 7 (S 7) i)) = .agg (wa 8 (prF kF h m)) from congrArg Value.agg HV.out]
   have r2 := zC hb2 (by rw [zQ]; exact HR2.out)
   have B2 := Lib.hid (onto (zL B1.out _) (by simp; omega) hb2)
   clear hb2 r0
   go_wp2_with fail
   refine bodyPost_ret (v := .agg (wa 8 (prF kF h m))) (zS rfl _ _ (w.heap.size + 1 + 1) _ _ _ rfl (zD r2 _) s8_u (by rw [xE]; exact s8_i)) rfl ⟨rfl, ?_⟩
   exact zE B2.out (by omega) _
def mrk (b : Bf) (n : Nat) : Bf := upd (putF (fun _ => 0#8) 0 n b) n 128#8
def tll (f : Bf) (L : Nat) : Bf := putF f 56 8 (bgN 8 (8 * L))
def rst (K s : Wf) (b : Bf) (n L : Nat) : Wf := if n < 56 then prF K s (tll (mrk b n) L) else prF K (prF K s (mrk b n)) (tll (fun _ => 0#8) L)
theorem hst_rest (K s : Wf) (b : Bf) (n q : Nat) (hq : q = n / 64) : ∀ i, i < 8 → hst K s (msg b n) (nbk n) i = rst K (hst K s (msg b n) q) (offF b (64 * q)) (n - 64 * q) n i := by
 subst hq
 intro i hi
 unfold rst
 by_cases h : n - 64 * (n / 64) < 56
 ·rw [if_pos h, show nbk n = n / 64 + 1 by unfold nbk; omega]
  simp only [hst]
  refine prF_congr (fun _ _ => rfl) (fun _ _ => rfl) (fun k hk => ?_) i hi
  unfold offF msg tll putF mrk upd putF lenB bgN nbk
  by_cases h1 : 64 * (n / 64) + k < n
  ·rw [if_pos h1, if_neg (by omega), if_neg (by omega), if_pos (by omega), Nat.sub_zero]
  ·rw [if_neg h1]
   by_cases h2 : 64 * (n / 64) + k = n
   ·rw [if_pos h2, if_neg (by omega), if_pos (by omega)]
   ·rw [if_neg h2]
    by_cases h3 : k < 56
    ·rw [if_pos (by omega), if_neg (by omega), if_neg (by omega), if_neg (by omega)]
    ·rw [if_neg (by omega), if_pos (by omega)]
     congr 3
     omega
 ·rw [if_neg h, show nbk n = n / 64 + 1 + 1 by unfold nbk; omega]
  simp only [hst]
  refine prF_congr (fun _ _ => rfl) (prF_congr (fun _ _ => rfl) (fun _ _ => rfl) fun k hk => ?_) (fun k hk => ?_) i hi
  ·unfold offF msg mrk upd putF nbk
   by_cases h1 : 64 * (n / 64) + k < n
   ·rw [if_pos h1, if_neg (by omega), if_pos (by omega), Nat.sub_zero]
   ·rw [if_neg h1]
    by_cases h2 : 64 * (n / 64) + k = n
    ·rw [if_pos h2, if_pos (by omega)]
    ·rw [if_neg h2, if_pos (by omega), if_neg (by omega), if_neg (by omega)]
  ·unfold offF msg tll putF lenB bgN nbk
   rw [if_neg (by omega), if_neg (by omega)]
   by_cases h3 : k < 56
   ·rw [if_pos (by omega), if_neg (by omega)]
   ·rw [if_neg (by omega), if_pos (by omega)]
    congr 3
    omega
theorem full_piece (b : Bf) (n j : Nat) (h : 64 * j + 64 ≤ n) (k : Nat) (hk : k < 64) : offF (msg b n) (64 * j) k = offF b (64 * j) k := by
 unfold offF msg
 rw [if_pos (by omega)]
theorem prest_any (s : Wf) (b : Bf) (n c L : Nat) (A : Option Addr) (w : World) (ht : Tab w) (hs : Sl w w.heap.size A n c b) (hn : n < 64) (hL : L ≤ 140737488355328) :
  Calls Tryz.prog 303 #[.agg (wa 8 s), .slice A n c, .int .i64 L] w fun e w' => e = .returned (.agg (wa 8 (rst kF s b n L))) ∧ Below w.heap.size w w' := by
 have B0 := Lib.hid ((((Below.refl w.heap.size w).alloc (by simp) (.cells (wa 8 s) 136)).alloc (by simp) (.cells (wa 8 fun _ => 0#32) 136)).alloc (by simp; omega) (.cells (ba 64 fun _ => 0#8) 328))
 have HT := Lib.hid ht
 have HS := Lib.hid (hs.below B0.out)
 obtain ⟨x, hx⟩ : ∃ x, x = 8 * L := ⟨_, rfl⟩
 have m1 : IntKind.u64.wrap ((L : Int) * 8) = (x : Int) := by
  show (L : Int) * 8 % 18446744073709551616 = _
  omega
 have m2 : (L : Int) * 8 % 18446744073709551616 = (x : Int) := m1
 have hxb : x < 18446744073709551616 := by omega
 have HX := Lib.hid hx
 clear hx
 clear ht hs
 have hsl := m64_sl_all (w.heap.size + 1 + 1)
 have hs8 := m64_sl_l (w.heap.size + 1 + 1) 56 (by omega)
 have hset : (ba 64 (putF (fun _ => 0#8) 0 n b)).setIfInBounds n (.int .u8 128) = ba 64 (mrk b n) := ba_set 64 _ n 128#8
 go_enter Tryz.func303, Tryz.ntmps303
 by_cases hlt : n < 56
 ·have hd : decide ((56 : Int) ≤ (n : Int)) = false := by simp; omega
  have HV := Lib.hid (show rst kF s b n L = prF kF s (tll (mrk b n) L) by unfold rst; rw [if_pos hlt])
  go_wp2_with (refine wpl_copy rfl (.tmp 9) (.tmp 10) 22 22 5 rfl zZ u8_i (zA _ _ _ _ (by simp)) HS.out (show n = min n 64 by omega) rfl rfl ?_)
  refine (wrn_any _ 56 8 8 64 x (mrk b n) _ (zA _ _ _ _ (by simp)) (by omega) (by omega) hxb).mono ?_
  rintro e w' ⟨rfl, rfl⟩
  rw [HX.out, show putF (mrk b n) 56 8 (bgN 8 (8 * L)) = tll (mrk b n) L from rfl]
  have B1 := Lib.hid ((((Below.refl w.heap.size w).alloc (by simp) (.cells (wa 8 s) 136)).alloc (by simp) (.cells (wa 8 fun _ => 0#32) 136)).alloc (by simp; omega) (.cells (ba 64 (tll (mrk b n) L)) 328))
  have q1 : row (((w.alloc (.cells (wa 8 s) 136)).alloc (.cells (wa 8 fun _ => 0#32) 136)).alloc (.cells (ba 64 (tll (mrk b n) L)) 328)) (w.heap.size + 1) = some (wa 8 fun _ => 0#32) := by simp [go_sem]
  have HQ1 := Lib.hid q1
  clear q1
  go_wp2_with fail
  refine (press_any s (tll (mrk b n) L) _ (HT.out.below B1.out HT.out.pos)).mono ?_
  rintro e w1 ⟨rfl, hb1⟩
  have r1 := zC hb1 HQ1.out
  have B2 := Lib.hid (onto B1.out (by simp; omega) hb1)
  clear hb1
  go_wp2_with fail
  refine bodyPost_ret (v := .agg (wa 8 (prF kF s (tll (mrk b n) L)))) (zS rfl _ _ (w.heap.size + 1) _ _ _ rfl (zD r1 _) s8_u (by rw [xE]; exact s8_i)) rfl ⟨by rw [HV.out], ?_⟩
  exact zE B2.out (by omega) _
 ·have hd : decide ((56 : Int) ≤ (n : Int)) = true := by simp; omega
  have HV := Lib.hid (show rst kF s b n L = prF kF (prF kF s (mrk b n)) (tll (fun _ => 0#8) L) by unfold rst; rw [if_neg hlt])
  go_wp2_with (refine wpl_copy rfl (.tmp 9) (.tmp 10) 22 22 5 rfl zZ u8_i (zA _ _ _ _ (by simp)) HS.out (show n = min n 64 by omega) rfl rfl ?_)
  have B1 := Lib.hid ((((Below.refl w.heap.size w).alloc (by simp) (.cells (wa 8 s) 136)).alloc (by simp) (.cells (wa 8 fun _ => 0#32) 136)).alloc (by simp; omega) (.cells (ba 64 (mrk b n)) 328))
  have q0 : row (((w.alloc (.cells (wa 8 s) 136)).alloc (.cells (wa 8 fun _ => 0#32) 136)).alloc (.cells (ba 64 (mrk b n)) 328)) w.heap.size = some (wa 8 s) := by simp [go_sem]
  have q1 : row (((w.alloc (.cells (wa 8 s) 136)).alloc (.cells (wa 8 fun _ => 0#32) 136)).alloc (.cells (ba 64 (mrk b n)) 328)) (w.heap.size + 1) = some (wa 8 fun _ => 0#32) := by simp [go_sem]
  have q2 : row (((w.alloc (.cells (wa 8 s) 136)).alloc (.cells (wa 8 fun _ => 0#32) 136)).alloc (.cells (ba 64 (mrk b n)) 328)) (w.heap.size + 1 + 1) = some (ba 64 (mrk b n)) := by simp [go_sem]
  refine (press_any s (mrk b n) _ (HT.out.below B1.out HT.out.pos)).mono ?_
  rintro e w1 ⟨rfl, hb1⟩
  have r0 := zC hb1 q0
  have r1 := zC hb1 q1
  have r2 := zC hb1 q2
  have B2 := Lib.hid (onto B1.out (by simp; omega) hb1)
  have s1 : w.heap.size + 3 ≤ w1.heap.size := by have := hb1.size; simp at this; omega
  clear hb1 q0 q1 q2 B1 B0 HS hset
  obtain ⟨S, hS⟩ : ∃ S, S = prF kF s (mrk b n) := ⟨_, rfl⟩
  rw [← hS]
  have B3 := Lib.hid (zE (zE B2.out (Nat.le_refl _) (wa 8 S)) (by omega : w.heap.size ≤ w.heap.size + 1 + 1) (ba 64 fun _ => 0#8))
  have t0 : row ((w1.setRow w.heap.size (wa 8 S)).setRow (w.heap.size + 1 + 1) (ba 64 fun _ => 0#8)) w.heap.size = some (wa 8 S) := by rw [zB _ _ _ _ (by omega)]; exact zD r0 _
  have t1 : row ((w1.setRow w.heap.size (wa 8 S)).setRow (w.heap.size + 1 + 1) (ba 64 fun _ => 0#8)) (w.heap.size + 1) = some (wa 8 fun _ => 0#32) := by rw [zB _ _ _ _ (by omega), zB _ _ _ _ (by omega)]; exact r1
  have r2' : row (w1.setRow w.heap.size (wa 8 S)) (w.heap.size + 1 + 1) = some (ba 64 (mrk b n)) := by rw [zB _ _ _ _ (by omega)]; exact r2
  have t2 : row ((w1.setRow w.heap.size (wa 8 S)).setRow (w.heap.size + 1 + 1) (ba 64 fun _ => 0#8)) (w.heap.size + 1 + 1) = some (ba 64 fun _ => 0#8) := zD r2' _
  have HT0 := Lib.hid t0
  have HT1 := Lib.hid t1
  have HT2 := Lib.hid t2
  have HS2 := Lib.hid hS
  clear t0 t1 t2 hS B2 r1 r2
  go_wp2_with fail
  generalize (w1.setRow w.heap.size (wa 8 S)).setRow (w.heap.size + 1 + 1) (ba 64 fun _ => 0#8) = w2 at HT0 HT1 HT2 B3 ⊢
  clear r0 r2'
  refine (wrn_any _ 56 8 8 64 x (fun _ => 0#8) _ HT2.out (by omega) (by omega) hxb).mono ?_
  rintro e w' ⟨rfl, rfl⟩
  rw [HX.out, show putF (fun _ => 0#8) 56 8 (bgN 8 (8 * L)) = tll (fun _ => 0#8) L from rfl]
  have B4 := Lib.hid (zE B3.out (by omega : w.heap.size ≤ w.heap.size + 1 + 1) (ba 64 (tll (fun _ => 0#8) L)))
  have r0 : row (w2.setRow (w.heap.size + 1 + 1) (ba 64 (tll (fun _ => 0#8) L))) w.heap.size = some (wa 8 S) := by rw [zB _ _ _ _ (by omega)]; exact HT0.out
  have r2 : row (w2.setRow (w.heap.size + 1 + 1) (ba 64 (tll (fun _ => 0#8) L))) (w.heap.size + 1 + 1) = some (ba 64 (tll (fun _ => 0#8) L)) := zD HT2.out _
  have HR1 := Lib.hid (show row (w2.setRow (w.heap.size + 1 + 1) (ba 64 (tll (fun _ => 0#8) L))) (w.heap.size + 1) = some (wa 8 fun _ => 0#32) by rw [zB _ _ _ _ (by omega)]; exact HT1.out)
  have s2 : w.heap.size + 2 < (w2.setRow (w.heap.size + 1 + 1) (ba 64 (tll (fun _ => 0#8) L))).heap.size := zK r2
  generalize w2.setRow (w.heap.size + 1 + 1) (ba 64 (tll (fun _ => 0#8) L)) = w3 at B4 r0 r2 HR1 s2 ⊢
  go_wp2_with fail
  refine (press_any S (tll (fun _ => 0#8) L) _ (HT.out.below B4.out HT.out.pos)).mono ?_
  rintro e w4 ⟨rfl, hb4⟩
  have r1 := zC hb4 HR1.out
  have B5 := Lib.hid (onto B4.out (by omega) hb4)
  clear hb4 r0 r2
  go_wp2_with fail
  refine bodyPost_ret (v := .agg (wa 8 (prF kF S (tll (fun _ => 0#8) L)))) (zS rfl _ _ (w.heap.size + 1) _ _ _ rfl (zD r1 _) s8_u (by rw [xE]; exact s8_i)) rfl ⟨by rw [HV.out, ← HS2.out], ?_⟩
  exact zE B5.out (by omega) _
def slN : Value → Nat
 | .slice _ n _ => n
 | _ => 0
theorem m64_at (A : Option Addr) (n c : Nat) (h : 64 ≤ n) (w : World) : (Instr.arrayAt 328 (.slice A n c)).run Tryz.prog w = .ok (.pointer A) w := by
 simp [Instr.arrayAt, run_underlying m64_u, Nat.not_lt.2 h]
theorem m64_sl_ld {w : World} {B n c g o : Nat} {b : Bf} (hs : Sl w B (some ⟨g, o, none⟩) n c b) (h : 64 ≤ n) : ldR Tryz.prog 328 64 w g o (row w g) = .ok (.agg (ba 64 b)) w := by
 obtain ⟨g', o', e, _, hc⟩ := hs.at_ (by omega)
 obtain ⟨rfl, rfl⟩ : g = g' ∧ o = o' := by injection e with e; injection e with e1 e2; exact ⟨e1, e2⟩
 rw [← m64_ld]
 have hx := run_loadAt_mid (P := Tryz.prog) w g o 328 (ba 64 b).toList _ (fun j v hv => by
  rw [Array.getElem?_toList] at hv
  by_cases hj : j < 64
  ·rw [zY _ _ _ hj] at hv
   rw [hc j (by omega), hv]
  ·rw [yM _ _ _ hj] at hv; cases hv) m64_u rfl (by rw [Array.length_toList, zG]; exact m64_i)
 rw [Array.toArray_toList] at hx
 exact hx
structure ShInv (w : World) (p : Nat) (s : Wf) (wr : World) : Prop where
 below : Below w.heap.size w wr
 hp : w.heap.size < p
 r0 : row wr w.heap.size = some (ba 32 fun _ => 0#8)
 rp : row wr p = some (wa 8 s)
theorem ShInv.size {w : World} {p : Nat} {s : Wf} {wr : World} (h : ShInv w p s wr) : w.heap.size + 2 ≤ wr.heap.size := by have := zK h.rp; have := h.hp; omega
theorem ShInv.call {w : World} {p : Nat} {s : Wf} {wr w' : World} (h : ShInv w p s wr) (hb : Below wr.heap.size wr w') : ShInv w p s w' :=
 ⟨onto h.below (by have := h.size; omega) hb, h.hp, zC hb h.r0, zC hb h.rp⟩
theorem ShInv.put {w : World} {p : Nat} {s : Wf} {wr : World} (h : ShInv w p s wr) (s' : Wf) : ShInv w p s' (wr.setRow p (wa 8 s')) :=
 ⟨zE h.below (by have := h.hp; omega) _, h.hp, by rw [zB _ _ _ _ (by have := h.hp; omega)]; exact h.r0, zD h.rp _⟩
theorem hash_any (b : Bf) (n c : Nat) (A : Option Addr) (w : World) (ht : Tab w) (hs : Sl w w.heap.size A n c b) (hn : n ≤ 140737488355328) :
  Calls Tryz.prog 286 #[.slice A n c] w fun e w' => e = .returned (.agg (ba 32 (shaF kF iF b n))) ∧ Below w.heap.size w w' := by
 have B0 := Lib.hid ((Below.refl w.heap.size w).alloc (by simp) (.cells (ba 32 fun _ => 0#8) 66))
 have q0 : row (w.alloc (.cells (ba 32 fun _ => 0#8) 66)) w.heap.size = some (ba 32 fun _ => 0#8) := by simp [go_sem]
 have HT := Lib.hid ht
 have HS := Lib.hid hs
 clear ht hs
 go_enter Tryz.func286, Tryz.ntmps286
 go_wp2_with fail
 refine (start_any _).mono ?_
 rintro e w1 ⟨rfl, hb1⟩
 have I1 : ShInv w w1.heap.size (hst kF iF (msg b n) 0) (w1.alloc (.cells (wa 8 iF) 136)) :=
  ⟨(onto B0.out (by simp) hb1).alloc (by have := hb1.size; simp at this; omega) _, by have := hb1.size; simp at this; omega, zI (zC hb1 q0) _, zA _ _ _ _ rfl⟩
 have HI1 := Lib.hid I1
 clear I1 q0 hb1 B0
 go_wp2_with fail
 generalize hp : w1.heap.size = p at HI1 ⊢
 generalize w1.alloc (.cells (wa 8 iF) 136) = w2 at HI1 ⊢
 clear hp
 go_loopw [0] (fun v wr => ∃ j : Nat, ∃ A' : Option Addr, ∃ c' : Nat, 64 * j ≤ n ∧ v = .slice A' (n - 64 * j) c' ∧ Sl wr w.heap.size A' (n - 64 * j) c' (offF b (64 * j)) ∧ ShInv w p (hst kF iF (msg b n) j) wr) (fun v _ => slN v)
 case atStart => exact ⟨0, A, c, by omega, rfl, by rw [Nat.mul_zero, offF_zero]; exact HS.out.below HI1.out.below, HI1.out⟩
 case round =>
  clear HI1 HS
  obtain ⟨j, A', c', hj, rfl, hs, hI⟩ := hrel
  obtain ⟨wo, rfl⟩ : ∃ wo : World, wo = wr := ⟨_, rfl⟩
  obtain ⟨r, hr⟩ : ∃ r, r = n - 64 * j := ⟨_, rfl⟩
  rw [← hr]
  rw [← hr] at hs
  have HR := Lib.hid hr
  have HS := Lib.hid hs
  have HI := Lib.hid hI
  have HJ := Lib.hid hj
  obtain ⟨S, hS⟩ : ∃ S, S = hst kF iF (msg b n) j := ⟨_, rfl⟩
  rw [← hS] at HI
  have HSS := Lib.hid hS
  clear hr hs hI hj hS
  by_cases hlt : 64 ≤ r
  ·have hd : decide ((64 : Int) ≤ (r : Int)) = true := by simp; omega
   obtain ⟨g, o, hA, hg, -⟩ := HS.out.at_ (by omega)
   subst hA
   have hup := run_upto zZ u8_i (some (⟨g, o, none⟩ : Addr)) r c' 64 (by have := HS.out.le; omega)
   have hfrom := run_from zZ u8_i (some (⟨g, o, none⟩ : Addr)) r c' 64 hlt
   rw [show ((64 : Nat) : Int) = 64 from rfl] at hup hfrom
   have hat := m64_at (some (⟨g, o, none⟩ : Addr)) 64 c' (Nat.le_refl _)
   have hld : ∀ m, ldR Tryz.prog 328 64 (wo.drewN m) g o (row wo g) = .ok (.agg (ba 64 (offF b (64 * j)))) (wo.drewN m) := fun m => by
    rw [← zQ wo m g]; exact m64_sl_ld (HS.out.drewN m) hlt
   have rp := HI.out.rp
   clear hg
   go_wp2_with fail
   refine yQ 5 (by kernel_rfl) (by kernel_rfl) (fun _ _ _ _ _ h => h) ?_
   simp only [List.take_succ_cons, List.take_zero, List.drop_succ_cons, List.drop_zero]
   repeat (go_big_quiet_step (fail))
   refine wpQuiet_nil ?_
   rintro _ ⟨nq, rfl⟩
   clear hld hup hat
   go_wp2_with fail
   refine (press_any S (offF b (64 * j)) _ ((HT.out.below HI.out.below HT.out.pos).drewN nq)).mono ?_
   rintro e w3 ⟨rfl, hb3⟩
   have I3 := HI.out.call ((zL (Below.refl wo.heap.size wo) nq).trans hb3)
   have rp3 := I3.rp
   have HI4 := Lib.hid (I3.put (prF kF S (offF b (64 * j))))
   have HS4 := Lib.hid (((HS.out.from_ 64 hlt).below (onto (zL (Below.refl w.heap.size wo) nq) (by have := HI.out.size; simp; omega) hb3)).below (zE (b := p) (Below.refl w.heap.size w3) (by have := I3.hp; omega) (wa 8 (prF kF S (offF b (64 * j))))))
   clear hb3 I3 rp HI HS
   have hj1 : 64 * (j + 1) ≤ n := by have := HR.out; omega
   have HE := Lib.hid (show r - 64 = n - 64 * (j + 1) by have := HR.out; omega)
   have HV := Lib.hid (show prF kF S (offF b (64 * j)) = hst kF iF (msg b n) (j + 1) by
    rw [HSS.out]
    funext i
    simp only [hst]
    unfold prF
    rw [sch_congr (fun k hk => (full_piece b n j (by have := HR.out; omega) k hk).symm)])
   go_wp2_with fail
   go_roundw
   case rel =>
    rw [HE.out] at HS4 ⊢
    rw [HV.out] at HI4 HS4 ⊢
    exact ⟨j + 1, _, _, hj1, rfl, HS4.out.congr fun i hi => by unfold offF; congr 1; omega, HI4.out⟩
   case measure => simp only [slN]; omega
  ·have hd : decide ((64 : Int) ≤ (r : Int)) = false := by simp; omega
   have rp := HI.out.rp
   go_wp2_with fail
   refine (prest_any S (offF b (64 * j)) r c' n A' _ (HT.out.below HI.out.below HT.out.pos) (HS.out.more (by have := HI.out.size; omega)) (by omega) hn).mono ?_
   rintro e w3 ⟨rfl, hb3⟩
   have HI3 := Lib.hid (HI.out.call hb3)
   clear hb3 HI rp
   have HV := Lib.hid (show ba 32 (outF (rst kF S (offF b (64 * j)) r n)) = ba 32 (shaF kF iF b n) from yT fun i hi => by
    unfold shaF
    refine outF_congr (fun k hk => ?_) i hi
    rw [hst_rest kF iF b n j (by have := HR.out; have := HJ.out; omega) k hk, HSS.out, HR.out])
   go_wp2_with fail
   refine (sumOf_any _ _).mono ?_
   rintro e w4 ⟨rfl, hb4⟩
   have HI4 := Lib.hid (HI3.out.call hb4)
   have r0 := HI4.out.r0
   clear hb4 HI3
   go_wp2_with fail
   refine bodyPost_ret (v := .agg (ba 32 (outF (rst kF S (offF b (64 * j)) r n)))) (zS rfl _ _ w.heap.size _ _ _ rfl (zD r0 _) sum_u (by rw [zG]; exact sum_i)) rfl ⟨by rw [HV.out], ?_⟩
   exact zE HI4.out.below (by omega) _
end Go.Proofs.YteffjpdcghlnlaaGreatDoor.Oct
