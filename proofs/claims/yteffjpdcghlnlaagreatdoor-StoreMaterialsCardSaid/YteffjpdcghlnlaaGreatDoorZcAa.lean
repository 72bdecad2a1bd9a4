import Derived.Test.YteffjpdcghlnlaaGreatDoorRows
import Derived.WalkKit
import Derived.Test.YteffjpdcghlnlaaGreatDoorZcLib
import Derived.Laws.BitsAllLaws
set_option linter.unusedVariables false
set_option linter.unusedSimpArgs false
namespace Go.Proofs.YteffjpdcghlnlaaGreatDoor.Oct
open Go.RowKit
theorem u8_u : Tryz.prog.underlying 5 = some (.int .u8) := by kernel_rfl
theorem u8_i : (Tryz.prog.info? 5).map (·.size) = some 1 := by kernel_rfl
theorem u8_size (w : World) : (sizeOf 5).run Tryz.prog w = .ok 1 w := by kernel_rfl
theorem yG : (Tryz.prog.info? 5).map (fun i => (i.zero, i.size, i.bytes)) = some (some (.int .u8 0), 1, 1) := by kernel_rfl
theorem zZ : Tryz.prog.underlying 22 = some (.slice 5) := by kernel_rfl
theorem u32_u : Tryz.prog.underlying 135 = some (.int .u32) := by kernel_rfl
theorem i64_u : Tryz.prog.underlying 3 = some (.int .i64) := by kernel_rfl
theorem str_u : Tryz.prog.underlying 9 = some .string := by kernel_rfl
theorem blk_u : Tryz.prog.underlying 266 = some (.array 16 5) := by kernel_rfl
theorem blk_i : (Tryz.prog.info? 266).map (·.size) = some 16 := by kernel_rfl
@[go_sem ↓] theorem blk_l (p : Value) : Instr.loadAt 266 p = ldA 266 p := rfl
@[go_sem ↓] theorem blk_s (p v : Value) : Instr.storeAt 266 p v = stA 266 p v := rfl
@[go_sem] theorem blk_ld (w : World) (b o : Nat) : (ldA 266 (.pointer (some ⟨b, o, none⟩))).run Tryz.prog w = ldR Tryz.prog 266 16 w b o (row w b) := yU _ _ _ blk_u 16 blk_i w b o
@[go_sem] theorem blk_st (w : World) (b o : Nat) (c : Array Value) : (stA 266 (.pointer (some ⟨b, o, none⟩)) (.agg c)).run Tryz.prog w = stR Tryz.prog 266 16 w b o (.agg c) (row w b) := yO _ 16 blk_i w b o c
theorem blk_z : (Tryz.prog.info? 266).map (·.zero) = some (some (.agg (ba 16 fun _ => 0#8))) := by unfold ba; kernel_rfl
@[go_sem ↓] theorem blk_zero (w : World) : (zeroValue 266).run Tryz.prog w = .ok (.agg (ba 16 fun _ => 0#8)) w := yC _ _ blk_z w
@[go_sem] theorem blk_ix (f : Nat → BitVec 8) (k : Nat) (h : k < 16) (w : World) : (Instr.index 266 (.agg (ba 16 f)) (.int .i64 (k : Int))).run Tryz.prog w = .ok (.int .u8 (I (f k))) w := by
 simp [Instr.index, part, go_sem, h]
@[go_sem] theorem blk_eq (d : Nat) (f g : Nat → BitVec 8) (w : World) : (Op.equalIn (d + 2) 266 (.agg (ba 16 f)) (.agg (ba 16 g))).run Tryz.prog w = .ok (eqB 16 f g) w := eq_bytes _ 16 d _ .u8 blk_u u8_u u8_i f g w
@[go_sem ↓] theorem box_l (p : Value) : Instr.loadAt 293 p = ldA 293 p := rfl
@[go_sem ↓] theorem box_s (p v : Value) : Instr.storeAt 293 p v = stA 293 p v := rfl
theorem wrd_u : Tryz.prog.underlying 341 = some (.array 4 5) := by kernel_rfl
theorem wrd_i : (Tryz.prog.info? 341).map (·.size) = some 4 := by kernel_rfl
@[go_sem ↓] theorem wrd_l (p : Value) : Instr.loadAt 341 p = ldA 341 p := rfl
@[go_sem ↓] theorem wrd_s (p v : Value) : Instr.storeAt 341 p v = stA 341 p v := rfl
@[go_sem] theorem wrd_ld (w : World) (b o : Nat) : (ldA 341 (.pointer (some ⟨b, o, none⟩))).run Tryz.prog w = ldR Tryz.prog 341 4 w b o (row w b) := yU _ _ _ wrd_u 4 wrd_i w b o
@[go_sem] theorem wrd_st (w : World) (b o : Nat) (c : Array Value) : (stA 341 (.pointer (some ⟨b, o, none⟩)) (.agg c)).run Tryz.prog w = stR Tryz.prog 341 4 w b o (.agg c) (row w b) := yO _ 4 wrd_i w b o c
theorem wrd_z : (Tryz.prog.info? 341).map (·.zero) = some (some (.agg (ba 4 fun _ => 0#8))) := by unfold ba; kernel_rfl
@[go_sem ↓] theorem wrd_zero (w : World) : (zeroValue 341).run Tryz.prog w = .ok (.agg (ba 4 fun _ => 0#8)) w := yC _ _ wrd_z w
theorem key_u : Tryz.prog.underlying 61 = some (.array 32 5) := by kernel_rfl
theorem key_i : (Tryz.prog.info? 61).map (·.size) = some 32 := by kernel_rfl
@[go_sem ↓] theorem key_l (p : Value) : Instr.loadAt 61 p = ldA 61 p := rfl
@[go_sem ↓] theorem key_s (p v : Value) : Instr.storeAt 61 p v = stA 61 p v := rfl
@[go_sem] theorem key_ld (w : World) (b o : Nat) : (ldA 61 (.pointer (some ⟨b, o, none⟩))).run Tryz.prog w = ldR Tryz.prog 61 32 w b o (row w b) := yU _ _ _ key_u 32 key_i w b o
@[go_sem] theorem key_st (w : World) (b o : Nat) (c : Array Value) : (stA 61 (.pointer (some ⟨b, o, none⟩)) (.agg c)).run Tryz.prog w = stR Tryz.prog 61 32 w b o (.agg c) (row w b) := yO _ 32 key_i w b o c
theorem key_z : (Tryz.prog.info? 61).map (·.zero) = some (some (.agg (ba 32 fun _ => 0#8))) := by unfold ba; kernel_rfl
@[go_sem ↓] theorem key_zero (w : World) : (zeroValue 61).run Tryz.prog w = .ok (.agg (ba 32 fun _ => 0#8)) w := yC _ _ key_z w
theorem wds_u : Tryz.prog.underlying 342 = some (.array 60 341) := by kernel_rfl
theorem wds_i : (Tryz.prog.info? 342).map (·.size) = some 240 := by kernel_rfl
@[go_sem ↓] theorem wds_l (p : Value) : Instr.loadAt 342 p = ldA 342 p := rfl
@[go_sem ↓] theorem wds_s (p v : Value) : Instr.storeAt 342 p v = stA 342 p v := rfl
@[go_sem] theorem wds_ld (w : World) (b o : Nat) : (ldA 342 (.pointer (some ⟨b, o, none⟩))).run Tryz.prog w = ldR Tryz.prog 342 240 w b o (row w b) := yU _ _ _ wds_u 240 wds_i w b o
theorem wds_z : (Tryz.prog.info? 342).map (·.zero) = some (some (.agg (ba 240 fun _ => 0#8))) := by unfold ba; kernel_rfl
@[go_sem ↓] theorem wds_zero (w : World) : (zeroValue 342).run Tryz.prog w = .ok (.agg (ba 240 fun _ => 0#8)) w := yC _ _ wds_z w
theorem bks_u : Tryz.prog.underlying 291 = some (.array 15 266) := by kernel_rfl
theorem bks_i : (Tryz.prog.info? 291).map (·.size) = some 240 := by kernel_rfl
@[go_sem ↓] theorem bks_l (p : Value) : Instr.loadAt 291 p = ldA 291 p := rfl
@[go_sem ↓] theorem bks_s (p v : Value) : Instr.storeAt 291 p v = stA 291 p v := rfl
@[go_sem] theorem bks_ld (w : World) (b o : Nat) : (ldA 291 (.pointer (some ⟨b, o, none⟩))).run Tryz.prog w = ldR Tryz.prog 291 240 w b o (row w b) := yU _ _ _ bks_u 240 bks_i w b o
@[go_sem] theorem bks_st (w : World) (b o : Nat) (c : Array Value) : (stA 291 (.pointer (some ⟨b, o, none⟩)) (.agg c)).run Tryz.prog w = stR Tryz.prog 291 240 w b o (.agg c) (row w b) := yO _ 240 bks_i w b o c
theorem bks_z : (Tryz.prog.info? 291).map (·.zero) = some (some (.agg (ba 240 fun _ => 0#8))) := by unfold ba; kernel_rfl
@[go_sem ↓] theorem bks_zero (w : World) : (zeroValue 291).run Tryz.prog w = .ok (.agg (ba 240 fun _ => 0#8)) w := yC _ _ bks_z w
@[go_sem] theorem wrd_ix (f : Nat → BitVec 8) (k : Nat) (h : k < 4) (w : World) : (Instr.index 341 (.agg (ba 4 f)) (.int .i64 (k : Int))).run Tryz.prog w = .ok (.int .u8 (I (f k))) w := by
 simp [Instr.index, part, go_sem, h]
@[go_sem] theorem key_ix (f : Nat → BitVec 8) (k : Nat) (h : k < 32) (w : World) : (Instr.index 61 (.agg (ba 32 f)) (.int .i64 (k : Int))).run Tryz.prog w = .ok (.int .u8 (I (f k))) w := by
 simp [Instr.index, part, go_sem, h]
@[go_sem] theorem wds_ix (f : Nat → BitVec 8) (k : Nat) (h : k < 60) (w : World) : (Instr.index 342 (.agg (ba 240 f)) (.int .i64 (k : Int))).run Tryz.prog w = .ok (.agg (ba 4 (offF f (k * 4)))) w := by
 have h1 : ¬ 60 ≤ k := by omega
 have h2 := ba_ex 240 (k * 4) (k * 4 + 4) f (by omega)
 simp [Instr.index, part, go_sem, h1, h2]
theorem non_u : Tryz.prog.underlying 217 = some (.array 12 5) := by kernel_rfl
theorem non_i : (Tryz.prog.info? 217).map (·.size) = some 12 := by kernel_rfl
@[go_sem ↓] theorem non_l (p : Value) : Instr.loadAt 217 p = ldA 217 p := rfl
@[go_sem ↓] theorem non_s (p v : Value) : Instr.storeAt 217 p v = stA 217 p v := rfl
@[go_sem] theorem non_ld (w : World) (b o : Nat) : (ldA 217 (.pointer (some ⟨b, o, none⟩))).run Tryz.prog w = ldR Tryz.prog 217 12 w b o (row w b) := yU _ _ _ non_u 12 non_i w b o
@[go_sem] theorem non_st (w : World) (b o : Nat) (c : Array Value) : (stA 217 (.pointer (some ⟨b, o, none⟩)) (.agg c)).run Tryz.prog w = stR Tryz.prog 217 12 w b o (.agg c) (row w b) := yO _ 12 non_i w b o c
theorem non_z : (Tryz.prog.info? 217).map (·.zero) = some (some (.agg (ba 12 fun _ => 0#8))) := by unfold ba; kernel_rfl
@[go_sem ↓] theorem non_zero (w : World) : (zeroValue 217).run Tryz.prog w = .ok (.agg (ba 12 fun _ => 0#8)) w := yC _ _ non_z w
theorem blk_len : Tryz.prog.arrayLen 266 = 16 := by kernel_rfl
theorem blk_elem : Tryz.prog.elem 266 = 5 := by kernel_rfl
theorem blk_sl_h (B m : Nat) (hm : m ≤ 16) (w : World) : (Instr.sliceAt 266 (.pointer (some ⟨B, 0, none⟩)) none (some (.int .i64 (m : Int))) none).run Tryz.prog w = .ok (.slice (some ⟨B, 0, none⟩) m 16) w := by
 rw [run_sliceAt_array_h w 266 ⟨B, 0, none⟩ (by kernel_rfl) .i64 _ (by omega) (by rw [blk_len]; omega), blk_elem, u8_size, blk_len, Result.andThen_ok]
 unfold slicedAt
 rw [if_neg (by omega), Int.toNat_natCast]
 rfl
def t2 (a : BitVec 8) : BitVec 8 := (a <<< 1) ^^^ (if a.msb then 27#8 else 0#8)
def dbl : Nat → BitVec 8 → BitVec 8
 | 0, a => a
 | k + 1, a => t2 (dbl k a)
def mulTo (a b : BitVec 8) : Nat → BitVec 8
 | 0 => 0#8
 | k + 1 => mulTo a b k ^^^ (if b.getLsbD k then dbl k a else 0#8)
def mul (a b : BitVec 8) : BitVec 8 := mulTo a b 8
def part (x : BitVec 8) (i : Nat) : BitVec 8 := if x.getLsbD i then 1#8 <<< i else 0#8
theorem yF (x : BitVec 8) : x = part x 0 ^^^ part x 1 ^^^ part x 2 ^^^ part x 3 ^^^ part x 4 ^^^ part x 5 ^^^ part x 6 ^^^ part x 7 := by
 revert x; decide +kernel
def rT (a b : BitVec 8) : Nat → BitVec 16
 | 0 => 0#16
 | k + 1 => rT a b k ^^^ (if b.getLsbD k then (a.zeroExtend 16) <<< k else 0#16)
def invP (a : BitVec 8) : Nat → BitVec 8
 | 0 => a
 | k + 1 => mul (invP a k) (invP a k)
def invO (a : BitVec 8) : Nat → BitVec 8
 | 0 => 1#8
 | k + 1 => mul (invO a k) (invP a (k + 1))
def inv (a : BitVec 8) : BitVec 8 := invO a 7
def boxTo (b : BitVec 8) : Nat → BitVec 8
 | 0 => 99#8
 | k + 1 => boxTo b k ^^^ b.rotateLeft k
def box (a : BitVec 8) : BitVec 8 := boxTo (inv a) 5
abbrev Pl := BitVec 128
def gR : Pl := 0xe1#128 <<< 120
def gx (p : Pl) : Pl := (p >>> 1) ^^^ (if p.getLsbD 0 then gR else 0#128)
def gxn : Nat → Pl → Pl
 | 0, p => p
 | n + 1, p => gx (gxn n p)
def e0 : Pl := 1#128 <<< 127
def sel (c : Bool) (p : Pl) : Pl := if c then p else 0#128
def sm (v : Nat → Pl) (c : Nat → Bool) : Nat → Pl
 | 0 => 0#128
 | n + 1 => sm v c n ^^^ sel (c n) (v n)
def bt (p : Pl) (i : Nat) : Bool := p.getLsbD (127 - i)
def ev (c : Nat → Bool) (n : Nat) : Pl := sm (fun i => gxn i e0) c n
def gmA (a b : Pl) (n : Nat) : Pl := sm (fun i => gxn i b) (bt a) n
def gm (a b : Pl) : Pl := gmA a b 128
theorem gxn_one : ∀ i : Fin 128, gxn i.val e0 = 1#128 <<< (127 - i.val) := by decide +kernel
theorem bt_one (i : Nat) (hi : i < 128) (j : Nat) (hj : j < 128) : bt (gxn i e0) j = decide (i = j) := by
 rw [gxn_one ⟨i, hi⟩]
 unfold bt
 rw [BitVec.getLsbD_shiftLeft, BitVec.getLsbD_one]
 rw [Bool.eq_iff_iff]
 simp
 omega
theorem bt_xor (p q : Pl) (i : Nat) : bt (p ^^^ q) i = (bt p i ^^ bt q i) := by unfold bt; rw [BitVec.getLsbD_xor]
theorem bt_sel (c : Bool) (p : Pl) (i : Nat) : bt (sel c p) i = (c && bt p i) := by cases c <;> simp [sel, bt]
theorem bt_ev (c : Nat → Bool) (i : Nat) (hi : i < 128) : ∀ n, n ≤ 128 → bt (ev c n) i = (decide (i < n) && c i) := by
 intro n
 induction n with
 | zero => intro _; simp [ev, sm, bt]
 | succ n ih =>
  intro hn
  show bt (ev c n ^^^ sel (c n) (gxn n e0)) i = _
  rw [bt_xor, ih (by omega), bt_sel, bt_one n (by omega) i hi]
  by_cases h : n = i
  ·subst h; simp
  ·rw [decide_eq_false h, Bool.and_false, Bool.xor_false]
   congr 1
   rw [Bool.eq_iff_iff]; simp; omega
theorem bt_ext {p q : Pl} (h : ∀ i, i < 128 → bt p i = bt q i) : p = q := by
 apply BitVec.eq_of_getLsbD_eq
 intro i hi
 have := h (127 - i) (by omega)
 unfold bt at this
 rwa [show 127 - (127 - i) = i by omega] at this
theorem ev_bt (p : Pl) : ev (bt p) 128 = p := bt_ext fun i hi => by rw [bt_ev _ i hi 128 (by omega)]; simp [hi]
def fbit (f : Bf) (i : Nat) : Bool := (f (i / 8)).getLsbD (7 - i % 8)
def pol (f : Bf) : Pl := ev (fbit f) 128
def byt (p : Pl) : Bf := fun k => p.extractLsb' (120 - 8 * k) 8
def gmF (f g : Bf) : Bf := byt (gm (pol f) (pol g))
theorem bt_pol (f : Bf) (i : Nat) (hi : i < 128) : bt (pol f) i = fbit f i := by
 unfold pol; rw [bt_ev _ i hi 128 (by omega)]; simp [hi]
def subF (f : Bf) : Bf := fun i => box (f i)
def xK (f : Bf) : Bf := fun i => f ((i / 4 + i % 4) % 4 * 4 + i % 4)
def mixF (f : Bf) : Bf := fun i =>
 (mul (f i) 2#8 ^^^ mul (f (4 * (i / 4) + (i % 4 + 1) % 4)) 3#8) ^^^ (f (4 * (i / 4) + (i % 4 + 2) % 4) ^^^ f (4 * (i / 4) + (i % 4 + 3) % 4))
def rndF (s k : Bf) (last : Bool) : Bf := xorF (if last then xK (subF s) else mixF (xK (subF s))) k
def rotF (f : Bf) : Bf := fun i => f ((i + 1) % 4)
def pwr : Nat → BitVec 8
 | 0 => 1#8
 | n + 1 => t2 (pwr n)
def newW (f : Bf) (i : Nat) : Bf := fun j =>
 f (4 * (i - 8) + j) ^^^ (if i % 8 = 0 then box (f (4 * (i - 1) + (j + 1) % 4)) ^^^ (if j = 0 then pwr (i / 8 - 1) else 0#8) else if i % 8 = 4 then box (f (4 * (i - 1) + j)) else f (4 * (i - 1) + j))
def axpT (k : Bf) : Nat → Bf
 | 0 => k
 | n + 1 => fun p => if p / 4 = n + 8 then newW (axpT k n) (n + 8) (p % 4) else axpT k n p
def axpF (k : Bf) : Bf := axpT k 52
theorem expT_stay (k : Bf) (n : Nat) : ∀ d p, p / 4 < n + 8 → axpT k (n + d) p = axpT k n p := by
 intro d
 induction d with
 | zero => intro p _; rfl
 | succ d ih =>
  intro p h
  show (if p / 4 = n + d + 8 then _ else axpT k (n + d) p) = _
  rw [if_neg (by omega), ih p h]
theorem exp_key (k : Bf) (p : Nat) (h : p < 32) : axpF k p = k p := expT_stay k 0 52 p (by omega)
theorem newW_same {f g : Bf} {i j : Nat} (hi : 8 ≤ i) (hj : j < 4) (h : ∀ p, p / 4 < i → f p = g p) : newW f i j = newW g i j := by
 unfold newW
 rw [h _ (by omega), h (4 * (i - 1) + (j + 1) % 4) (by omega), h (4 * (i - 1) + j) (by omega)]
theorem exp_rec (k : Bf) (i j : Nat) (h8 : 8 ≤ i) (h60 : i < 60) (hj : j < 4) : axpF k (4 * i + j) = newW (axpF k) i j := by
 obtain ⟨n, rfl⟩ : ∃ n, i = n + 8 := ⟨i - 8, by omega⟩
 have e1 : axpF k (4 * (n + 8) + j) = axpT k (n + 1) (4 * (n + 8) + j) := by
  have := expT_stay k (n + 1) (52 - (n + 1)) (4 * (n + 8) + j) (by omega)
  rw [show n + 1 + (52 - (n + 1)) = 52 by omega] at this
  exact this
 rw [e1]
 show (if (4 * (n + 8) + j) / 4 = n + 8 then newW (axpT k n) (n + 8) ((4 * (n + 8) + j) % 4) else _) = _
 rw [if_pos (by omega), show (4 * (n + 8) + j) % 4 = j by omega]
 refine newW_same (by omega) hj fun p hp => ?_
 have := expT_stay k n (52 - n) p (by omega)
 rw [show n + (52 - n) = 52 by omega] at this
 exact this.symm
def stF (k b : Bf) : Nat → Bf
 | 0 => xorF b (axpF k)
 | n + 1 => rndF (stF k b n) (offF (axpF k) ((n + 1) * 16)) (n == 13)
def aenF (k b : Bf) : Bf := stF k b 14
end Go.Proofs.YteffjpdcghlnlaaGreatDoor.Oct
