import Derived.Test.YteffjpdcghlnlaaGreatDoorZcKrAll
import Derived.Test.YteffjpdcghlnlaaGreatDoorZcShaT
import Derived.Test.YteffjpdcghlnlaaGreatDoorZcMm
import Derived.Test.YteffjpdcghlnlaaGreatDoorZcGcm
import Derived.Test.YteffjpdcghlnlaaGreatDoorZcPkAll
import Derived.Test.YteffjpdcghlnlaaGreatDoorZcWiAll
set_option linter.unusedVariables false
set_option linter.unusedSimpArgs false
set_option maxHeartbeats 2000000
namespace Go.Proofs.YteffjpdcghlnlaaGreatDoor.Oct
open Go.ChangeShapes Go.WideShapes Go.ChangeAt Go.RowKit
theorem yZ (B o : Nat) (w : World) : (Instr.sliceAt 66 (.pointer (some ⟨B, o, none⟩)) none none none).run Tryz.prog w = .ok (.slice (some ⟨B, o, none⟩) 32 32) w := by
 rw [run_sliceAt_array_all w 66 ⟨B, o, none⟩ (by kernel_rfl), sum_elem, u8_size, sum_len, Result.andThen_ok]
 rfl
theorem ones_1 (v : Value) (h : v.oneCell' = true) : Ones #[v] := by simp [Ones, h]
@[irreducible] def srcC (R : Array Value) (k v : Bf) (c : Int) : Array Value := flt [ba 32 k, ba 32 v, #[.int .i64 c], R]
section
variable (R : Array Value) (k v : Bf) (c : Int)
@[go_sem] theorem src_size : (srcC R k v c).size = 65 + R.size := by unfold srcC; rw [flt_size]; simp [szs, zG]; omega
theorem src_ones (hR : Ones R) : Ones (srcC R k v c) := by
 unfold srcC
 refine flt_ones _ fun x hx => ?_
 simp only [List.mem_cons, List.not_mem_nil, or_false] at hx
 rcases hx with rfl | rfl | rfl | rfl
 ·exact ones_ba _ _
 ·exact ones_ba _ _
 ·exact ones_1 _ rfl
 ·exact hR
@[go_sem] theorem src_lda (P : Program) (t : Nat) (w : World) (b : Nat) : ldR P t 65 w b 0 (some (srcC #[] k v c)) = .ok (.agg (srcC #[] k v c)) w := ldR_whole P t 65 w b _ (src_size #[] k v c).symm
@[go_sem] theorem src_stk (P : Program) (t : Nat) (w : World) (b : Nat) (g : Bf) : stR P t 32 w b 0 (.agg (ba 32 g)) (some (srcC R k v c)) = .ok () (w.setRow b (srcC R g v c)) := by
 unfold srcC; exact stR_flt P t 32 w b [] _ _ _ rfl (by rw [zG]) (by rw [zG, zG]) (ones_ba _ _)
@[go_sem] theorem src_stv (P : Program) (t : Nat) (w : World) (b : Nat) (g : Bf) : stR P t 32 w b 32 (.agg (ba 32 g)) (some (srcC R k v c)) = .ok () (w.setRow b (srcC R k g c)) := by
 unfold srcC; exact stR_flt P t 32 w b [ba 32 k] _ _ _ (by simp [szs, zG]) (by rw [zG]) (by rw [zG, zG]) (ones_ba _ _)
variable {R k v c}
variable {w : World} {B : Nat} (h : row w B = some (srcC R k v c))
include h
theorem src_cell : w.cell? ⟨B, 64, none⟩ = some (.int .i64 c) := by
 rw [zF h]; unfold srcC
 exact flt_get [ba 32 k, ba 32 v] [R] _ (o := 64) (j := 0) (by simp [szs, zG]) (by simp)
theorem src_cellk (i : Nat) (hi : i < 32) : w.cell? ⟨B, i, none⟩ = some (.int .u8 (I (k i))) := by
 rw [zF h]; unfold srcC
 have e := flt_get [] [ba 32 v, #[.int .i64 c], R] (ba 32 k) (o := 0) (j := i) rfl (by rw [zG]; exact hi)
 rw [Nat.zero_add] at e
 exact e.trans (zY 32 k i hi)
theorem src_cellv (i : Nat) (hi : i < 32) : w.cell? ⟨B, 32 + i, none⟩ = some (.int .u8 (I (v i))) := by
 rw [zF h]; unfold srcC
 exact (flt_get [ba 32 k] [#[.int .i64 c], R] (ba 32 v) (o := 32) (j := i) (by simp [szs, zG]) (by rw [zG]; exact hi)).trans (zY 32 v i hi)
theorem src_set (c' : Int) : w.setCell ⟨B, 64, none⟩ (.int .i64 c') = w.setRow B (srcC R k v c') := by
 rw [zP h]; unfold srcC
 exact congrArg (w.setRow B) (flt_set [ba 32 k, ba 32 v] [R] _ (o := 64) (j := 0) _ (by simp [szs, zG]) (by simp))
omit h in
theorem src_setv (i : Nat) (hi : i < 32) (x : BitVec 8) : (srcC R k v c).setIfInBounds (32 + i) (.int .u8 (I x)) = srcC R k (upd v i x) c := by
 unfold srcC
 rw [← ba_set]
 exact flt_set [ba 32 k] [#[.int .i64 c], R] (ba 32 v) (o := 32) (j := i) _ (by simp [szs, zG]) (by rw [zG]; exact hi)
theorem src_slk (D : Nat) (hD : B < D) : Sl w D (some ⟨B, 0, none⟩) 32 32 k := ⟨Nat.le_refl _, fun _ => ⟨B, 0, rfl, hD, fun i hi => by rw [Nat.zero_add]; exact src_cellk h i hi⟩⟩
theorem src_slv (D : Nat) (hD : B < D) : Sl w D (some ⟨B, 32, none⟩) 32 32 v := ⟨Nat.le_refl _, fun _ => ⟨B, 32, rfl, hD, fun i hi => src_cellv h i hi⟩⟩
end
theorem src_i : (Tryz.prog.info? 68).map (·.size) = some 65 := by kernel_rfl
@[go_sem ↓] theorem src_l (p : Value) : Instr.loadAt 68 p = ldA 68 p := rfl
@[go_sem ↓] theorem src_s (p v : Value) : Instr.storeAt 68 p v = stA 68 p v := rfl
theorem src_z : (Tryz.prog.info? 68).map (·.zero) = some (some (.agg (srcC #[] (fun _ => 0#8) (fun _ => 0#8) 0))) := by unfold srcC flt ba; kernel_rfl
@[go_sem ↓] theorem src_bd (yF : Array (Nat × Value)) : Instr.build 68 yF = bdA 68 yF := rfl
@[go_sem] theorem src_b0 (w : World) : (bdA 68 #[]).run Tryz.prog w = .ok (.agg (srcC #[] (fun _ => 0#8) (fun _ => 0#8) 0)) w :=
 run_lit _ _ _ _ [(0, 32), (32, 32), (64, 1)] src_z (by kernel_rfl) rfl w
@[irreducible] def rscC (t : Value) (k v : Bf) (c : Int) : Array Value := flt [tbA t iF, ba 32 k, ba 32 v, #[.int .i64 c]]
section
variable (t : Value) (k v : Bf) (c : Int)
@[go_sem] theorem rsc_ldt (P : Program) (u : Nat) (w : World) (b : Nat) : ldR P u 9 w b 0 (some (rscC t k v c)) = .ok (.agg (tbA t iF)) w := by
 unfold rscC; exact ldR_flt P u 9 w b [] _ _ rfl (by rw [yH])
@[go_sem] theorem rsc_stk (P : Program) (u : Nat) (w : World) (b : Nat) (g : Bf) : stR P u 32 w b 9 (.agg (ba 32 g)) (some (rscC t k v c)) = .ok () (w.setRow b (rscC t g v c)) := by
 unfold rscC; exact stR_flt P u 32 w b [tbA t iF] _ _ _ (by simp [szs, yH]) (by rw [zG]) (by rw [zG, zG]) (ones_ba _ _)
@[go_sem] theorem rsc_stv (P : Program) (u : Nat) (w : World) (b : Nat) (g : Bf) : stR P u 32 w b 41 (.agg (ba 32 g)) (some (rscC t k v c)) = .ok () (w.setRow b (rscC t k g c)) := by
 unfold rscC; exact stR_flt P u 32 w b [tbA t iF, ba 32 k] _ _ _ (by simp [szs, zG, yH]) (by rw [zG]) (by rw [zG, zG]) (ones_ba _ _)
variable {t k v c}
variable {w : World} {B : Nat} (h : row w B = some (rscC t k v c))
include h
theorem rsc_cell : w.cell? ⟨B, 73, none⟩ = some (.int .i64 c) := by
 rw [zF h]; unfold rscC
 exact flt_get [tbA t iF, ba 32 k, ba 32 v] [] _ (o := 73) (j := 0) (by simp [szs, zG, yH]) (by simp)
theorem rsc_cellk (i : Nat) (hi : i < 32) : w.cell? ⟨B, 9 + i, none⟩ = some (.int .u8 (I (k i))) := by
 rw [zF h]; unfold rscC
 exact (flt_get [tbA t iF] [ba 32 v, #[.int .i64 c]] (ba 32 k) (o := 9) (j := i) (by simp [szs, yH]) (by rw [zG]; exact hi)).trans (zY 32 k i hi)
theorem rsc_cellv (i : Nat) (hi : i < 32) : w.cell? ⟨B, 41 + i, none⟩ = some (.int .u8 (I (v i))) := by
 rw [zF h]; unfold rscC
 exact (flt_get [tbA t iF, ba 32 k] [#[.int .i64 c]] (ba 32 v) (o := 41) (j := i) (by simp [szs, zG, yH]) (by rw [zG]; exact hi)).trans (zY 32 v i hi)
theorem rsc_set (c' : Int) : w.setCell ⟨B, 73, none⟩ (.int .i64 c') = w.setRow B (rscC t k v c') := by
 rw [zP h]; unfold rscC
 exact congrArg (w.setRow B) (flt_set [tbA t iF, ba 32 k, ba 32 v] [] _ (o := 73) (j := 0) _ (by simp [szs, zG, yH]) (by simp))
omit h in
theorem rsc_setv (i : Nat) (hi : i < 32) (x : BitVec 8) : (rscC t k v c).setIfInBounds (41 + i) (.int .u8 (I x)) = rscC t k (upd v i x) c := by
 unfold rscC
 rw [← ba_set]
 exact flt_set [tbA t iF, ba 32 k] [#[.int .i64 c]] (ba 32 v) (o := 41) (j := i) _ (by simp [szs, zG, yH]) (by rw [zG]; exact hi)
theorem rsc_slk (D : Nat) (hD : B < D) : Sl w D (some ⟨B, 9, none⟩) 32 32 k := ⟨Nat.le_refl _, fun _ => ⟨B, 9, rfl, hD, fun i hi => rsc_cellk h i hi⟩⟩
theorem rsc_slv (D : Nat) (hD : B < D) : Sl w D (some ⟨B, 41, none⟩) 32 32 v := ⟨Nat.le_refl _, fun _ => ⟨B, 41, rfl, hD, fun i hi => rsc_cellv h i hi⟩⟩
end
@[go_sem ↓] theorem rsc_l (p : Value) : Instr.loadAt 141 p = ldA 141 p := rfl
@[go_sem ↓] theorem rsc_s (p v : Value) : Instr.storeAt 141 p v = stA 141 p v := rfl
theorem rsc_z : (Tryz.prog.info? 141).map (·.zero) = some (some (.agg (flt [tbA (.slice none 0 0) fun _ => 0#32, ba 32 fun _ => 0#8, ba 32 fun _ => 0#8, #[.int .i64 0]]))) := by unfold flt tbA wa ba; kernel_rfl
@[go_sem ↓] theorem rsc_bd (yF : Array (Nat × Value)) : Instr.build 141 yF = bdA 141 yF := rfl
@[go_sem] theorem rsc_b2 (t : Value) (w : World) : (bdA 141 #[(0, .agg (tbA t iF)), (3, .int .i64 1)]).run Tryz.prog w = .ok (.agg (rscC t (fun _ => 0#8) (fun _ => 0#8) 1)) w := by
 refine run_lit _ _ _ _ [(0, 9), (9, 32), (41, 32), (73, 1)] rsc_z (by kernel_rfl) ?_ w
 unfold rscC
 exact (fill_flt (pre := []) (o := 0) (m := 9) rfl rfl (by rw [yH]) (by rw [yH]; exact yH _ _)).trans
  (fill_flt (pre := [tbA t iF, ba 32 _, ba 32 _]) (o := 73) (m := 1) rfl (by simp [szs, zG, yH]) rfl rfl)
theorem keyBlock_any (k : Bf) (n c : Nat) (A : Option Addr) (w : World) (ht : Tab w) (hs : Sl w w.heap.size A n c k) (hn : n ≤ 140737488355328) :
  Calls Tryz.prog 270 #[.slice A n c] w fun e w' => e = .returned (.agg (ba 64 (keyF k n))) ∧ Below w.heap.size w w' := by
 have B0 := Lib.hid ((Below.refl w.heap.size w).alloc (by simp) (.cells (ba 64 fun _ => 0#8) 328))
 have q0 : row (w.alloc (.cells (ba 64 fun _ => 0#8) 328)) w.heap.size = some (ba 64 fun _ => 0#8) := by simp [go_sem]
 have HT := Lib.hid ht
 have HS := Lib.hid hs
 clear ht hs
 go_enter Tryz.func270, Tryz.ntmps270
 by_cases h64 : 64 < n
 ·have hd : decide ((64 : Int) < (n : Int)) = true := by simp; omega
  go_wp2_with fail
  refine (hash_any k n c A _ (HT.out.below B0.out HT.out.pos) ((HS.out.below B0.out).more (by simp)) hn).mono ?_
  rintro e w1 ⟨rfl, hb1⟩
  have hs1 : w.heap.size + 1 ≤ w1.heap.size := by simpa using hb1.size
  have B1 := Lib.hid ((onto B0.out (by simp) hb1).alloc (by omega) (.cells (ba 32 (shaF kF iF k n)) 66))
  have q1 := zI (zC hb1 q0) (.cells (ba 32 (shaF kF iF k n)) 66)
  have r1 : row (w1.alloc (.cells (ba 32 (shaF kF iF k n)) 66)) w1.heap.size = some (ba 32 (shaF kF iF k n)) := zA _ _ _ _ rfl
  have hz : (w1.alloc (.cells (ba 32 (shaF kF iF k n)) 66)).heap.size = w1.heap.size + 1 := by simp
  have a1 := sum_sl_all w1.heap.size
  clear hb1 q0 B0 HT HS
  have HS1 := Lib.hid ((Sl.of_row r1 _ (Nat.lt_succ_self _)).below ((Below.refl _ (w1.alloc (.cells (ba 32 (shaF kF iF k n)) 66))).alloc (by simp) (.cells (ba 64 fun _ => 0#8) 328)))
  have HE := Lib.hid (show ba 64 (putF (fun _ => 0#8) 0 32 (shaF kF iF k n)) = ba 64 (keyF k n) from yT fun i hi => by
   unfold putF keyF
   rw [if_pos h64]
   by_cases h : i < 32
   ·rw [if_pos h, if_pos (by omega), Nat.sub_zero]
   ·rw [if_neg h, if_neg (by omega)])
  have a2 := m64_sl_all (w1.heap.size + 1)
  have q2 := zI q1 (.cells (ba 64 (putF (fun _ => 0#8) 0 32 (shaF kF iF k n))) 328)
  go_wp2_with (refine wpl_copy rfl (.tmp 11) (.tmp 12) 22 22 5 rfl zZ u8_i (zA _ _ _ _ (by simp)) HS1.out (show 32 = min 32 64 by omega) rfl rfl ?_)
  refine bodyPost_ret (v := .agg (ba 64 (putF (fun _ => 0#8) 0 32 (shaF kF iF k n)))) (zS rfl _ _ w.heap.size _ _ _ rfl (zD q2 _) m64_u (by rw [zG]; exact m64_i)) rfl ⟨by rw [HE.out], ?_⟩
  exact zE (B1.out.alloc B1.out.size _) (by omega) _
 ·have hd : decide ((64 : Int) < (n : Int)) = false := by simp; omega
  have HS1 := Lib.hid ((HS.out.below B0.out).below ((Below.refl _ (w.alloc (.cells (ba 64 fun _ => 0#8) 328))).alloc (by simp) (.cells (ba 64 fun _ => 0#8) 328)))
  have HE := Lib.hid (show ba 64 (putF (fun _ => 0#8) 0 n k) = ba 64 (keyF k n) from yT fun i hi => by
   unfold putF keyF
   rw [if_neg h64]
   by_cases h : i < n
   ·rw [if_pos h, if_pos (by omega), Nat.sub_zero]
   ·rw [if_neg h, if_neg (by omega)])
  have a2 := m64_sl_all (w.heap.size + 1)
  have q2 := zI q0 (.cells (ba 64 (putF (fun _ => 0#8) 0 n k)) 328)
  clear q0
  go_wp2_with (refine wpl_copy rfl (.tmp 11) (.tmp 12) 22 22 5 rfl zZ u8_i (zA _ _ _ _ (by simp)) HS1.out (show n = min n 64 by omega) rfl rfl ?_)
  refine bodyPost_ret (v := .agg (ba 64 (putF (fun _ => 0#8) 0 n k))) (zS rfl _ _ w.heap.size _ _ _ rfl (zI (zA _ _ _ _ rfl) _) m64_u (by rw [zG]; exact m64_i)) rfl ⟨by rw [HE.out], ?_⟩
  exact ((Below.refl w.heap.size w).alloc (by simp) _).alloc (by simp) _
theorem masked_any (f : Bf) (v : BitVec 8) (w : World) :
  Calls Tryz.prog 272 #[.agg (ba 64 f), .int .u8 (I v)] w fun e w' => e = .returned (.agg (ba 64 (mskF f v))) ∧ Below w.heap.size w w' := by
 have B0 := Lib.hid (((Below.refl w.heap.size w).alloc (by simp) (.cells (ba 64 f) 328)).alloc (by simp) (.cells (ba 64 fun _ => 0#8) 328))
 go_enter Tryz.func272, Tryz.ntmps272
 go_wp2_with fail
 go_loopw [5, 6] (fun _ iv wr => ∃ k : Nat, k ≤ 64 ∧ iv = .int .i64 k ∧ wr = (w.alloc (.cells (ba 64 (upto k (mskF f v) f)) 328)).alloc (.cells (ba 64 fun _ => 0#8) 328)) (fun _ iv _ => 64 - (intOf iv).toNat)
 case atStart => exact ⟨0, by omega, rfl, by rw [yI]⟩
 case round =>
  obtain ⟨k, hk, rfl, rfl⟩ := hrel
  by_cases hlk : k < 64
  ·have hd : decide ((k : Int) < 64) = true := by simp; omega
   have HST := Lib.hid (show upd (upto k (mskF f v) f) k (f k ^^^ v) = upto (k + 1) (mskF f v) f by rw [← yK]; rfl)
   go_wp2_with fail
   go_roundw
   case rel => exact ⟨k + 1, by omega, by go_num, by rw [HST.out]⟩
   case measure => simp [intOf]; omega
  ·obtain rfl : k = 64 := by omega
   rw [yP]
   go_wp2_with fail
   refine bodyPost_ret (v := .agg (ba 64 (mskF f v))) (zS rfl _ _ (w.heap.size + 1) _ _ _ rfl (zA _ _ _ _ (by simp)) m64_u (by rw [zG]; exact m64_i)) rfl ⟨rfl, ?_⟩
   exact ((Below.refl w.heap.size w).alloc (by simp) _).alloc (by simp) _
theorem masked36 (f : Bf) (w : World) : Calls Tryz.prog 272 #[.agg (ba 64 f), .int .u8 54] w fun e w' => e = .returned (.agg (ba 64 (mskF f 54#8))) ∧ Below w.heap.size w w' := by
 have h := masked_any f 54#8 w
 rw [show I 54#8 = 54 by decide] at h
 exact h
theorem masked5c (f : Bf) (w : World) : Calls Tryz.prog 272 #[.agg (ba 64 f), .int .u8 92] w fun e w' => e = .returned (.agg (ba 64 (mskF f 92#8))) ∧ Below w.heap.size w w' := by
 have h := masked_any f 92#8 w
 rw [show I 92#8 = 92 by decide] at h
 exact h
theorem hashBehind_any (f b : Bf) (n c : Nat) (A : Option Addr) (w : World) (ht : Tab w) (hs : Sl w w.heap.size A n c b) (hn : n ≤ 140737488355000) :
  Calls Tryz.prog 271 #[.agg (ba 64 f), .slice A n c] w fun e w' => e = .returned (.agg (ba 32 (shaF kF iF (catF 64 f b) (64 + n)))) ∧ Below w.heap.size w w' := by
 have HT := Lib.hid ht
 have HS := Lib.hid hs
 have a1 := m64_sl_all w.heap.size
 clear ht hs
 go_enter Tryz.func271, Tryz.ntmps271
 go_wp2_with fail
 obtain ⟨w3, hw3⟩ : ∃ w3, w3 = ((w.alloc (.cells (ba 64 f) 328)).alloc (.cells (ba 32 fun _ => 0#8) 66)).alloc (.cells #[.slice (some ⟨w.heap.size, 0, none⟩) 64 64, .slice A n c] 22) := ⟨_, rfl⟩
 have B3 : Below w.heap.size w w3 := by rw [hw3]; exact (((Below.refl w.heap.size w).alloc (by simp) _).alloc (by simp) _).alloc (by simp; omega) _
 have rC : row w3 (w.heap.size + 1 + 1) = some #[.slice (some ⟨w.heap.size, 0, none⟩) 64 64, .slice A n c] := by rw [hw3]; exact zA _ _ _ _ (by simp)
 have r0 : row w3 (w.heap.size + 1) = some (ba 32 fun _ => 0#8) := by rw [hw3]; exact zI (zA _ _ _ _ (by simp)) _
 have rF : row w3 w.heap.size = some (ba 64 f) := by rw [hw3]; exact zI (zI (zA _ _ _ _ rfl) _) _
 have hz : w3.heap.size = w.heap.size + 1 + 1 + 1 := by rw [hw3]; simp
 rw [← hw3]
 clear hw3 a1
 refine (concat2_any _ _ w3 rC (Sl.of_row rF w3.heap.size (by omega)) ((HS.out.below B3).more (by omega)) (by omega)).mono ?_
 rintro e w4 ⟨v, rfl, ho, hb4⟩
 obtain ⟨A', c', hv, hsl, -, -⟩ := ho.sl
 subst hv
 have HSL := Lib.hid hsl
 have HT4 := Lib.hid ((HT.out.below B3 HT.out.pos).below hb4 (by omega))
 have B4 := Lib.hid (onto B3 (by omega) hb4)
 have r4 := zC hb4 r0
 have hs4 : w.heap.size + 3 ≤ w4.heap.size := by have := hb4.size; omega
 clear ho hsl hb4 r0 rC rF hz B3 HT HS
 go_wp2_with fail
 refine (hash_any (catF 64 f b) (64 + n) c' A' w4 HT4.out HSL.out (by omega)).mono ?_
 rintro e w5 ⟨rfl, hb5⟩
 have r5 := zC hb5 r4
 have B5 := Lib.hid (onto B4.out (by omega) hb5)
 clear hb5 r4
 go_wp2_with fail
 refine bodyPost_ret (v := .agg (ba 32 (shaF kF iF (catF 64 f b) (64 + n)))) (zS rfl _ _ (w.heap.size + 1) _ _ _ rfl (zD r5 _) sum_u (by rw [zG]; exact sum_i)) rfl ⟨rfl, ?_⟩
 exact zE B5.out (by omega) _
theorem msum_any (k b : Bf) (n m c c' : Nat) (A A' : Option Addr) (w : World) (ht : Tab w) (hs : Sl w w.heap.size A n c k) (hs' : Sl w w.heap.size A' m c' b) (hn : n ≤ 140737488355328) (hm : m ≤ 140737488355000) :
  Calls Tryz.prog 243 #[.slice A n c, .slice A' m c'] w fun e w' => e = .returned (.agg (ba 32 (macF k n b m))) ∧ Below w.heap.size w w' := by
 have B0 := Lib.hid ((Below.refl w.heap.size w).alloc (by simp) (.cells (ba 32 fun _ => 0#8) 66))
 have q0 : row (w.alloc (.cells (ba 32 fun _ => 0#8) 66)) w.heap.size = some (ba 32 fun _ => 0#8) := zA _ _ _ _ rfl
 have HT := Lib.hid ht
 have HS := Lib.hid hs
 have HS' := Lib.hid hs'
 have hz : (w.alloc (.cells (ba 32 fun _ => 0#8) 66)).heap.size = w.heap.size + 1 := by simp
 clear ht hs hs'
 go_enter Tryz.func243, Tryz.ntmps243
 go_wp2_with fail
 refine (keyBlock_any k n c A _ (HT.out.below B0.out HT.out.pos) ((HS.out.below B0.out).more (by omega)) hn).mono ?_
 rintro e w1 ⟨rfl, hb1⟩
 have hs1 : w.heap.size + 1 ≤ w1.heap.size := by have := hb1.size; omega
 obtain ⟨w2, hw2⟩ : ∃ w2, w2 = w1.alloc (.cells (ba 64 (keyF k n)) 328) := ⟨_, rfl⟩
 have B2 : Below w.heap.size w w2 := by rw [hw2]; exact (onto B0.out (by omega) hb1).alloc (by omega) _
 have rK : row w2 w1.heap.size = some (ba 64 (keyF k n)) := by rw [hw2]; exact zA _ _ _ _ rfl
 have r2 : row w2 w.heap.size = some (ba 32 fun _ => 0#8) := by rw [hw2]; exact zI (zC hb1 q0) _
 have hz2 : w2.heap.size = w1.heap.size + 1 := by rw [hw2]; simp
 clear B0 hb1 q0 hz
 go_wp2_with fail
 rw [← hw2]
 clear hw2
 refine (masked36 (keyF k n) w2).mono ?_
 rintro e w3 ⟨rfl, hb3⟩
 have B3 := Lib.hid (onto B2 (by omega) hb3)
 have K3 := Lib.hid (zC hb3 rK)
 have R3 := Lib.hid (zC hb3 r2)
 have hs3 : w1.heap.size + 1 ≤ w3.heap.size := by have := hb3.size; omega
 clear hb3 rK r2 B2 hz2
 go_wp2_with fail
 refine (hashBehind_any (mskF (keyF k n) 54#8) b m c' A' w3 (HT.out.below B3.out HT.out.pos) ((HS'.out.below B3.out).more (by omega)) hm).mono ?_
 rintro e w4 ⟨rfl, hb4⟩
 obtain ⟨S, hS⟩ : ∃ S, S = innF k n b m := ⟨_, rfl⟩
 rw [show shaF kF iF (catF 64 (mskF (keyF k n) 54#8) b) (64 + m) = S by rw [hS]; rfl]
 have hs4 : w3.heap.size ≤ w4.heap.size := hb4.size
 obtain ⟨w6, hw6⟩ : ∃ w6, w6 = w4.alloc (.cells (ba 32 S) 66) := ⟨_, rfl⟩
 have B6 := Lib.hid (show Below w.heap.size w w6 by rw [hw6]; exact (onto B3.out (by omega) hb4).alloc (by omega) _)
 have K6 := Lib.hid (show row w6 w1.heap.size = some (ba 64 (keyF k n)) by rw [hw6]; exact zI (zC hb4 K3.out) _)
 have R6 := Lib.hid (show row w6 w.heap.size = some (ba 32 fun _ => 0#8) by rw [hw6]; exact zI (zC hb4 R3.out) _)
 have rS : row w6 w4.heap.size = some (ba 32 S) := by rw [hw6]; exact zA _ _ _ _ rfl
 have hz6 : w6.heap.size = w4.heap.size + 1 := by rw [hw6]; simp
 have HI := Lib.hid (Sl.of_row rS w6.heap.size (by omega))
 have HT6 := Lib.hid (HT.out.below B6.out HT.out.pos)
 have HD := Lib.hid (show shaF kF iF (catF 64 (mskF (keyF k n) 92#8) S) (64 + 32) = macF k n b m by rw [hS]; rfl)
 have HM := Lib.hid (show ∀ x : After w6, Calls Tryz.prog 272 #[.agg (ba 64 (keyF k n)), .int .u8 92] x.val fun e w' => e = .returned (.agg (ba 64 (mskF (keyF k n) 92#8))) ∧ Below x.val.heap.size x.val w' from fun x => masked5c _ _)
 have HH := Lib.hid (show ∀ x : After w6, Calls Tryz.prog 271 #[.agg (ba 64 (mskF (keyF k n) 92#8)), .slice (some ⟨w4.heap.size, 0, none⟩) 32 32] x.val fun e w' => e = .returned (.agg (ba 32 (macF k n b m))) ∧ Below x.val.heap.size x.val w' from fun x => by
  rw [← HD.out]
  exact hashBehind_any _ S 32 32 _ x.val (HT6.out.after x) (After.sl HI.out x) (by omega))
 have Q := After.row K6.out
 have a1 := sum_sl_all w4.heap.size
 clear hb4 K3 R3 B3 rS hS HS HS' HT
 go_wp2_with fail
 rw [← hw6]
 clear hw6
 refine seen_tail 0 4 (by kernel_rfl) (by kernel_rfl) (fun _ _ _ _ _ h => h) ?_
 simp only [List.take_succ_cons, List.take_zero, List.drop_succ_cons, List.drop_zero]
 repeat (first | go_big_quiet_step ((go_at_call 272; refine After.call _ (HM.out _))) | go_big_quiet_step ((go_at_call 271; refine After.call _ (HH.out _))))
 refine wpQuiet_nil ?_
 rintro _ ⟨x, rfl⟩
 have r9 := After.row R6.out x
 have B9 := Lib.hid (onto B6.out (by omega) x.below)
 clear Q a1
 go_wp2_with fail
 refine bodyPost_ret (v := .agg (ba 32 (macF k n b m))) (zS rfl _ _ w.heap.size _ _ _ rfl (zD r9 _) sum_u (by rw [zG]; exact sum_i)) rfl ⟨rfl, ?_⟩
 exact zE B9.out (by omega) _
variable {R : Array Value}
theorem tab_put {B : Nat} {c : Array Value} {w w' : World} (ht : Tab w) (hB : 0 < B) (h : Put B c w w') : Tab w' := ht.below (h.low (D := 1) hB ht.pos) (by omega)
theorem dsum_any (k v f : Bf) (c : Int) (B L : Nat) (pv : Value) (w : World) (ht : Tab w) (hr : row w B = some (srcC R k v c))
  (hcat : ∀ x : World, Below w.heap.size w x → Calls Tryz.prog 218 #[pv] x fun e w' => ∃ u, e = .returned u ∧ Own w' x.heap.size 5 u L f ∧ Below x.heap.size x w') (hL : L ≤ 140737488355000) :
  Calls Tryz.prog 211 #[.pointer (some ⟨B, 0, none⟩), pv] w fun e w' => e = .returned (.agg (ba 32 (macF k 32 f L))) ∧ Below w.heap.size w w' := by
 have HT := Lib.hid ht
 have HR := Lib.hid hr
 have HC := Lib.hid hcat
 have a1 := yZ B 0
 have hz0 : (w.alloc (.cells (ba 32 fun _ => 0#8) 66)).heap.size = w.heap.size + 1 := by simp
 clear ht hr hcat
 go_enter Tryz.func211, Tryz.ntmps211
 go_wp2_with fail
 refine yL [([0, 1, 2, 3, 4], 5, false), ([], 6, false), ([], 7, true)] [] (by kernel_rfl) (by kernel_rfl) (fun _ _ _ _ _ h => h) fun X => ?_
 have hx : Below w.heap.size w X.val := ((Below.refl w.heap.size w).alloc (Nat.le_refl _) _).trans (X.below.mono (by rw [hz0]; omega))
 have hs1 : w.heap.size + 1 ≤ X.val.heap.size := by have := X.below.size; omega
 have r1 : row X.val w.heap.size = some (ba 32 fun _ => 0#8) := zC X.below (zA _ _ _ _ rfl)
 have B1 := Lib.hid hx
 have C1 := Lib.hid (HC.out X.val hx)
 clear hx HC
 obtain ⟨w1, hw1⟩ : ∃ w1, w1 = X.val := ⟨_, rfl⟩
 rw [← hw1] at hs1 r1 B1 C1 ⊢
 clear hw1 X hz0
 simp only [wpFs, pk, List.getElem?_cons_zero, List.getElem?_cons_succ]
 repeat (go_big_quiet_step (fail))
 refine wpQuiet_nil ?_
 clear a1
 go_wp2_with fail
 refine C1.out.mono ?_
 rintro e w2 ⟨u, rfl, ho, hb2⟩
 go_wp2_with fail
 refine ⟨.inr hb2, ?_⟩
 obtain ⟨A2, c2, hv, hsl, -, -⟩ := ho.sl
 subst hv
 have S2 := Lib.hid hsl
 have B2 := Lib.hid (onto B1.out (by omega) hb2)
 have r2 := zC hb2 r1
 have hs2 : w1.heap.size ≤ w2.heap.size := hb2.size
 clear ho hsl hb2 r1 C1 B1
 show wpQuiet _ _ _ _ _ _
 refine wpQuiet_nil ?_
 go_wp2_with fail
 refine (msum_any k f 32 L 32 c2 _ A2 w2 (HT.out.below B2.out HT.out.pos) (src_slk (zC B2.out HR.out) _ (by have := zK HR.out; omega)) S2.out (by omega) hL).mono ?_
 rintro e w3 ⟨rfl, hb3⟩
 go_wp2_with fail
 refine ⟨.inr hb3, ?_⟩
 have r3 := zC hb3 r2
 have B3 := Lib.hid (onto B2.out (by omega) hb3)
 clear hb3 r2 B2 S2
 show wpQuiet _ _ _ _ _ _
 refine wpQuiet_nil ?_
 go_wp2_with fail
 refine ⟨.inl trivial, ?_⟩
 show wpQuiet _ _ _ _ _ _
 refine wpQuiet_nil ?_
 go_wp2_with fail
 refine bodyPost_ret (v := .agg (ba 32 (macF k 32 f L))) (zS rfl _ _ w.heap.size _ _ _ rfl (zD r3 _) sum_u (by rw [zG]; exact sum_i)) rfl ⟨rfl, ?_⟩
 exact zE B3.out (Nat.le_refl _) _
theorem concat1_any (h cap : Nat) {A0 : Option Addr} {n0 c0 : Nat} {b0 : Bf} (w : World) (hr : row w h = some #[.slice A0 n0 c0]) (h0 : Sl w w.heap.size A0 n0 c0 b0) (hT : n0 ≤ 140737488355328) :
  Calls Tryz.prog 218 #[.slice (some ⟨h, 0, none⟩) 1 cap] w fun e w' => ∃ v, e = .returned v ∧ Own w' w.heap.size 5 v n0 b0 ∧ Below w.heap.size w w' := by
 refine (concat_any 1 h cap (fun i => A0) (fun i => n0) (fun i => c0) (fun i => b0) w (fun i hi => ?_) (zK hr) (fun i hi => h0) (by omega) (by simp [lenL]; omega)).mono ?_
 ·rw [zF hr]
  obtain rfl : i = 0 := by omega
  rfl
 ·rintro e w' ⟨v, rfl, ho, hb⟩
  refine ⟨v, rfl, ?_, hb⟩
  have e1 : lenL (fun i => n0) 1 = n0 := by simp [lenL]
  rw [e1] at ho
  refine ho.congr fun i hi => ?_
  simp [catsF, lenL, xF]
theorem dstep_any (s : St) (c : Int) (B : Nat) (w : World) (ht : Tab w) (hr : row w B = some (srcC R s.1 s.2 c)) (hB : 0 < B) :
  Calls Tryz.prog 212 #[.pointer (some ⟨B, 0, none⟩)] w fun e w' => e = .returned (.tuple #[]) ∧ Put B (srcC R s.1 (macF s.1 32 s.2 32) c) w w' := by
 have HT := Lib.hid ht
 have HR := Lib.hid hr
 have a1 := yZ B 32
 clear ht hr
 go_enter Tryz.func212, Tryz.ntmps212
 go_wp2_with fail
 obtain ⟨w1, hw1⟩ : ∃ w1, w1 = w.alloc (.cells #[.slice (some ⟨B, 32, none⟩) 32 32] 22) := ⟨_, rfl⟩
 have B1 : Below w.heap.size w w1 := by rw [hw1]; exact (Below.refl _ _).alloc (Nat.le_refl _) _
 have rC : row w1 w.heap.size = some #[.slice (some ⟨B, 32, none⟩) 32 32] := by rw [hw1]; exact zA _ _ _ _ rfl
 rw [← hw1]
 clear hw1 a1
 have hsz := B1.size
 have R1 := Lib.hid (zC B1 HR.out)
 have hBz := zK HR.out
 refine (dsum_any s.1 s.2 s.2 c B 32 _ w1 (HT.out.below B1 HT.out.pos) R1.out (fun x hx => concat1_any _ _ x (zC hx rC) (src_slv (zC hx R1.out) _ (zK (zC hx R1.out))) (by omega)) (by omega)).mono ?_
 rintro e w2 ⟨rfl, hb2⟩
 have r2 := zC hb2 R1.out
 have B2 := Lib.hid (onto B1 hsz hb2)
 clear hb2 rC B1 hsz
 go_wp2_with fail
 go_end0
 exact ⟨rfl, Put.of B2.out hBz _⟩
theorem dmix_any (s : St) (c : Int) (B : Nat) (r : BitVec 8) (b : Bf) (n cc : Nat) (A : Option Addr) (w : World) (ht : Tab w) (hr : row w B = some (srcC R s.1 s.2 c)) (hB : 0 < B) (hs : Sl w w.heap.size A n cc b) (hn : n ≤ 140737488354000) :
  Calls Tryz.prog 175 #[.pointer (some ⟨B, 0, none⟩), .int .u8 (I r), .slice A n cc] w fun e w' => e = .returned (.tuple #[]) ∧ Put B (srcC R (mixS s r b n).1 (mixS s r b n).2 c) w w' := by
 have HT := Lib.hid ht
 have HR := Lib.hid hr
 have HS := Lib.hid hs
 have a1 := yZ B 32
 clear ht hr hs
 go_enter Tryz.func175, Tryz.ntmps175
 go_wp2_with fail
 obtain ⟨w1, hw1⟩ : ∃ w1, w1 = (w.alloc (.cells #[.int .u8 (I r)] 5)).alloc (.cells #[.slice (some ⟨B, 32, none⟩) 32 32, .slice (some ⟨w.heap.size, 0, none⟩) 1 1, .slice A n cc] 22) := ⟨_, rfl⟩
 have B1 : Below w.heap.size w w1 := by rw [hw1]; exact ((Below.refl _ _).alloc (Nat.le_refl _) _).alloc (by simp) _
 have rC : row w1 (w.heap.size + 1) = some #[.slice (some ⟨B, 32, none⟩) 32 32, .slice (some ⟨w.heap.size, 0, none⟩) 1 1, .slice A n cc] := by rw [hw1]; exact zA _ _ _ _ (by simp)
 have s1 : Sl w1 w1.heap.size (some ⟨w.heap.size, 0, none⟩) 1 1 (fun _ => r) := by
  rw [hw1]
  exact ((Sl.one w 5 r (w.heap.size + 1) (by omega)).below ((Below.refl _ _).alloc (by simp) _)).more (by simp)
 rw [← hw1]
 clear hw1 a1
 have hsz := B1.size
 have R1 := Lib.hid (zC B1 HR.out)
 have hBz := zK HR.out
 have S1 := (HS.out.below B1).more hsz
 refine (dsum_any s.1 s.2 (mixT s r b) c B (32 + 1 + n) _ w1 (HT.out.below B1 HT.out.pos) R1.out (fun x hx => concat3_any _ _ x (zC hx rC) (src_slv (zC hx R1.out) _ (zK (zC hx R1.out))) ((s1.below hx).more hx.size) ((S1.below hx).more hx.size) (by omega)) (by omega)).mono ?_
 rintro e w2 ⟨rfl, hb2⟩
 have r2 := zC hb2 R1.out
 have B2 := Lib.hid (onto B1 hsz hb2)
 obtain ⟨K, hK⟩ : ∃ K, K = macF s.1 32 (mixT s r b) (32 + 1 + n) := ⟨_, rfl⟩
 rw [← hK]
 have HK := Lib.hid hK
 clear hb2 rC B1 hsz s1 S1 hK
 go_wp2_with fail
 obtain ⟨w3, hw3⟩ : ∃ w3, w3 = w2.setRow B (srcC R K s.2 c) := ⟨_, rfl⟩
 have P3 := Lib.hid (show Put B (srcC R K s.2 c) w w3 by rw [hw3]; exact Put.of B2.out hBz _)
 rw [← hw3]
 clear hw3 r2 B2
 refine (dstep_any (K, s.2) c B w3 (tab_put HT.out hB P3.out) (P3.out.row HR.out) hB).mono ?_
 rintro e w4 ⟨rfl, hp4⟩
 have P4 := Lib.hid (P3.out.then HR.out hp4)
 clear hp4
 go_wp2_with fail
 go_end0
 refine ⟨rfl, ?_⟩
 have e : mixS s r b n = (K, macF K 32 s.2 32) := by unfold mixS; rw [HK.out]
 rw [e]
 exact P4.out
theorem dupd_any (s : St) (c : Int) (B : Nat) (b : Bf) (n cc : Nat) (A : Option Addr) (w : World) (ht : Tab w) (hr : row w B = some (srcC R s.1 s.2 c)) (hB : 0 < B) (hs : Sl w w.heap.size A n cc b) (hn : n ≤ 140737488354000) (ho : Off B n A) :
  Calls Tryz.prog 130 #[.pointer (some ⟨B, 0, none⟩), .slice A n cc] w fun e w' => e = .returned (.tuple #[]) ∧ Put B (srcC R (updS s b n).1 (updS s b n).2 c) w w' := by
 have HT := Lib.hid ht
 have HR := Lib.hid hr
 have HS := Lib.hid hs
 have HO := Lib.hid ho
 clear ht hr hs ho
 have H0 := Lib.hid (dmix_any s c B 0#8 b n cc A w HT.out HR.out hB HS.out hn)
 go_enter Tryz.func130, Tryz.ntmps130
 go_wp2_with fail
 refine H0.out.mono ?_
 rintro e w1 ⟨rfl, hp1⟩
 have P1 := Lib.hid hp1
 clear H0 hp1
 by_cases h0 : n = 0
 ·subst h0
  have hd : decide ((0 : Int) < ((0 : Nat) : Int)) = false := by decide
  go_wp2_with fail
  go_end0
  refine ⟨rfl, ?_⟩
  unfold updS
  rw [if_pos rfl]
  exact P1.out
 ·have hd : decide ((0 : Int) < (n : Int)) = true := by simp; omega
  have H1 := Lib.hid (dmix_any (mixS s 0#8 b n) c B 1#8 b n cc A w1 (tab_put HT.out hB P1.out) (P1.out.row HR.out) hB ((P1.out.sl HS.out (Nat.le_refl _) HO.out).more P1.out.size) hn)
  go_wp2_with fail
  refine H1.out.mono ?_
  rintro e w2 ⟨rfl, hp2⟩
  have P2 := Lib.hid (P1.out.then HR.out hp2)
  clear hp2 H1
  go_wp2_with fail
  go_end0
  refine ⟨rfl, ?_⟩
  unfold updS
  rw [if_neg h0]
  exact P2.out
theorem dreseed_any (s : St) (c : Int) (B : Nat) (b : Bf) (n cc : Nat) (A : Option Addr) (w : World) (ht : Tab w) (hr : row w B = some (srcC R s.1 s.2 c)) (hB : 0 < B) (hs : Sl w w.heap.size A n cc b) (hn : n ≤ 140737488354000) (ho : Off B n A) :
  Calls Tryz.prog 72 #[.pointer (some ⟨B, 0, none⟩), .slice A n cc] w fun e w' => e = .returned (.tuple #[]) ∧ Put B (srcC R (updS s b n).1 (updS s b n).2 1) w w' := by
 have HR := Lib.hid hr
 have H0 := Lib.hid (dupd_any s c B b n cc A w ht hr hB hs hn ho)
 clear ht hr hs ho
 go_enter Tryz.func72, Tryz.ntmps72
 go_wp2_with fail
 refine H0.out.mono ?_
 rintro e w1 ⟨rfl, hp1⟩
 have P1 := Lib.hid hp1
 have r1 := hp1.row HR.out
 have hc := src_cell r1
 have hf := zW r1 64
 clear H0 hp1
 go_wp2_with fail
 go_end0
 refine ⟨rfl, ?_⟩
 rw [src_set r1]
 exact P1.out.then HR.out (Put.of (Below.refl _ _) (zK r1) _)
variable {R : Array Value}
structure BsInv (w : World) (B : Nat) (s : St) (c : Int) (n j : Nat) (wr : World) : Prop where
 p : Put B (srcC R s.1 (vsF s j) c) w wr
 r : row wr w.heap.size = some (ba n (upto (32 * j) (drF s) fun _ => 0#8))
theorem dbytes_any (s : St) (c : Int) (B n : Nat) (w : World) (ht : Tab w) (hr : row w B = some (srcC R s.1 s.2 c)) (hB : 0 < B) (hn : n ≤ 256) :
  Calls Tryz.prog 213 #[.pointer (some ⟨B, 0, none⟩), .int .i64 n] w fun e w' => e = .returned (.slice (some ⟨w.heap.size, 0, none⟩) n n) ∧ row w' w.heap.size = some (ba n (drF s)) ∧ Put B (srcC R s.1 (vsF s (nV n)) c) w w' := by
 have HT := Lib.hid ht
 have HR := Lib.hid hr
 have hBz := zK hr
 have hmk := mk_sl n (by omega)
 have a1 := yZ B 32
 clear ht hr
 go_enter Tryz.func213, Tryz.ntmps213
 have E0 := Lib.hid (show BsInv w B s c n 0 (w.alloc (.cells (ba n fun _ => 0#8) 5)) from ⟨(Put.nil HR.out).calm ((Below.refl _ _).alloc (Nat.le_refl _) _), by rw [Nat.mul_zero, yI]; exact zA _ _ _ _ rfl⟩)
 go_wp2_with fail
 clear hmk
 go_loopw [6] (fun iv wr => ∃ j : Nat, 32 * j < n + 32 ∧ iv = .int .i64 ((min (32 * j) n : Nat) : Int) ∧ BsInv w B s c n j wr) (fun iv _ => n - (intOf iv).toNat)
 case atStart => exact ⟨0, by omega, by rw [Nat.mul_zero, Nat.zero_min]; rfl, E0.out⟩
 case round =>
  clear E0
  obtain ⟨j, hj, rfl, hE⟩ := hrel
  obtain ⟨wo, rfl⟩ : ∃ wo : World, wo = wr := ⟨_, rfl⟩
  have HE := Lib.hid hE
  clear hE
  obtain ⟨F, hF⟩ : ∃ F, F = min (32 * j) n := ⟨_, rfl⟩
  rw [← hF]
  have hsz : w.heap.size < wo.heap.size := zK HE.out.r
  have HF := Lib.hid hF
  by_cases hlt : F < n
  ·have hd : decide ((F : Int) < (n : Int)) = true := by simp; omega
   have HFj := Lib.hid (show F = 32 * j by omega)
   clear hF
   have H1 := Lib.hid (dstep_any (s.1, vsF s j) c B wo (tab_put HT.out hB HE.out.p) (HE.out.p.row HR.out) hB)
   go_wp2_with fail
   refine H1.out.mono ?_
   rintro e w6 ⟨rfl, hp6⟩
   have P6 := Lib.hid (show Put B (srcC R s.1 (vsF s (j + 1)) c) w w6 from HE.out.p.then HR.out hp6)
   have r6 := hp6.other (by omega) HE.out.r
   have hz6 := hp6.size
   have hfr := run_from zZ u8_i (some (⟨w.heap.size, 0, none⟩ : Addr)) n n F (by omega)
   rw [show cutA (some (⟨w.heap.size, 0, none⟩ : Addr)) n F = some ⟨w.heap.size, F, none⟩ by unfold cutA; rw [if_neg (by omega)]; simp only [Option.map_some]; rw [yS, Nat.zero_add]] at hfr
   clear hp6 H1 HE
   go_wp2_with fail
   refine yB [([0, 1, 2, 3, 4, 5, 6, 7], 8, false)] [9, 10] (fun _ => True) (by kernel_rfl) (by kernel_rfl) (fun _ _ _ _ _ h => h) trivial ?_
   have b7 := zL (Below.refl w6.heap.size w6) 1
   have hz7 : (w6.drewN 1).heap.size = w6.heap.size := rfl
   obtain ⟨w7, hw7⟩ : ∃ w7, w7 = w6.drewN 1 := ⟨_, rfl⟩
   rw [← hw7] at b7 hz7 ⊢
   clear hw7
   have r7 := zC b7 r6
   have P7 := Lib.hid (P6.out.calm b7)
   have HI := Lib.hid (src_slv (P7.out.row HR.out) w7.heap.size (by omega))
   clear b7 r6 P6
   obtain ⟨C, hC⟩ : ∃ C, C = min 32 (n - F) := ⟨_, rfl⟩
   have HC := Lib.hid hC
   have hV : ba n (putF (upto (32 * j) (drF s) fun _ => 0#8) F C (vsF s (j + 1))) = ba n (upto (32 * (j + 1)) (drF s) fun _ => 0#8) := yT fun i hi => by
    have h1 := HFj.out
    unfold putF upto
    by_cases h2 : i < 32 * j
    ·rw [if_neg (by omega), if_pos h2, if_pos (by omega)]
    ·by_cases h3 : i < 32 * (j + 1)
     ·rw [if_pos (by omega), if_pos h3]
      unfold drF
      rw [show i / 32 = j by omega, show i % 32 = i - F by omega]
     ·rw [if_neg (by omega), if_neg h2, if_neg h3]
   have HV := Lib.hid hV
   have HF2 := Lib.hid (show ((F : Int) + (C : Int)) = ((min (32 * (j + 1)) n : Nat) : Int) by have := HFj.out; omega)
   have hw8 : IntKind.i64.wrap ((F : Int) + (C : Int)) = (F : Int) + (C : Int) := IntWalk.i64_in _ (by omega)
   simp only [wpFl, pk, List.getElem?_cons_zero, List.getElem?_cons_succ]
   clear hV hC
   repeat (go_big_quiet_step (fail))
   refine wpQuiet_nil ?_
   go_wp2_with (refine wpl_copyAt rfl (.tmp 17) (.tmp 21) 22 22 5 rfl zZ u8_i r7 (show F + (n - F) ≤ n by omega) HI.out HC.out rfl rfl ?_)
   rw [HV.out]
   have E8 := Lib.hid (show BsInv w B s c n (j + 1) (w7.setRow w.heap.size (ba n (upto (32 * (j + 1)) (drF s) fun _ => 0#8))) from ⟨zE P7.out (Nat.le_refl _) _, zD r7 _⟩)
   obtain ⟨w8, hw8'⟩ : ∃ w8, w8 = w7.setRow w.heap.size (ba n (upto (32 * (j + 1)) (drF s) fun _ => 0#8)) := ⟨_, rfl⟩
   rw [← hw8'] at E8 ⊢
   clear hw8' r7
   refine ⟨fun _ => True, trivial, ?_⟩
   show wpQuiet _ _ _ _ _ _
   repeat (go_big_quiet_step (fail))
   refine wpQuiet_nil ?_
   rw [HF2.out]
   go_wp2_with fail
   go_roundw
   case rel => exact ⟨j + 1, by have := HFj.out; omega, rfl, E8.out⟩
   case measure =>
    have := HFj.out
    simp only [intOf]
    omega
  ·have hd : decide ((F : Int) < (n : Int)) = false := by simp; omega
   have HX := Lib.hid (show ba n (upto (32 * j) (drF s) fun _ => 0#8) = ba n (drF s) from yT fun i hi => by unfold upto; rw [if_pos (by omega)])
   have HJ := Lib.hid (show j = nV n by unfold nV; omega)
   clear hF
   go_wp2_with fail
   go_ret
   refine ⟨rfl, ?_, ?_⟩
   ·rw [HE.out.r, HX.out]
   ·rw [← HJ.out]; exact HE.out.p
theorem ddraw_any (s : St) (B n m cc : Nat) (A : Option Addr) (b : Bf) (c : Int) (w : World) (ht : Tab w) (hr : row w B = some (srcC R s.1 s.2 c)) (hB : 0 < B) (hs : Sl w w.heap.size A m cc b) (hm : m ≤ 140737488354000) (ho : Off B m A) (hn : n ≤ 256) (hc : c ≤ 1048576) (hc0 : -9223372036854775808 ≤ c) :
  Calls Tryz.prog 178 #[.pointer (some ⟨B, 0, none⟩), .int .i64 n, .slice A m cc] w fun e w' => ∃ g, e = .returned (.tuple #[.slice (some ⟨g, 0, none⟩) n n, .int .i64 0]) ∧ w.heap.size ≤ g ∧ row w' g = some (ba n (drwF s b m)) ∧ Put B (srcC R (drwS s n b m).1 (drwS s n b m).2 (c + 1)) w w' := by
 have HT := Lib.hid ht
 have HR := Lib.hid hr
 have HS := Lib.hid hs
 have HO := Lib.hid ho
 have hcl := src_cell hr
 have hBz := zK hr
 have hd : decide ((n : Int) < 0) = false := by simp
 have hd2 : decide (256 < (n : Int)) = false := by simp; omega
 have hd3 : decide (1048576 < c) = false := by simp; omega
 clear hr ht hs ho
 obtain ⟨t, ht⟩ : ∃ t : St, t = if m = 0 then s else updS s b m := ⟨_, rfl⟩
 have HTT := Lib.hid ht
 clear ht
 go_enter Tryz.func178, Tryz.ntmps178
 by_cases h0 : m = 0
 case' pos =>
  have hd4 : decide ((0 : Int) < (m : Int)) = false := by simp; omega
  have P0 := Lib.hid (show Put B (srcC R t.1 t.2 c) w w by rw [HTT.out, if_pos h0]; exact Put.nil HR.out)
  have HD := Lib.hid h0
  go_wp2_with fail
  obtain ⟨w1, hw1⟩ : ∃ w1, w1 = w := ⟨_, rfl⟩
  have P1 := Lib.hid (show Put B (srcC R t.1 t.2 c) w w1 by rw [hw1]; exact P0.out)
  rw [← hw1]
  clear P0 hw1
 case' neg =>
  have hd4 : decide ((0 : Int) < (m : Int)) = true := by simp; omega
  have HD := Lib.hid h0
  have H0 := Lib.hid (dupd_any s c B b m cc A w HT.out HR.out hB HS.out hm HO.out)
  go_wp2_with fail
  refine H0.out.mono ?_
  rintro e w1 ⟨rfl, hp1⟩
  have P1 := Lib.hid (show Put B (srcC R t.1 t.2 c) w w1 by rw [HTT.out, if_neg h0]; exact hp1)
  clear H0 hp1
  go_wp2_with fail
 all_goals
  clear HD hd4 h0
  have r1 := P1.out.row HR.out
  have T1 := tab_put HT.out hB P1.out
  have hz1 := P1.out.size
  refine (dbytes_any t c B n w1 T1 r1 hB hn).mono ?_
  rintro e w2 ⟨rfl, hg2, hp2⟩
  have P2 := Lib.hid (P1.out.then HR.out hp2)
  have G2 := Lib.hid hg2
  have hz2 := hp2.size
  have hg2' := zK hg2
  clear r1 T1 hp2 hg2 P1 hd hd2 hd3 hcl
  have H3 := Lib.hid (dupd_any (t.1, vsF t (nV n)) c B b m cc A w2 (tab_put HT.out hB P2.out) (P2.out.row HR.out) hB ((P2.out.sl HS.out (Nat.le_refl _) HO.out).more P2.out.size) hm HO.out)
  go_wp2_with fail
  refine H3.out.mono ?_
  rintro e w3 ⟨rfl, hp3⟩
  have P3 := Lib.hid (P2.out.then HR.out hp3)
  have G3 := Lib.hid (hp3.other (by omega) G2.out)
  have hz3 := hp3.size
  have r3 := P3.out.row HR.out
  have hcl := src_cell r3
  have hfz := zW r3 64
  have hwr : IntKind.i64.wrap (c + 1) = c + 1 := IntWalk.i64_in _ (by omega)
  clear hp3 H3 P2 G2
  go_wp2_with fail
  rw [src_set r3]
  have P4 := Lib.hid (P3.out.then HR.out (Put.of (Below.refl _ _) (zK r3) (srcC R (updS (t.1, vsF t (nV n)) b m).1 (updS (t.1, vsF t (nV n)) b m).2 (c + 1))))
  have G4 := Lib.hid (show row (w3.setRow B (srcC R (updS (t.1, vsF t (nV n)) b m).1 (updS (t.1, vsF t (nV n)) b m).2 (c + 1))) w1.heap.size = some (ba n (drF t)) by rw [zB _ _ _ _ (by omega)]; exact G3.out)
  refine bodyPost_ret (v := .tuple #[.slice (some ⟨w1.heap.size, 0, none⟩) n n, .int .i64 0]) (by simp [results, Tryz.results178, go_sem]) rfl ⟨w1.heap.size, rfl, hz1, ?_, ?_⟩
  ·rw [G4.out]
   unfold drwF
   rw [← HTT.out]
  ·unfold drwS
   rw [← HTT.out]
   exact P4.out
variable {R : Array Value}
theorem dnew_any (b : Bf) (n cc : Nat) (A : Option Addr) (w : World) (ht : Tab w) (hs : Sl w w.heap.size A n cc b) (hn : n ≤ 140737488354000) :
  Calls Tryz.prog 28 #[.slice A n cc] w fun e w' => ∃ g, e = .returned (.pointer (some ⟨g, 0, none⟩)) ∧ w.heap.size ≤ g ∧ row w' g = some (srcC #[] (updS newS b n).1 (updS newS b n).2 1) ∧ Below w.heap.size w w' := by
 have HT := Lib.hid ht
 have HS := Lib.hid hs
 clear ht hs
 go_enter Tryz.func28, Tryz.ntmps28
 go_wp2_with fail
 go_loopw [4, 7] (fun _ iv wr => ∃ k : Nat, k ≤ 32 ∧ iv = .int .i64 k ∧ wr = w.alloc (.cells (srcC #[] (fun _ => 0#8) (upto k (fun _ => 1#8) fun _ => 0#8) 0) 68)) (fun _ iv _ => 32 - (intOf iv).toNat)
 case atStart => exact ⟨0, by omega, rfl, by rw [yI]⟩
 case round =>
  obtain ⟨k, hk, rfl, rfl⟩ := hrel
  have r0 : row (w.alloc (.cells (srcC #[] (fun _ => 0#8) (upto k (fun _ => 1#8) fun _ => 0#8) 0) 68)) w.heap.size = some _ := zA _ _ _ _ rfl
  by_cases hlk : k < 32
  ·have hd : decide ((k : Int) < 32) = true := by simp; omega
   have hc := src_cellv r0 k hlk
   have hf := zW r0 (32 + k)
   have hst := src_setv (R := #[]) (k := fun _ => 0#8) (v := upto k (fun _ => 1#8) fun _ => 0#8) (c := 0) k hlk 1#8
   rw [show upd (upto k (fun _ => 1#8) fun _ => 0#8) k 1#8 = upto (k + 1) (fun _ => 1#8) fun _ => 0#8 from yK k (fun _ => 1#8) fun _ => 0#8, show I 1#8 = 1 from rfl] at hst
   have HST := Lib.hid hst
   clear hst r0
   go_wp2_with fail
   go_roundw
   case rel => exact ⟨k + 1, by omega, by go_num, by rw [HST.out]⟩
   case measure => simp [intOf]; omega
  ·obtain rfl : k = 32 := by omega
   have HV := Lib.hid (show srcC #[] (fun _ => 0#8) (upto 32 (fun _ => 1#8) fun _ => 0#8) 0 = srcC #[] newS.1 newS.2 0 by unfold srcC newS; rw [yP])
   rw [HV.out] at r0 ⊢
   have B1 := Lib.hid ((Below.refl w.heap.size w).alloc (Nat.le_refl _) (.cells (srcC #[] newS.1 newS.2 0) 68))
   obtain ⟨w1, hw1⟩ : ∃ w1, w1 = w.alloc (.cells (srcC #[] newS.1 newS.2 0) 68) := ⟨_, rfl⟩
   rw [← hw1] at r0 B1 ⊢
   clear hw1
   have R0 := Lib.hid r0
   have hsz := zK r0
   have hpos := HT.out.pos
   have H1 := Lib.hid (dreseed_any newS 0 w.heap.size b n cc A w1 (HT.out.below B1.out HT.out.pos) r0 hpos ((HS.out.below B1.out).more (by omega)) hn (HS.out.off (Nat.le_refl _)))
   clear r0
   go_wp2_with fail
   refine H1.out.mono ?_
   rintro e w2 ⟨rfl, hp2⟩
   have R2 := Lib.hid (hp2.row R0.out)
   have B2 := Lib.hid (B1.out.trans (hp2.low (Nat.le_refl _) (by omega)))
   clear hp2 H1
   go_wp2_with fail
   go_ret
   exact ⟨_, rfl, Nat.le_refl _, R2.out, B2.out⟩
end Go.Proofs.YteffjpdcghlnlaaGreatDoor.Oct
