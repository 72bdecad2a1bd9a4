/- Contract of vault.Key. -/
import Derived.Test.YtkgefljjjheobaaGreatDoorVlA
import Derived.Test.YtkgefljjjheobaaGreatDoorMacAll
import Derived.Test.YtkgefljjjheobaaGreatDoorTyBs
import Derived.Test.YtkgefljjjheobaaGreatDoorLib
namespace Go.Proofs.YtkgefljjjheobaaGreatDoor.Oct
open Go.ChangeShapes Go.WideShapes Go.ChangeAt Go.RowKit
set_option linter.unusedVariables false

/-- the label -/
@[irreducible] def labF : Bf := fun i => (#[115#8, 116#8, 114#8, 111#8, 110#8, 103#8, 114#8, 111#8, 111#8, 109#8, 32#8] : Array (BitVec 8)).getD i 0#8
theorem lab_lit : (#[.int .u8 115, .int .u8 116, .int .u8 114, .int .u8 111, .int .u8 110, .int .u8 103, .int .u8 114, .int .u8 111, .int .u8 111, .int .u8 109, .int .u8 32] : Array Value) = ba 11 labF := by unfold ba labF; kernel_rfl
/-- a domain's key -/
@[irreducible] def vkF (m : Bf) (d : Nat) : Bf := expF m 32 (catF 11 labF fun _ => BitVec.ofNat 8 d) 12
def mayD (d : Int) : Bool := decide (0 ≤ d) && decide (d < 256)
def vkU (m : Bf) (d : Int) : Bf := if mayD d = true then vkF m d.toNat else fun _ => 0#8
def errD (d : Int) : Int := if mayD d = true then 0 else 1
theorem mayD_iff {d : Int} : mayD d = true ↔ 0 ≤ d ∧ d < 256 := by
  unfold mayD
  simp only [Bool.and_eq_true, decide_eq_true_eq]
theorem vkU_ok {m : Bf} {d : Nat} (h : mayD d = true) : vkU m d = vkF m d := by unfold vkU; rw [if_pos h]; rfl
theorem vkU_no {m : Bf} {d : Int} (h : mayD d = false) : vkU m d = fun _ => 0#8 := by unfold vkU; rw [if_neg (by rw [h]; decide)]
theorem errD_ok {d : Int} (h : mayD d = true) : errD d = 0 := by unfold errD; rw [if_pos h]
theorem errD_no {d : Int} (h : mayD d = false) : errD d = 1 := by unfold errD; rw [if_neg (by rw [h]; decide)]
theorem mayD_of {d t x : Int} (h : mayB d t x = true) : mayD d = true := mayD_iff.2 (mayB_iff.1 h).1

theorem key_len : Tryz.prog.arrayLen 23 = 32 := by kernel_rfl
theorem key_elem : Tryz.prog.elem 23 = 5 := by kernel_rfl
@[go_sem] theorem key_sl_all (B : Nat) (w : World) : (Instr.sliceAt 23 (.pointer (some ⟨B, 0, none⟩)) none none none).run Tryz.prog w = .ok (.slice (some ⟨B, 0, none⟩) 32 32) w := by
  rw [run_sliceAt_array_all w 23 ⟨B, 0, none⟩ (by kernel_rfl), key_elem, u8_size, key_len, Result.andThen_ok]
  rfl
theorem non_len : Tryz.prog.arrayLen 34 = 12 := by kernel_rfl
theorem non_elem : Tryz.prog.elem 34 = 5 := by kernel_rfl
@[go_sem] theorem non_sl_all (B : Nat) (w : World) : (Instr.sliceAt 34 (.pointer (some ⟨B, 0, none⟩)) none none none).run Tryz.prog w = .ok (.slice (some ⟨B, 0, none⟩) 12 12) w := by
  rw [run_sliceAt_array_all w 34 ⟨B, 0, none⟩ (by kernel_rfl), non_elem, u8_size, non_len, Result.andThen_ok]
  rfl

set_option maxRecDepth 20000 in
set_option maxHeartbeats 2000000 in
theorem vkey_any (m : Bf) (d : Int) (w : World) (ht : Tab w) :
    Calls Tryz.prog 20 #[.agg (ba 32 m), .int .i64 d] w fun e w' => e = .returned (.tuple #[.agg (ba 32 (vkU m d)), .int .i64 (errD d)]) ∧ Below w.heap.size w w' := by
  have HT := Lib.hid ht
  have hfin : ∀ (tm : Array Value) (f : Bf) (e : Int), tm.getD 4 undef = .pointer (some ⟨w.heap.size + 1, 0, none⟩) → tm.getD 5 undef = .int .i64 e → ∀ w2 : World, Below w.heap.size w w2 → row w2 (w.heap.size + 1) = some (ba 32 f) →
      bodyPost Tryz.prog Tryz.f20 (fun e' w' => e' = .returned (.tuple #[.agg (ba 32 f), .int .i64 e]) ∧ Below w.heap.size w w') .ret { tmps := tm, defers := [] } w2 := by
    intro tm f e e6 e7 w2 b2 q2
    refine bodyPost_ret (v := .tuple #[.agg (ba 32 f), .int .i64 e]) ?_ rfl ⟨rfl, b2⟩
    rw [← e7]
    exact res_ctV (p := 4) (u := 5) rfl _ _ (w.heap.size + 1) (ba 32 f) _ e6 q2 key_u rfl (by rw [ba_size]; exact key_i)
  have HFIN := Lib.hid hfin
  obtain ⟨w0, hw0⟩ : ∃ w0, w0 = ((w.alloc (.cells (ba 32 m) 23)).alloc (.cells (ba 32 fun _ => 0#8) 23)).alloc (.cells (ba 32 fun _ => 0#8) 23) := ⟨_, rfl⟩
  have HB0 := Lib.hid (show Below w.heap.size w w0 by rw [hw0]; exact (((Below.refl w.heap.size w).alloc (by simp) _).alloc (by simp) _).alloc (by simp; omega) _)
  have q0 : row w0 w.heap.size = some (ba 32 m) := by rw [hw0]; simp [go_sem]
  have q1 : row w0 (w.heap.size + 1) = some (ba 32 fun _ => 0#8) := by rw [hw0]; simp [go_sem]
  have q2 : row w0 (w.heap.size + 1 + 1) = some (ba 32 fun _ => 0#8) := by rw [hw0]; simp [go_sem]
  have hz0 : w0.heap.size = w.heap.size + 3 := by rw [hw0]; simp
  have HZ0 := Lib.hid hz0
  clear ht hfin hz0
  cases hok : mayD d
  · rw [vkU_no hok, errD_no hok]
    go_enter Tryz.func20, Tryz.ntmps20
    go_wp2_with fail
    rw [← hw0]
    clear hw0
    refine (below_any 256 d _).mono ?_
    rintro e w1 ⟨rfl, rfl⟩
    rw [show (decide (0 ≤ d) && decide (d < 256)) = false from hok]
    go_wp2_with fail
    exact HFIN.out _ _ _ rfl rfl _ (below_setRow HB0.out (by omega) _) (row_setRow q1 _)
  · obtain ⟨a1, a2⟩ := mayD_iff.1 hok
    obtain ⟨dn, rfl⟩ : ∃ n : Nat, d = n := ⟨d.toNat, by omega⟩
    rw [vkU_ok hok, errD_ok hok]
    have hby : (dn : Int) % 256 = I (BitVec.ofNat 8 dn) := by rw [← I_of8]
    have HOK := Lib.hid (show (decide (0 ≤ (dn : Int)) && decide ((dn : Int) < 256)) = true from hok)
    clear hok a1 a2
    go_enter Tryz.func20, Tryz.ntmps20
    go_wp2_with fail
    rw [← hw0]
    clear hw0
    refine (below_any 256 dn _).mono ?_
    rintro e w1 ⟨rfl, rfl⟩
    rw [HOK.out]
    obtain ⟨wA, hwA⟩ : ∃ wA, wA = w0.alloc (.cells #[.int .u8 115, .int .u8 116, .int .u8 114, .int .u8 111, .int .u8 110, .int .u8 103, .int .u8 114, .int .u8 111, .int .u8 111, .int .u8 109, .int .u8 32] 5 (11, 12)) := ⟨_, rfl⟩
    have sl1 : Sl (wA.alloc (.cells #[.int .u8 (I (BitVec.ofNat 8 dn))] 5)) (wA.heap.size + 1) (some ⟨w0.heap.size, 0, none⟩) 11 11 labF := by
      rw [hwA]; exact ((Sl.lit w0 lab_lit 5 (11, 12) (w0.heap.size + 1) (by omega)).below ((Below.refl _ _).alloc (by simp) _)).more (by simp)
    have sl2 : Sl (wA.alloc (.cells #[.int .u8 (I (BitVec.ofNat 8 dn))] 5)) (wA.heap.size + 1) (some ⟨w0.heap.size + 1, 0, none⟩) 1 1 (fun _ => BitVec.ofNat 8 dn) := by
      have := Sl.one wA 5 (BitVec.ofNat 8 dn) (wA.heap.size + 1) (by omega)
      rw [show wA.heap.size = w0.heap.size + 1 by rw [hwA]; simp] at this ⊢
      exact this
    have hbA : Below w0.heap.size w0 (wA.alloc (.cells #[.int .u8 (I (BitVec.ofNat 8 dn))] 5)) := by rw [hwA]; exact ((Below.refl _ _).alloc (by simp) _).alloc (by simp) _
    have hzA : (wA.alloc (.cells #[.int .u8 (I (BitVec.ofNat 8 dn))] 5)).heap.size = wA.heap.size + 1 := by simp
    subst hwA
    go_wp2_with (at_builtin; refine wpl_appF rfl (.tmp 15) (.tmp 18) rfl sli_u u8_info sl1 (by unfold maxLen; omega) (Nat.le_of_eq hzA.symm) (by simp) sl2 (by omega) rfl rfl ?_; intro A2 c2 w2 h2 hc2 hg)
    have b02 := onto hbA hbA.size (Below.of_grown hg)
    have r0 := carry b02 q0
    have r1 := carry b02 q1
    have r2 := carry b02 q2
    have HB2 := Lib.hid (onto HB0.out HB0.out.size b02)
    have h2' : Sl w2 w2.heap.size A2 12 c2 (catF 11 labF fun _ => BitVec.ofNat 8 dn) := h2
    clear b02 q0 q1 q2 HB0 sl1 sl2 hbA hzA hg hc2 h2 hby HOK
    go_wp2_with fail
    refine (mexp_any m (catF 11 labF fun _ => BitVec.ofNat 8 dn) 32 12 32 c2 (some ⟨w.heap.size, 0, none⟩) A2 32 w2 (HT.out.below HB2.out HT.out.pos) (Sl.of_row r0 w2.heap.size (row_lt r0)) h2' (by omega) (by omega) (by omega)).mono ?_
    rintro e w3 ⟨rfl, hr3, hb3⟩
    have t1 := carry hb3 r1
    have t2 := carry hb3 r2
    have HB3 := Lib.hid (onto HB2.out HB2.out.size hb3)
    have hsl := Sl.of_row hr3 w3.heap.size (row_lt hr3)
    have HV := Lib.hid (show ba 32 (putF (fun _ => 0#8) 0 32 (expF m 32 (catF 11 labF fun _ => BitVec.ofNat 8 dn) 12)) = ba 32 (vkF m dn) from ba_ext fun i hi => by
      unfold putF vkF
      rw [if_pos (by omega), Nat.sub_zero])
    clear r0 r1 r2 hb3 HB2 h2' hr3
    go_wp2_with (refine wpl_copyAt rfl (.tmp 26) (.tmp 27) 26 26 5 rfl sli_u u8_i t2 (show 0 + 32 ≤ 32 by omega) hsl (show 32 = min 32 32 by rfl) rfl rfl ?_; rw [HV.out]; have u2 := row_setRow t2 (ba 32 (vkF m dn)); have u1 : row (w3.setRow (w.heap.size + 1 + 1) (ba 32 (vkF m dn))) (w.heap.size + 1) = some (ba 32 fun _ => 0#8) := (by rw [row_setRow_other _ _ _ _ (by omega)]; exact t1); have HB4 := Lib.hid (below_setRow HB3.out (show w.heap.size ≤ w.heap.size + 1 + 1 by omega) (ba 32 (vkF m dn))); clear t1 t2 HB3 hsl HV; generalize w3.setRow (w.heap.size + 1 + 1) (ba 32 (vkF m dn)) = w4 at HB4 u1 u2 ⊢)
    exact HFIN.out _ _ _ rfl rfl _ (below_setRow HB4.out (by omega) _) (row_setRow u1 _)

/-- the worlds in which two rows read so -/
structure Rw2 (a : Nat) (c : Array Value) (b : Nat) (d : Array Value) where
  val : World
  r1 : row val a = some c
  r2 : row val b = some d
set_option maxRecDepth 20000 in
set_option maxHeartbeats 2000000 in
theorem vkn_any (m : Bf) (d t x : Int) (w : World) (ht : Tab w) :
    Calls Tryz.prog 11 #[.agg (ba 32 m), .int .i64 d, .int .i64 t, .int .i64 x] w fun e w' => (e = .returned (.tuple #[.agg (ba 32 (if mayB d t x = true then vkF m d.toNat else fun _ => 0#8)), .agg (ba 12 (nonU d t x)), .int .i64 (errU d t x)])) ∧ Below w.heap.size w w' := by
  have HT := Lib.hid ht
  have hfin : ∀ (tm : Array Value) (f g : Bf) (e : Int), tm.getD 8 undef = .pointer (some ⟨w.heap.size + 1, 0, none⟩) → tm.getD 9 undef = .pointer (some ⟨w.heap.size + 1 + 1, 0, none⟩) → tm.getD 10 undef = .int .i64 e → ∀ w2 : World, Below w.heap.size w w2 → row w2 (w.heap.size + 1) = some (ba 32 f) → row w2 (w.heap.size + 1 + 1) = some (ba 12 g) →
      bodyPost Tryz.prog Tryz.f11 (fun e' w' => e' = .returned (.tuple #[.agg (ba 32 f), .agg (ba 12 g), .int .i64 e]) ∧ Below w.heap.size w w') .ret { tmps := tm, defers := [] } w2 := by
    intro tm f g e e8 e9 e10 w2 b2 q2 q3
    refine bodyPost_ret (v := .tuple #[.agg (ba 32 f), .agg (ba 12 g), .int .i64 e]) ?_ rfl ⟨rfl, b2⟩
    rw [← e10]
    exact res_cctV (p := 8) (q := 9) (u := 10) rfl _ _ (w.heap.size + 1) (w.heap.size + 1 + 1) (ba 32 f) (ba 12 g) _ _ e8 q2 key_u rfl (by rw [ba_size]; exact key_i) e9 q3 non_u rfl (by rw [ba_size]; exact non_i)
  have HFIN := Lib.hid hfin
  obtain ⟨w0, hw0⟩ : ∃ w0, w0 = ((w.alloc (.cells (ba 32 m) 23)).alloc (.cells (ba 32 fun _ => 0#8) 23)).alloc (.cells (ba 12 fun _ => 0#8) 34) := ⟨_, rfl⟩
  have HB0 := Lib.hid (show Below w.heap.size w w0 by rw [hw0]; exact (((Below.refl w.heap.size w).alloc (by simp) _).alloc (by simp) _).alloc (by simp; omega) _)
  have q0 : row w0 w.heap.size = some (ba 32 m) := by rw [hw0]; simp [go_sem]
  have q1 : row w0 (w.heap.size + 1) = some (ba 32 fun _ => 0#8) := by rw [hw0]; simp [go_sem]
  have q2 : row w0 (w.heap.size + 1 + 1) = some (ba 12 fun _ => 0#8) := by rw [hw0]; simp [go_sem]
  clear ht hfin
  cases hok : mayB d t x
  · rw [if_neg (by decide), nonU_no hok, errU_no hok]
    go_enter Tryz.func11, Tryz.ntmps11
    go_wp2_with fail
    rw [← hw0]
    clear hw0
    refine (vnon_any d t x _).mono ?_
    rintro e w1 ⟨rfl, hb1⟩
    rw [nonU_no hok, errU_no hok]
    have r1 := carry hb1 q1
    have r2 := carry hb1 q2
    have HB1 := Lib.hid (onto HB0.out HB0.out.size hb1)
    have hlt := row_lt r2
    have f1 : row (w1.alloc (.cells (ba 12 fun _ => 0#8) 34)) (w.heap.size + 1) = some (ba 32 fun _ => 0#8) := row_alloc r1 _
    have f2 : row ((w1.alloc (.cells (ba 12 fun _ => 0#8) 34)).setRow (w.heap.size + 1) (ba 32 fun _ => 0#8)) (w.heap.size + 1 + 1) = some (ba 12 fun _ => 0#8) := by rw [row_setRow_other _ _ _ _ (by omega)]; exact row_alloc r2 _
    have HB2 := Lib.hid (below_setRow (below_setRow (HB1.out.alloc HB1.out.size (.cells (ba 12 fun _ => 0#8) 34)) (show w.heap.size ≤ w.heap.size + 1 by omega) (ba 32 fun _ => 0#8)) (show w.heap.size ≤ w.heap.size + 1 + 1 by omega) (ba 12 fun _ => 0#8))
    clear q0 q1 q2 HB0 hb1 r1 r2 HB1 hlt
    go_wp2_with fail
    refine HFIN.out _ _ _ _ rfl rfl rfl _ HB2.out ?_ (row_setRow f2 _)
    rw [row_setRow_other _ _ _ _ (by omega)]
    exact row_setRow f1 _
  · have hokD := mayD_of hok
    rw [if_pos rfl, errU_ok hok]
    go_enter Tryz.func11, Tryz.ntmps11
    go_wp2_with fail
    rw [← hw0]
    clear hw0
    refine (vnon_any d t x _).mono ?_
    rintro e w1 ⟨rfl, hb1⟩
    rw [errU_ok hok]
    obtain ⟨G, hG⟩ : ∃ G, G = nonU d t x := ⟨_, rfl⟩
    rw [← hG]
    have hz1 := HB0.out.size
    have b2 := hb1.alloc hb1.size (.cells (ba 12 G) 34)
    have r0 := carry b2 q0
    have r1 := carry b2 q1
    have r2 := carry b2 q2
    have r3 : row (w1.alloc (.cells (ba 12 G) 34)) w1.heap.size = some (ba 12 G) := row_alloc_at _ _ _ _ rfl
    have HB2 := Lib.hid (onto HB0.out HB0.out.size b2)
    have HGG := Lib.hid hG
    have hz2 : w.heap.size + 1 + 1 < w1.heap.size := by have := row_lt q2; have := hb1.size; omega
    clear q0 q1 q2 HB0 hb1 b2 hG hz1
    go_wp2_with fail
    obtain ⟨S1, hS1⟩ : ∃ S1, S1 = w1.heap.size := ⟨_, rfl⟩
    rw [← hS1] at r3 hz2 ⊢
    clear hS1
    generalize w1.alloc (.cells (ba 12 G) 34) = w2 at r0 r1 r2 r3 HB2 ⊢
    refine (vkey_any m d w2 (HT.out.below HB2.out HT.out.pos)).mono ?_
    rintro e w3 ⟨rfl, hb3⟩
    rw [show vkU m d = vkF m d.toNat by unfold vkU; rw [if_pos hokD], errD_ok hokD]
    obtain ⟨K, hK⟩ : ∃ K, K = vkF m d.toNat := ⟨_, rfl⟩
    rw [← hK]
    have HKK := Lib.hid hK
    have b4 := hb3.alloc hb3.size (.cells (ba 32 K) 23)
    have t1 := carry b4 r1
    have t2 := carry b4 r2
    have t3 := carry b4 r3
    have t4 : row (w3.alloc (.cells (ba 32 K) 23)) w3.heap.size = some (ba 32 K) := row_alloc_at _ _ _ _ rfl
    have HB4 := Lib.hid (onto HB2.out HB2.out.size b4)
    have hz3 := row_lt r3
    have hz4 := hb3.size
    clear r0 r1 r2 r3 HB2 hb3 b4 hK
    go_wp2_with fail
    obtain ⟨S3, hS3⟩ : ∃ S3, S3 = w3.heap.size := ⟨_, rfl⟩
    have hz5 : w.heap.size + 1 + 1 < S3 ∧ S1 < S3 := by omega
    rw [← hS3] at t4 ⊢
    clear hz3 hz4 hS3
    generalize w3.alloc (.cells (ba 32 K) 23) = w4 at t1 t2 t3 t4 HB4 ⊢
    refine flow_region [([0, 1, 2], 3, false), ([], 4, false)] [5] (fun w' => ∃ x : Rw2 S1 (ba 12 G) S3 (ba 32 K), w' = x.val) (by kernel_rfl) (by kernel_rfl) (fun _ _ _ _ _ h => h) ⟨⟨w4.drewN 1, by rw [row_drewN]; exact t3, by rw [row_drewN]; exact t4⟩, rfl⟩ ?_
    have u1 : row (w4.drewN 1) (w.heap.size + 1) = some (ba 32 fun _ => 0#8) := by rw [row_drewN]; exact t1
    have u2 : row (w4.drewN 1) (w.heap.size + 1 + 1) = some (ba 12 fun _ => 0#8) := by rw [row_drewN]; exact t2
    have u3 : row (w4.drewN 1) S1 = some (ba 12 G) := by rw [row_drewN]; exact t3
    have u4 : row (w4.drewN 1) S3 = some (ba 32 K) := by rw [row_drewN]; exact t4
    have HB5 := Lib.hid (below_drewN HB4.out 1)
    clear t1 t2 t3 t4 HB4
    generalize w4.drewN 1 = w5 at u1 u2 u3 u4 HB5 ⊢
    have k3 : ∀ x : Rw2 S1 (ba 12 G) S3 (ba 32 K), row x.val S1 = some (ba 12 G) := fun x => x.r1
    have k4 : ∀ x : Rw2 S1 (ba 12 G) S3 (ba 32 K), row x.val S3 = some (ba 32 K) := fun x => x.r2
    have hne : Nonempty (Rw2 S1 (ba 12 G) S3 (ba 32 K)) := ⟨⟨w5, u3, u4⟩⟩
    simp only [wpFl, pk, List.getElem?_cons_zero, List.getElem?_cons_succ]
    repeat (go_big_quiet_step (fail))
    refine wpQuiet_nil ?_
    clear k3 k4 hne
    go_wp2_with fail
    have v1 := row_setRow u1 (ba 32 K)
    have v2 : row (w5.setRow (w.heap.size + 1) (ba 32 K)) (w.heap.size + 1 + 1) = some (ba 12 fun _ => 0#8) := by rw [row_setRow_other _ _ _ _ (by omega)]; exact u2
    have v3 : row (w5.setRow (w.heap.size + 1) (ba 32 K)) S1 = some (ba 12 G) := by rw [row_setRow_other _ _ _ _ (by omega)]; exact u3
    have v4 : row (w5.setRow (w.heap.size + 1) (ba 32 K)) S3 = some (ba 32 K) := by rw [row_setRow_other _ _ _ _ (by omega)]; exact u4
    have HB6 := Lib.hid (below_setRow HB5.out (show w.heap.size ≤ w.heap.size + 1 by omega) (ba 32 K))
    clear u1 u2 u3 u4 HB5
    generalize w5.setRow (w.heap.size + 1) (ba 32 K) = w6 at v1 v2 v3 v4 HB6 ⊢
    refine ⟨_, ⟨⟨w6, v3, v4⟩, rfl⟩, .inr ⟨⟨⟨w6, v3, v4⟩, rfl⟩, fun _ h => h⟩, ?_⟩
    show wpQuiet _ _ _ _ _ _
    refine wpQuiet_nil ?_
    go_wp2_with fail
    have z3 : row (w6.setRow (w.heap.size + 1 + 1) (ba 12 G)) S1 = some (ba 12 G) := by rw [row_setRow_other _ _ _ _ (by omega)]; exact v3
    have z4 : row (w6.setRow (w.heap.size + 1 + 1) (ba 12 G)) S3 = some (ba 32 K) := by rw [row_setRow_other _ _ _ _ (by omega)]; exact v4
    refine ⟨_, ⟨⟨_, z3, z4⟩, rfl⟩, .inr ⟨⟨⟨_, z3, z4⟩, rfl⟩, fun _ h => h⟩, ?_⟩
    clear z3 z4
    show wpQuiet _ _ _ _ _ _
    repeat (go_big_quiet_step (fail))
    refine wpQuiet_nil ?_
    go_wp2_with fail
    rw [← HKK.out, ← HGG.out]
    refine HFIN.out _ _ _ _ rfl rfl rfl _ (below_setRow HB6.out (by omega) _) ?_ (row_setRow v2 _)
    rw [row_setRow_other _ _ _ _ (by omega)]
    exact v1
end Go.Proofs.YtkgefljjjheobaaGreatDoor.Oct
