/- Contracts of sha.schedule, addStates, startState, writeNumber, sumOf. -/
import Derived.Test.YtjebkokkgkkogaaDoorShaA
import Derived.StillTailTactics
namespace Go.Proofs.YtjebkokkgkkogaaDoor.Oct
open Go.ChangeShapes Go.WideShapes Go.ChangeAt Go.RowKit
set_option linter.unusedVariables false

/-- r bytes of word j are in -/
def prt (m : Bf) (j : Nat) : Nat → BitVec 32
  | 0 => 0#32
  | r + 1 => prt m j r <<< 8 ||| (m (4 * j + r)).setWidth 32
/-- k bytes are in -/
def w1F (m : Bf) (k : Nat) : Wf := fun j => prt m j (min 4 (k - 4 * j))
theorem prt_4 (m : Bf) (j : Nat) : prt m j 4 = wrd m j := by
  simp only [prt, wrd, BitVec.zero_shiftLeft, BitVec.zero_or, Nat.add_zero, BitVec.shiftLeft_or_distrib, ← BitVec.shiftLeft_add]
theorem w1F_zero (m : Bf) : w1F m 0 = fun _ => 0#32 := by funext j; simp [w1F, prt]
theorem w1F_step (m : Bf) (k : Nat) : updA (w1F m k) (k / 4) (w1F m k (k / 4) <<< 8 ||| (m k).setWidth 32) = w1F m (k + 1) := by
  funext j
  unfold updA w1F
  by_cases hj : j = k / 4
  · subst hj
    rw [if_pos rfl, show min 4 (k + 1 - 4 * (k / 4)) = min 4 (k - 4 * (k / 4)) + 1 by omega]
    simp only [prt]
    rw [show 4 * (k / 4) + min 4 (k - 4 * (k / 4)) = k by omega]
  · rw [if_neg hj]
    congr 1
    omega
theorem w1F_all (m : Bf) : wa 64 (w1F m 64) = wa 64 (sch m 16) := wa_ext fun j hj => by
  rw [sch_low m 16 (by omega)]
  unfold w1F
  by_cases h : j < 16
  · simp only [h, if_true]; rw [show min 4 (64 - 4 * j) = 4 by omega, prt_4]
  · simp only [h, if_false]; rw [show min 4 (64 - 4 * j) = 0 by omega]; rfl
theorem sch_step (m : Bf) (t : Nat) (h : 16 ≤ t) : updA (sch m t) t (sm1 (sch m t (t - 2)) + sch m t (t - 7) + sm0 (sch m t (t - 15)) + sch m t (t - 16)) = sch m (t + 1) := by
  simp only [sch]
  rw [if_neg (by omega)]
  rfl

set_option maxRecDepth 20000 in
set_option maxHeartbeats 2000000 in
theorem sched_any (m : Bf) (w : World) :
    Calls Tryd.prog 18 #[.agg (ba 64 m)] w fun e w' => e = .returned (.agg (wa 64 (sch m 64))) ∧ Below w.heap.size w w' := by
  go_enter Tryd.func18, Tryd.ntmps18
  go_wp2
  go_loopw [4, 5, 8] (fun _ _ i wr => ∃ k : Nat, k ≤ 64 ∧ i = .int .i64 k ∧ wr = ((w.alloc (.cells (ba 64 m) 30)).alloc (.cells (wa 64 fun _ => 0#32) 41)).alloc (.cells (wa 64 (w1F m k)) 41)) (fun _ _ i _ => 64 - (intOf i).toNat)
  case atStart => exact ⟨0, by omega, rfl, by rw [w1F_zero]⟩
  case round =>
    obtain ⟨k, hk, rfl, rfl⟩ := hrel
    by_cases hlt : k < 64
    · have hd : decide ((k : Int) < 64) = true := by simp; omega
      have H := Lib.hid (w1F_step m k)
      have b1 : k / 4 < 64 := by omega
      obtain ⟨v0, v1⟩ := I_bd (m k)
      go_wp2
      go_roundw
      case rel => exact ⟨k + 1, by omega, by go_num, by rw [H.out]⟩
      case measure => simp [intOf]; omega
    · obtain rfl : k = 64 := by omega
      rw [w1F_all]
      go_wp2
      go_loopw [6] (fun i wr => ∃ t n : Nat, 16 ≤ t ∧ t ≤ 64 ∧ i = .int .i64 t ∧ wr = (((w.alloc (.cells (ba 64 m) 30)).alloc (.cells (wa 64 fun _ => 0#32) 41)).alloc (.cells (wa 64 (sch m t)) 41)).drewN n) (fun i _ => 64 - (intOf i).toNat)
      case atStart => exact ⟨16, 0, by omega, by omega, rfl, rfl⟩
      case round =>
        obtain ⟨t, n, ht, hk, rfl, rfl⟩ := hrel
        by_cases hlt : t < 64
        · have hd : decide ((t : Int) < 64) = true := by simp; omega
          have H := Lib.hid (sch_step m t ht)
          have c2 : ((t : Int) - 2).toNat = t - 2 := by omega
          have c7 : ((t : Int) - 7).toNat = t - 7 := by omega
          have c15 : ((t : Int) - 15).toNat = t - 15 := by omega
          have c16 : ((t : Int) - 16).toNat = t - 16 := by omega
          have f2 : t - 2 < 64 := by omega
          have f7 : t - 7 < 64 := by omega
          have f15 : t - 15 < 64 := by omega
          have f16 : t - 16 < 64 := by omega
          have d2 : (0 : Int) ≤ (t : Int) - 2 ∧ (t : Int) - 2 < 64 := by omega
          have d7 : (0 : Int) ≤ (t : Int) - 7 ∧ (t : Int) - 7 < 64 := by omega
          have d15 : (0 : Int) ≤ (t : Int) - 15 ∧ (t : Int) - 15 < 64 := by omega
          have d16 : (0 : Int) ≤ (t : Int) - 16 ∧ (t : Int) - 16 < 64 := by omega
          go_wp2
          refine quiet_tail 23 (by kernel_rfl) (by kernel_rfl) (fun _ _ _ _ _ h => h) ?_
          simp only [List.take_succ_cons, List.take_zero, List.drop_succ_cons, List.drop_zero]
          repeat (go_big_quiet_step ((first | (go_at_call 29; (refine (sm1_any _ _).mono ?_); rintro e w' ⟨rfl, rfl⟩; exact ⟨rfl, _, rfl⟩) | (go_at_call 30; (refine (sm0_any _ _).mono ?_); rintro e w' ⟨rfl, rfl⟩; exact ⟨rfl, _, rfl⟩))))
          refine wpQuiet_nil ?_
          rintro _ ⟨m, rfl⟩
          go_wp2
          go_roundw
          case rel => exact ⟨t + 1, _, by omega, by omega, by go_num, by rw [H.out]⟩
          case measure => simp [intOf]; omega
        · obtain rfl : t = 64 := by omega
          go_wp2
          refine bodyPost_ret (v := .agg (wa 64 (sch m 64))) (res_row rfl _ _ (w.heap.size + 1) _ _ _ rfl (by simp [go_sem]) s64_u (by rw [wa_size]; exact s64_i)) rfl ⟨rfl, ?_⟩
          exact below_drewN ((((Below.refl _ _).alloc (by simp) _).alloc (by simp) _).alloc (by simp; omega) _) _

set_option maxRecDepth 20000 in
set_option maxHeartbeats 2000000 in
theorem adds_any (f g : Wf) (w : World) :
    Calls Tryd.prog 23 #[.agg (wa 8 f), .agg (wa 8 g)] w fun e w' => e = .returned (.agg (wa 8 fun i => f i + g i)) ∧ Below w.heap.size w w' := by
  go_enter Tryd.func23, Tryd.ntmps23
  go_wp2
  go_loopw [5, 6] (fun _ i wr => ∃ k n : Nat, k ≤ 8 ∧ i = .int .i64 k ∧ wr = (((w.alloc (.cells (wa 8 (uptoA k (fun i => f i + g i) f)) 29)).alloc (.cells (wa 8 g) 29)).alloc (.cells (wa 8 fun _ => 0#32) 29)).drewN n) (fun _ i _ => 8 - (intOf i).toNat)
  case atStart => exact ⟨0, 0, by omega, rfl, by rw [uptoA_zero]; rfl⟩
  case round =>
    obtain ⟨k, n, hk, rfl, rfl⟩ := hrel
    by_cases hlt : k < 8
    · have hd : decide ((k : Int) < 8) = true := by simp; omega
      have H := Lib.hid (uptoA_step k (fun i => f i + g i) f)
      have hu := uptoA_at k (fun i => f i + g i) f
      go_wp2
      refine quiet_tail 8 (by kernel_rfl) (by kernel_rfl) (fun _ _ _ _ _ h => h) ?_
      simp only [List.take_succ_cons, List.take_zero, List.drop_succ_cons, List.drop_zero]
      repeat (go_big_quiet_step (fail))
      refine wpQuiet_nil ?_
      rintro _ ⟨m, rfl⟩
      go_wp2
      go_roundw
      case rel => exact ⟨k + 1, _, by omega, by go_num, by rw [← H.out]⟩
      case measure => simp [intOf]; omega
    · obtain rfl : k = 8 := by omega
      have HV := Lib.hid (show wa 8 (uptoA 8 (fun i => f i + g i) f) = wa 8 fun i => f i + g i from wa_ext fun i hi => by unfold uptoA; rw [if_pos hi])
      rw [HV.out]
      go_wp2
      refine bodyPost_ret (v := .agg (wa 8 fun i => f i + g i)) (res_row rfl _ _ (w.heap.size + 1 + 1) _ _ _ rfl (by simp [go_sem]) s8_u (by rw [wa_size]; exact s8_i)) rfl ⟨rfl, ?_⟩
      exact below_drewN ((((Below.refl _ _).alloc (by simp) _).alloc (by simp) _).alloc (by simp; omega) _) _

/-- the words that a hash begins with -/
def iF : Wf := oct 1779033703#32 3144134277#32 1013904242#32 2773480762#32 1359893119#32 2600822924#32 528734635#32 1541459225#32
theorem iF_ok : (#[.int .u32 1779033703, .int .u32 3144134277, .int .u32 1013904242, .int .u32 2773480762, .int .u32 1359893119, .int .u32 2600822924, .int .u32 528734635, .int .u32 1541459225] : Array Value) = wa 8 iF := by unfold wa; kernel_rfl
theorem iF_lit (w : World) : (Instr.build 29 #[(0, .int .u32 1779033703), (1, .int .u32 3144134277), (2, .int .u32 1013904242), (3, .int .u32 2773480762), (4, .int .u32 1359893119), (5, .int .u32 2600822924), (6, .int .u32 528734635), (7, .int .u32 1541459225)]).run Tryd.prog w = .ok (.agg (wa 8 iF)) w := by
  rw [← iF_ok]; kernel_rfl
set_option maxHeartbeats 1000000 in
theorem start_any (w : World) :
    Calls Tryd.prog 13 #[] w fun e w' => e = .returned (.agg (wa 8 iF)) ∧ Below w.heap.size w w' := by
  have HI := Lib.hid iF_lit
  go_enter Tryd.func13, Tryd.ntmps13
  go_wp2_with (refine wpl_build rfl 29 #[(0, .const (.int .u32 1779033703)), (1, .const (.int .u32 3144134277)), (2, .const (.int .u32 1013904242)), (3, .const (.int .u32 2773480762)), (4, .const (.int .u32 1359893119)), (5, .const (.int .u32 2600822924)), (6, .const (.int .u32 528734635)), (7, .const (.int .u32 1541459225))] rfl _ _ HI.out (by kernel_rfl) ?_)
  refine bodyPost_ret (v := .agg (wa 8 iF)) (res_row rfl _ _ w.heap.size _ _ _ rfl (by simp [go_sem]) s8_u (by rw [wa_size]; exact s8_i)) rfl ⟨rfl, ?_⟩
  exact (Below.refl _ _).alloc (by simp) _

/-- x in m bytes, the highest one first -/
def bgN (m x : Nat) : Bf := fun i => BitVec.ofNat 8 (x / 256 ^ (m - 1 - i))
/-- the last j of m bytes of x are in, from place o on -/
def wsF (f : Bf) (o m x j : Nat) : Bf := fun i => if o + (m - j) ≤ i ∧ i < o + m then bgN m x (i - o) else f i
theorem wsF_zero (f : Bf) (o m x : Nat) : wsF f o m x 0 = f := by funext i; unfold wsF; rw [if_neg (by omega)]
theorem wsF_all (f : Bf) (o m x : Nat) : wsF f o m x m = putF f o m (bgN m x) := by
  funext i; unfold wsF putF; rw [Nat.sub_self, Nat.add_zero]
theorem wsF_step (f : Bf) (o m x j : Nat) (h : j < m) : upd (wsF f o m x j) (o + (m - (j + 1))) (BitVec.ofNat 8 (x / 256 ^ j)) = wsF f o m x (j + 1) := by
  funext i
  unfold upd wsF
  by_cases hi : i = o + (m - (j + 1))
  · rw [if_pos hi, if_pos (by omega)]
    unfold bgN
    congr 2
    congr 1
    omega
  · rw [if_neg hi]
    by_cases h2 : o + (m - j) ≤ i ∧ i < o + m
    · rw [if_pos h2, if_pos (by omega)]
    · rw [if_neg h2, if_neg (by omega)]
theorem I_ofN (n : Nat) : ((n : Int) % 256) = I (BitVec.ofNat 8 n) := by
  unfold I; rw [BitVec.toNat_ofNat]; omega

set_option maxHeartbeats 1000000 in
theorem wrn_any (g o m c N x : Nat) (f : Bf) (w : World) (hr : row w g = some (ba N f)) (hom : o + m ≤ N) (hN : N ≤ 1000) (hx : x < 18446744073709551616) :
    Calls Tryd.prog 28 #[.slice (some ⟨g, o, none⟩) m c, .int .u64 x] w fun e w' => e = .returned (.tuple #[]) ∧ w' = w.setRow g (ba N (putF f o m (bgN m x))) := by
  go_enter Tryd.func28, Tryd.ntmps28
  go_wp2
  go_loopw [1, 4] (fun v i wr => ∃ r j : Nat, r + j = m ∧ v = .int .u64 ((x / 256 ^ j : Nat) : Int) ∧ i = .int .i64 ((r : Int) - 1) ∧ wr = w.setRow g (ba N (wsF f o m x j))) (fun _ i _ => (intOf i + 1).toNat)
  case atStart => exact ⟨m, 0, by omega, by simp, rfl, by rw [wsF_zero, setRow_self hr]⟩
  case round =>
    obtain ⟨r, j, hrj, rfl, rfl, rfl⟩ := hrel
    rcases r with _ | s
    · obtain rfl : j = m := by omega
      rw [wsF_all]
      have hd : decide ((0 : Int) ≤ ((0 : Nat) : Int) - 1) = false := by decide
      go_wp2
      go_end0
      exact ⟨rfl, rfl⟩
    · have e1 : ((s + 1 : Nat) : Int) - 1 = (s : Int) := by omega
      rw [e1]
      have hd : decide ((0 : Int) ≤ (s : Int)) = true := by simp
      have hc := I_ofN (x / 256 ^ j)
      have hlt : x / 256 ^ j < 18446744073709551616 := Nat.lt_of_le_of_lt (Nat.div_le_self _ _) hx
      have hq : ((x / 256 ^ j : Nat) : Int) / 256 = ((x / 256 ^ (j + 1) : Nat) : Int) := by
        rw [Nat.pow_succ, ← Nat.div_div_eq_div_mul]; rfl
      obtain ⟨y, hy⟩ : ∃ y, y = x / 256 ^ j := ⟨_, rfl⟩
      obtain ⟨z, hz⟩ : ∃ z, z = x / 256 ^ (j + 1) := ⟨_, rfl⟩
      rw [← hy] at hc hlt hq ⊢
      rw [← hz] at hq
      have hrow := row_setRow hr (ba N (wsF f o m x j))
      have HY := Lib.hid hy
      have HZ := Lib.hid hz
      have hs : s < m := by omega
      have hj : j + s + 1 = m := by omega
      have hcl : (w.setRow g (ba N (wsF f o m x j))).cell? ⟨g, o + s, none⟩ = some (.int .u8 (I (wsF f o m x j (o + s)))) := by rw [cell_row hrow, ba_get _ _ _ (by omega)]
      have hfz : (w.setRow g (ba N (wsF f o m x j))).frozen? ⟨g, o + s, none⟩ = false := froz_row hrow _
      have HW := Lib.hid (show ((w.setRow g (ba N (wsF f o m x j))).setCell ⟨g, o + s, none⟩ (.int .u8 (I (BitVec.ofNat 8 y)))) = w.setRow g (ba N (wsF f o m x (j + 1))) by
        rw [setCell_row hrow, ba_set, setRow_setRow, hy, ← wsF_step f o m x j (by omega), show o + (m - (j + 1)) = o + s by omega])
      generalize w.setRow g (ba N (wsF f o m x j)) = wr at hcl hfz HW ⊢
      clear hy hz hrow
      go_wp2
      rw [HW.out]
      go_roundw
      case rel => exact ⟨s, j + 1, by omega, by rw [HZ.out], rfl, rfl⟩
      case measure => simp [intOf]

theorem bg4 (x : BitVec 32) (i : Nat) (h : i < 4) : bgN 4 x.toNat i = (x >>> (24 - 8 * i)).setWidth 8 := by
  apply BitVec.eq_of_toNat_eq
  unfold bgN
  rw [BitVec.toNat_ofNat, BitVec.toNat_setWidth, BitVec.toNat_ushiftRight, Nat.shiftRight_eq_div_pow, show (256 : Nat) = 2 ^ 8 from rfl, ← Nat.pow_mul]
  congr 3
  omega
theorem out_step (s : Wf) (k : Nat) : ba 32 (putF (upto (4 * k) (outF s) fun _ => 0#8) (4 * k) 4 (bgN 4 (s k).toNat)) = ba 32 (upto (4 * (k + 1)) (outF s) fun _ => 0#8) := ba_ext fun i hi => by
  unfold putF upto
  by_cases h : 4 * k ≤ i ∧ i < 4 * k + 4
  · rw [if_pos h, if_pos (by omega), bg4 _ _ (by omega)]
    unfold outF
    rw [show i / 4 = k by omega, show i % 4 = i - 4 * k by omega]
  · rw [if_neg h]
    by_cases h2 : i < 4 * k
    · rw [if_pos h2, if_pos (by omega)]
    · rw [if_neg h2, if_neg (by omega)]
set_option maxRecDepth 20000 in
set_option maxHeartbeats 2000000 in
theorem sumOf_any (s : Wf) (w : World) :
    Calls Tryd.prog 14 #[.agg (wa 8 s)] w fun e w' => e = .returned (.agg (ba 32 (outF s))) ∧ Below w.heap.size w w' := by
  go_enter Tryd.func14, Tryd.ntmps14
  go_wp2
  go_loopw [4, 5, 7] (fun _ _ i wr => ∃ k : Nat, k ≤ 8 ∧ i = .int .i64 k ∧ wr = ((w.alloc (.cells (wa 8 s) 29)).alloc (.cells (ba 32 fun _ => 0#8) 25)).alloc (.cells (ba 32 (upto (4 * k) (outF s) fun _ => 0#8)) 25)) (fun _ _ i _ => 8 - (intOf i).toNat)
  case atStart => exact ⟨0, by omega, rfl, by rw [Nat.mul_zero, upto_zero]⟩
  case round =>
    obtain ⟨k, hk, rfl, rfl⟩ := hrel
    by_cases hlt : k < 8
    · have hd : decide ((k : Int) < 8) = true := by simp; omega
      have H := Lib.hid (out_step s k)
      obtain ⟨v0, v1⟩ := M_bd (s k)
      have hsl := sum_sl_lh (w.heap.size + 1 + 1) (4 * k) (4 * (k + 1)) (4 * (k : Int)) (4 * ((k : Int) + 1)) (by omega) (by omega) (by omega) (by omega)
      rw [show 4 * (k + 1) - 4 * k = 4 by omega] at hsl
      go_wp2_with fail
      refine (wrn_any _ (4 * k) 4 _ 32 (s k).toNat _ _ (row_alloc_at _ _ _ _ (by simp)) (by omega) (by omega) (by omega)).mono ?_
      rintro e w' ⟨rfl, rfl⟩
      go_wp2_with fail
      rw [H.out]
      go_roundw
      case rel => exact ⟨k + 1, by omega, by go_num, rfl⟩
      case measure => simp [intOf]; omega
    · obtain rfl : k = 8 := by omega
      rw [show 4 * 8 = 32 from rfl, upto_all]
      go_wp2
      refine bodyPost_ret (v := .agg (ba 32 (outF s))) (res_row rfl _ _ (w.heap.size + 1) _ _ _ rfl (by simp [go_sem]) sum_u (by rw [ba_size]; exact sum_i)) rfl ⟨rfl, ?_⟩
      exact (((Below.refl _ _).alloc (by simp) _).alloc (by simp) _).alloc (by simp; omega) _
end Go.Proofs.YtjebkokkgkkogaaDoor.Oct
