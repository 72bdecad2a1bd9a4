/- Contracts of the reference's Thirds, Seconds, Make. -/
import Derived.Test.YtjebkokkgkkogaaDoorShaI
namespace Go.Proofs.YtjebkokkgkkogaaDoor.Oct
open Go.ChangeShapes Go.WideShapes Go.ChangeAt Go.RowKit
set_option linter.unusedVariables false

theorem prl_310 : ∀ j, j ≤ 310 → ((prl j).length < 64 ↔ j < 310) := by decide +kernel
theorem prl_18 : ∀ j, j ≤ 18 → ((prl j).length < 8 ↔ j < 18) := by decide +kernel
theorem prl_64 : (prl 310).length = 64 := by decide +kernel
theorem prl_8 : (prl 18).length = 8 := by decide +kernel
theorem prl_small : ∀ i, i < 64 → (prl 310).getD i 0 < 65536 := by decide +kernel
theorem prl_small8 : ∀ i, i < 8 → (prl 18).getD i 0 < 65536 := by decide +kernel
theorem thirds_ok : ∀ i, i < 64 → BitVec.ofNat 32 (rtg ((prl 310).getD i 0) true 37 0) = kF i := by decide +kernel
theorem seconds_ok : ∀ i, i < 8 → BitVec.ofNat 32 (rtg ((prl 18).getD i 0) false 37 0) = iF i := by decide +kernel
/-- the first i of the numbers k -/
def vK (i : Nat) : List Value := (List.range i).map fun t => .int .u32 (M (kF t))
theorem vK_len (i : Nat) : (vK i).length = i := by unfold vK; simp
theorem vK_app (i : Nat) : vK (i + 1) = vK i ++ [.int .u32 (M (kF i))] := by unfold vK; rw [List.range_succ, List.map_append]; rfl
theorem nth_vK (n i : Nat) (h : i < n) : nth (vK n) i = .int .u32 (M (kF i)) := by unfold nth vK; simp [h]
/-- what Thirds' slice reads as -/
def kV : Nat → Value := fun i => .int .u32 (M (kF i))

set_option maxRecDepth 20000 in
set_option maxHeartbeats 4000000 in
theorem thirds_any (w : World) :
    Calls Tryd.prog 25 #[] w fun e w' => ∃ g c cur, e = .returned (.slice (some ⟨g, 0, none⟩) 64 c) ∧ w.heap.size ≤ g ∧ 64 ≤ c ∧ row w' g = some cur ∧ (∀ i, i < 64 → cur[i]? = some (kV i)) ∧ Below w.heap.size w w' := by
  go_enter Tryd.func25, Tryd.ntmps25
  go_wp2_with fail
  refine (primes_any 64 310 (by omega) (by omega) prl_310 prl_64 (by omega) _).mono ?_
  rintro e w1 ⟨g, c, cur, rfl, hg, hr, hcu, hb1⟩
  have HR := Lib.hid hr
  have HCU := Lib.hid hcu
  have HB1 := Lib.hid hb1
  clear hr hcu hb1 hg
  go_wp2_with fail
  go_loopw [1, 3] (fun kv iv wr => ∃ i : Nat, i ≤ 64 ∧ iv = .int .i64 i ∧ wr.ownsRow w1.heap.size 28 1 kv i (vK i) ∧ Below w1.heap.size w1 wr) (fun _ iv _ => 64 - (intOf iv).toNat)
  case atStart => exact ⟨0, by omega, rfl, World.ownsRow_nil w1 w1.heap.size 28 1, Below.refl _ _⟩
  case round =>
    obtain ⟨i, hi, rfl, hO, hB⟩ := hrel
    obtain ⟨wo, rfl⟩ : ∃ wo : World, wo = wr := ⟨_, rfl⟩
    have HO := Lib.hid hO
    have HB := Lib.hid hB
    by_cases hlt : i < 64
    · have hd : decide ((i : Int) < 64) = true := by simp; omega
      have hc : wo.cell? ⟨g, i, none⟩ = some (.int .u64 (((prl 310).getD i 0 : Nat) : Int)) := by rw [cell_row (carry hB HR.out), HCU.out i hlt]
      obtain ⟨p, hp⟩ : ∃ p, p = (prl 310).getD i 0 := ⟨_, rfl⟩
      have hps := prl_small i hlt
      have hk := thirds_ok i hlt
      rw [← hp] at hc hps hk
      have HK := Lib.hid hk
      clear hO hB hk hp
      go_wp2_with fail
      refine (root_any p true hps _).mono ?_
      rintro e w2 ⟨rfl, hb2⟩
      have HB2 := Lib.hid (onto HB.out HB.out.size hb2)
      have HO2 := Lib.hid (ownsRow_below HO.out hb2 (Nat.le_refl _))
      rw [show M (BitVec.ofNat 32 (rtg p true 37 0)) = M (kF i) by rw [HK.out]]
      clear hb2 hc
      go_wp2_with (at_builtin; refine wpl_appOne rfl (.tmp 9) (.tmp 15) rfl u32s_u u32_info rfl (by decide) HO2.out rfl (by omega) HB2.out.size rfl rfl ?_; intro v' w3 ho hg3)
      have B3 := Lib.hid (ownsRow_after (HO2.out.alloc (.cells #[.int .u32 (M (kF i))] 28)) hg3 (HB2.out.alloc HB2.out.size _) (by have := HB2.out.size; simp; omega) (Nat.le_refl _))
      have HO3 := Lib.hid ho
      clear ho hg3
      go_wp2_with fail
      go_roundw
      case rel => exact ⟨i + 1, by omega, by go_num, by rw [vK_app]; exact HO3.out, B3.out⟩
      case measure => simp [intOf]; omega
    · obtain rfl : i = 64 := by omega
      obtain ⟨g', c', cur', hkv, hg', hc', hr', hcu'⟩ := ownsRow_row HO.out (by omega)
      subst hkv
      have HG := Lib.hid hg'
      have HR' := Lib.hid hr'
      have HCU' := Lib.hid hcu'
      clear hO hB hr' hcu' hg'
      go_wp2_with fail
      go_ret
      exact ⟨g', c', cur', rfl, by have := HB1.out.size; have := HG.out; omega, hc', HR'.out, fun i hi => by rw [HCU'.out i hi]; exact congrArg some (nth_vK 64 i hi), onto HB1.out HB1.out.size HB.out⟩

/-- what is known of the world in Seconds' loop -/
structure SeInv (w : World) (g : Nat) (cur : Array Value) (i : Nat) (wr : World) : Prop where
  below : Below w.heap.size w wr
  r0 : row wr w.heap.size = some (wa 8 fun _ => 0#32)
  r1 : row wr (w.heap.size + 1) = some (wa 8 (uptoA i iF fun _ => 0#32))
  rl : row wr g = some cur
theorem SeInv.call {w : World} {g i : Nat} {cur : Array Value} {wr w' : World} (h : SeInv w g cur i wr) (hb : Below wr.heap.size wr w') : SeInv w g cur i w' :=
  ⟨onto h.below (by have := row_lt h.r1; omega) hb, carry hb h.r0, carry hb h.r1, carry hb h.rl⟩
theorem SeInv.set {w : World} {g i : Nat} {cur : Array Value} {wr : World} (h : SeInv w g cur i wr) (hg : w.heap.size + 2 ≤ g) : SeInv w g cur (i + 1) (wr.setCell ⟨w.heap.size + 1, i, none⟩ (.int .u32 (M (iF i)))) :=
  ⟨h.below.setCell (by simp) _, by rw [row_setCell_other _ _ _ _ (by simp)]; exact h.r0, by rw [row_setCellW h.r1, uptoA_step], by rw [row_setCell_other _ _ _ _ (by simp; omega)]; exact h.rl⟩

set_option maxRecDepth 20000 in
set_option maxHeartbeats 4000000 in
theorem seconds_any (w : World) :
    Calls Tryd.prog 12 #[] w fun e w' => e = .returned (.agg (wa 8 iF)) ∧ Below w.heap.size w w' := by
  have B0 := Lib.hid (((Below.refl w.heap.size w).alloc (by simp) (.cells (wa 8 fun _ => 0#32) 29)).alloc (by simp) (.cells (wa 8 fun _ => 0#32) 29))
  have q0 : row ((w.alloc (.cells (wa 8 fun _ => 0#32) 29)).alloc (.cells (wa 8 fun _ => 0#32) 29)) w.heap.size = some (wa 8 fun _ => 0#32) := by simp [go_sem]
  have q1 : row ((w.alloc (.cells (wa 8 fun _ => 0#32) 29)).alloc (.cells (wa 8 fun _ => 0#32) 29)) (w.heap.size + 1) = some (wa 8 fun _ => 0#32) := by simp [go_sem]
  go_enter Tryd.func12, Tryd.ntmps12
  go_wp2_with fail
  refine (primes_any 8 18 (by omega) (by omega) prl_18 prl_8 (by omega) _).mono ?_
  rintro e w1 ⟨g, c, cur, rfl, hg, hr, hcu, hb1⟩
  have r0 := carry hb1 q0
  have r1 := carry hb1 q1
  have B1 := onto B0.out (by simp; omega) hb1
  have hg2 : w.heap.size + 2 ≤ g := by simpa using hg
  have HI := Lib.hid (show SeInv w g cur 0 w1 from ⟨B1, r0, by rw [uptoA_zero]; exact r1, hr⟩)
  have HCU := Lib.hid hcu
  clear r0 r1 B1 hg hr hcu hb1 q0 q1 B0
  go_wp2_with fail
  go_loopw [3] (fun iv wr => ∃ i : Nat, i ≤ 8 ∧ iv = .int .i64 i ∧ SeInv w g cur i wr) (fun iv _ => 8 - (intOf iv).toNat)
  case atStart => exact ⟨0, by omega, rfl, HI.out⟩
  case round =>
    clear HI
    obtain ⟨i, hi, rfl, hI⟩ := hrel
    obtain ⟨wo, rfl⟩ : ∃ wo : World, wo = wr := ⟨_, rfl⟩
    have HI := Lib.hid hI
    by_cases hlt : i < 8
    · have hd : decide ((i : Int) < 8) = true := by simp; omega
      have hc : wo.cell? ⟨g, i, none⟩ = some (.int .u64 (((prl 18).getD i 0 : Nat) : Int)) := by rw [cell_row hI.rl, HCU.out i hlt]
      obtain ⟨p, hp⟩ : ∃ p, p = (prl 18).getD i 0 := ⟨_, rfl⟩
      have hps := prl_small8 i hlt
      have hk := seconds_ok i hlt
      rw [← hp] at hc hps hk
      have HK := Lib.hid hk
      clear hI hk hp
      go_wp2_with fail
      refine (root_any p false hps _).mono ?_
      rintro e w2 ⟨rfl, hb2⟩
      have I2 := HI.out.call hb2
      have HI2 := Lib.hid I2
      have hcl := cell_row I2.r1 i
      rw [wa_get _ _ _ hlt] at hcl
      have hfz := froz_row I2.r1 i
      rw [show M (BitVec.ofNat 32 (rtg p false 37 0)) = M (iF i) by rw [HK.out]]
      clear hb2 hc I2 HI
      go_wp2_with fail
      go_roundw
      case rel => exact ⟨i + 1, by omega, by go_num, HI2.out.set hg2⟩
      case measure => simp [intOf]; omega
    · obtain rfl : i = 8 := by omega
      have r0 := hI.r0
      have r1 := hI.r1
      rw [show wa 8 (uptoA 8 iF fun _ => 0#32) = wa 8 iF from wa_ext fun i hi => by unfold uptoA; rw [if_pos hi]] at r1
      clear hI
      go_wp2_with fail
      refine bodyPost_ret (v := .agg (wa 8 iF)) (res_row rfl _ _ w.heap.size _ _ _ rfl (row_setRow r0 _) s8_u (by rw [wa_size]; exact s8_i)) rfl ⟨rfl, ?_⟩
      exact below_setRow HI.out.below (by omega) _
end Go.Proofs.YtjebkokkgkkogaaDoor.Oct
