/- Contracts of gcm's padded, the reference's whole, and of slices.Grow and slices.Concat of bytes. -/
import Derived.Test.YtokhldihfbaeoaaGcmA
namespace Go.Proofs.Ytokhldihfbaeoaa.Oct
open Go.ChangeShapes Go.WideShapes Go.ChangeAt Go.RowKit
set_option linter.unusedVariables false

theorem pad_cat (b z : Bf) (n m : Nat) (hz : ∀ i, z i = 0#8) : ∀ i, i < n + m → catF n b z i = padF b n i := fun i _ => by
  unfold catF padF
  by_cases h : i < n
  · rw [if_pos h, if_pos h]
  · rw [if_neg h, if_neg h, hz]
set_option maxHeartbeats 1000000 in
theorem padded_any (n c : Nat) (A : Option Addr) (b : Bf) (w : World) (hs : Sl w w.heap.size A n c b) (hn : n ≤ 1099511627776) :
    Calls Try.prog 31 #[.slice A n c] w fun e w' => ∃ A' c', e = .returned (.slice A' (up16 n) c') ∧ Sl w' w'.heap.size A' (up16 n) c' (padF b n) ∧ c' ≤ maxLen ∧ Below w.heap.size w w' := by
  obtain ⟨m, hm⟩ : ∃ m, m = (16 - n % 16) % 16 := ⟨_, rfl⟩
  have hup : n + m = up16 n := by unfold up16; omega
  have hm16 : m ≤ 16 := by omega
  have hmi : (16 - (n : Int) % 16) % 16 = (m : Int) := by omega
  have B0 := Lib.hid ((Below.refl w.heap.size w).alloc (by simp) (.cells (ba 16 fun _ => 0#8) 35))
  have q0 : row (w.alloc (.cells (ba 16 fun _ => 0#8) 35)) w.heap.size = some (ba 16 fun _ => 0#8) := by simp [go_sem]
  have hfull := run_full sli_u u8_i A n c n hs.le
  have hsl := blk_sl_h w.heap.size m hm16
  have HS := Lib.hid (hs.below B0.out)
  have HMM := Lib.hid hup
  clear hs hm hup
  go_enter Try.func31, Try.ntmps31
  go_wp2
  refine flow_seen [([0, 1, 2, 3, 4, 5, 6, 7], 8, true)] [9] (by kernel_rfl) (by kernel_rfl) (fun _ _ _ _ _ h => h) fun X => ?_
  have B1 := Lib.hid (onto B0.out (by simp) X.below)
  have r0 := After.row q0 X
  have HS1 := Lib.hid (HS.out.below (X.below.mono (by simp)))
  have hsz : w.heap.size ≤ X.val.heap.size := B1.out.size
  clear q0 B0 HS hmi
  generalize X.val = w1 at B1 r0 HS1 hsz ⊢
  clear X
  simp only [wpFs, pk, List.getElem?_cons_zero, List.getElem?_cons_succ]
  repeat (go_big_quiet_step (fail))
  refine wpQuiet_nil ?_
  have HZ : Sl w1 w1.heap.size (some ⟨w.heap.size, 0, none⟩) m 16 (fun _ => 0#8) := ((Sl.of_row r0 w1.heap.size (row_lt r0)).upto m hm16)
  clear hfull hsl
  go_wp2_with (at_builtin; refine wpl_appF rfl (.tmp 15) (.tmp 17) rfl sli_u u8_info HS1.out.full (by unfold maxLen; omega) hsz HS1.out.nil_zero HZ (by omega) rfl rfl ?_; intro A2 c2 w2 h2 hc2 hg)
  have HB2 := Lib.hid (onto B1.out hsz (Below.of_grown hg))
  have H2 := Lib.hid ((h2.congr (pad_cat b (fun _ => 0#8) n m (fun _ => rfl))))
  have HC2 := Lib.hid hc2
  clear h2 hc2 hg HZ
  rw [HMM.out] at H2 ⊢
  show wpQuiet _ _ _ _ _ _
  repeat (go_big_quiet_step (fail))
  refine wpQuiet_nil ?_
  go_wp2
  go_ret
  exact ⟨_, _, rfl, H2.out, HC2.out, HB2.out⟩

set_option maxHeartbeats 1000000 in
theorem whole_any (n c : Nat) (A : Option Addr) (b : Bf) (w : World) (hs : Sl w w.heap.size A n c b) (hn : n ≤ 1099511627776) :
    Calls Try.prog 33 #[.slice A n c] w fun e w' => ∃ v, e = .returned v ∧ Own w' w.heap.size 5 v (up16 n) (padF b n) ∧ Below w.heap.size w w' := by
  have HS := Lib.hid (hs.below ((Below.refl w.heap.size w).alloc (Nat.le_refl _) (.cells #[] 5)))
  have HOE := Lib.hid (Own.empty w w.heap.size 5 nF (Nat.le_refl _))
  clear hs
  go_enter Try.func33, Try.ntmps33
  go_wp2_with (at_builtin; refine wpl_appB rfl (.tmp 4) (.tmp 5) rfl sli_u u8_info HOE.out HS.out (by omega) (by simp) rfl rfl ?_; intro v' w2 ho hg ht)
  rw [catF_zero, Nat.zero_add] at ho
  have HB2 := Lib.hid (HOE.out.after hg ((Below.refl w.heap.size w).alloc (Nat.le_refl _) _) (by simp) (Nat.le_refl _))
  have HO2 := Lib.hid (ho.congr (f' := padF b n) fun i hi => by unfold padF; rw [if_pos hi])
  clear ho hg ht HS HOE
  go_loopw [3] (fun v wr => ∃ m : Nat, n ≤ m ∧ m ≤ up16 n ∧ Own wr w.heap.size 5 v m (padF b n) ∧ Below w.heap.size w wr) (fun v _ => up16 n - slLen v)
  case atStart => exact ⟨n, Nat.le_refl _, (up16_le n).1, HO2.out, HB2.out⟩
  case round =>
    clear HO2 HB2
    obtain ⟨m, hnm, hm16, ho, hb⟩ := hrel
    obtain ⟨A3, c3, hv, hsl, hc3, -⟩ := ho.sl
    subst hv
    have hmc := hsl.le
    have HU := Lib.hid (up16_le n)
    have HO := Lib.hid ho
    have HB := Lib.hid hb
    clear ho hb hsl
    by_cases h16 : m % 16 = 0
    · have hd : decide ((0 : Int) < (m : Int) % 16) = false := by simp; omega
      obtain rfl : m = up16 n := by have := up16_mod n; have := HU.out; unfold up16 at *; omega
      go_wp2
      go_ret
      exact ⟨_, rfl, HO.out, HB.out⟩
    · have hd : decide ((0 : Int) < (m : Int) % 16) = true := by simp; omega
      have hlt : m + 1 ≤ up16 n := by have := up16_mod n; omega
      have HO1 := HO.out.alloc (.cells #[.int .u8 0] 5)
      have HS1 : Sl (wr.alloc (.cells #[.int .u8 0] 5)) (wr.heap.size + 1) (some ⟨wr.heap.size, 0, none⟩) 1 1 (fun _ => 0#8) := Sl.one wr 5 0#8 (wr.heap.size + 1) (by omega)
      have hsz := HB.out.size
      go_wp2_with (at_builtin; refine wpl_appB rfl (.tmp 11) (.tmp 12) rfl sli_u u8_info HO1 HS1 (by have := HU.out; omega) (by simp; omega) rfl rfl ?_; intro v' w2 ho hg ht)
      have HO2 := Lib.hid (ho.congr (f' := padF b n) fun i hi => by
        unfold catF
        by_cases h : i < m
        · rw [if_pos h]
        · rw [if_neg h]; unfold padF; rw [if_neg (by omega)])
      have HB2 := Lib.hid (HO1.after hg (HB.out.alloc hsz _) (by simp; omega) (Nat.le_refl _))
      clear ho hg ht HO1 HS1
      go_roundw
      case rel => exact ⟨m + 1, by omega, hlt, HO2.out, HB2.out⟩
      case measure =>
        obtain ⟨A4, c4, hv, -⟩ := HO2.out.sl
        subst hv
        simp only [slLen]; omega
end Go.Proofs.Ytokhldihfbaeoaa.Oct
