import Derived.Test.YteffjpdcghlnlaaGreatDoorZcDrb
import Derived.Test.YteffjpdcghlnlaaGreatDoorZcShaT
import Derived.Test.YteffjpdcghlnlaaGreatDoorZcLib
import Derived.Test.YteffjpdcghlnlaaGreatDoorZcMm
import Derived.Test.YteffjpdcghlnlaaGreatDoorZcPkAll
set_option linter.unusedVariables false
set_option linter.unusedSimpArgs false
set_option maxHeartbeats 4000000
set_option maxRecDepth 20000
namespace Go.Proofs.YteffjpdcghlnlaaGreatDoor.Oct
open Go.ChangeShapes Go.WideShapes Go.ChangeAt Go.RowKit
theorem xor36 (a : BitVec 8) : bits .xor .u8 (I a) 54 = I (a ^^^ 54#8) := by rw [← I_xor]; rfl
theorem xor5c (a : BitVec 8) : bits .xor .u8 (I a) 92 = I (a ^^^ 92#8) := by rw [← I_xor]; rfl
theorem I_lit0 : (Value.int .u8 0) = .int .u8 (I 0#8) := rfl
def Two (v u : Value) : Prop := ∀ g, v.ownBlock = some g → u.ownBlock ≠ some g
theorem cat_step {f : Bf} {i : Nat} {x : BitVec 8} (hx : f i = x) (j : Nat) (hj : j < i + 1) : catF i f (fun _ => x) j = f j := by
 unfold catF
 by_cases h : j < i
 ·rw [if_pos h]
 ·rw [if_neg h, show j = i by omega, hx]
structure SsInv (w w1 : World) (tb : Array Value) (wr : World) : Prop where
 b0 : Below w.heap.size w wr
 b1 : Below w1.heap.size w1 wr
 rt : row wr w.heap.size = some tb
 r0 : row wr (w.heap.size + 1) = some (ba 32 fun _ => 0#8)
 s1 : w.heap.size + 2 ≤ w1.heap.size
theorem SsInv.app {w w1 wr w' : World} {tb : Array Value} {o : Obj} {u : TypeId} {v : Value} {n : Nat} {f : Bf} (h : SsInv w w1 tb wr) (ho : Own (wr.alloc o) w1.heap.size u v n f) (hg : (wr.alloc o).grownBy w' v.ownBlock) : SsInv w w1 tb w' := by
 have s1 := h.s1
 have b1 := h.b1.size
 refine ⟨ho.after hg (h.b0.alloc (by omega) o) (by simp; omega) (by omega), ho.after hg (h.b1.alloc (by omega) o) (by simp; omega) (Nat.le_refl _), grown_row hg (zI h.rt o) (fun e => ?_), grown_row hg (zI h.r0 o) (fun e => ?_), s1⟩
 ·have := (ho.lt e).1; omega
 ·have := (ho.lt e).1; omega
theorem Two.app {w : World} {B : Nat} {u : TypeId} {v v' x : Value} {n : Nat} {f : Bf} {k : Nat} (h : Two v x) (hx : Own w B u x n f) (ht : v'.ownBlock = v.ownBlock ∨ v'.ownBlock = some k) (hk : w.heap.size ≤ k) : Two v' x := fun g hg e => by
 rcases ht with h1 | h1
 ·rw [h1] at hg; exact h g hg e
 ·rw [h1] at hg
  have := (hx.lt e).2
  have := Option.some.inj hg
  omega
theorem Two.symm {v x : Value} (h : Two v x) : Two x v := fun g hg e => h g e hg
theorem rsums_any (k b : Bf) (n m c c' cK : Nat) (A A' AK : Option Addr) (w : World) (hs : Sl w w.heap.size A n c k) (hs' : Sl w w.heap.size A' m c' b) (hn : n ≤ 80000) (hm : m ≤ 80000) (hK : SlG w w.heap.size AK 64 cK kV) :
  Calls Tryz.prog 70 #[.agg (tbA (.slice AK 64 cK) iF), .slice A n c, .slice A' m c'] w fun e w' => e = .returned (.agg (ba 32 (macF k n b m))) ∧ Below w.heap.size w w' := by
 have HS := Lib.hid hs
 have HS' := Lib.hid hs'
 have HK := Lib.hid hK
 obtain ⟨tb, htb⟩ : ∃ tb, tb = tbA (.slice AK 64 cK) iF := ⟨_, rfl⟩
 have HTB := Lib.hid htb
 have hz0 : ((w.alloc (.cells (tbA (.slice AK 64 cK) iF) 138)).alloc (.cells (ba 32 fun _ => 0#8) 66)).heap.size = w.heap.size + 2 := by simp
 have B0 := Lib.hid (((Below.refl w.heap.size w).alloc (by simp) (.cells (tbA (.slice AK 64 cK) iF) 138)).alloc (by simp) (.cells (ba 32 fun _ => 0#8) 66))
 have rt0 : row ((w.alloc (.cells (tbA (.slice AK 64 cK) iF) 138)).alloc (.cells (ba 32 fun _ => 0#8) 66)) w.heap.size = some (tbA (.slice AK 64 cK) iF) := zI (zA _ _ _ _ rfl) _
 have r00 : row ((w.alloc (.cells (tbA (.slice AK 64 cK) iF) 138)).alloc (.cells (ba 32 fun _ => 0#8) 66)) (w.heap.size + 1) = some (ba 32 fun _ => 0#8) := zA _ _ _ _ (by simp)
 clear hs hs' hK htb
 go_enter Tryz.func70, Tryz.ntmps70
 by_cases h64 : 64 < n
 case' pos =>
  have hd : decide ((64 : Int) < (n : Int)) = true := by simp; omega
  go_wp2_with fail
  refine (rsum_any k n c cK A AK _ ((HS.out.below B0.out).more (by omega)) (by omega) ((HK.out.below B0.out).more (by omega))).mono ?_
  rintro e wa ⟨rfl, hba⟩
  have hsa : w.heap.size + 2 ≤ wa.heap.size := by have := hba.size; omega
  have a1 := sum_sl_all wa.heap.size
  obtain ⟨w1, hw1⟩ : ∃ w1, w1 = wa.alloc (.cells (ba 32 (shaF kF iF k n)) 66) := ⟨_, rfl⟩
  have J1 := Lib.hid (show SsInv w w1 tb w1 from by
   rw [hw1, HTB.out]
   exact ⟨(onto B0.out (by omega) hba).alloc (by omega) _, Below.refl _ _, zI (zC hba rt0) _, zI (zC hba r00) _, by simp; omega⟩)
  obtain ⟨A1, N1, c1, k1, hsl, hN1, hky, hkf⟩ : ∃ A1 N1 c1 k1, Value.slice (some ⟨wa.heap.size, 0, none⟩) 32 32 = .slice A1 N1 c1 ∧ N1 ≤ 64 ∧ Sl w1 w1.heap.size A1 N1 c1 k1 ∧ ∀ i, keyF k n i = if i < N1 then k1 i else 0#8 :=
   ⟨_, _, _, _, rfl, by omega, (by rw [hw1]; exact Sl.of_row (zA _ _ _ _ rfl) _ (by simp) : Sl w1 w1.heap.size (some ⟨wa.heap.size, 0, none⟩) 32 32 (shaF kF iF k n)), fun i => by unfold keyF; rw [if_pos h64]⟩
  have HKY := Lib.hid hky
  have HKF := Lib.hid hkf
  have HSL := Lib.hid hsl
  clear hba rt0 r00 hz0 B0 hky hkf hsl
  go_wp2_with fail
  rw [← hw1, HSL.out]
  clear hw1 a1 hd HSL
 case' neg =>
  have hd : decide ((64 : Int) < (n : Int)) = false := by simp; omega
  obtain ⟨w1, hw1⟩ : ∃ w1, w1 = (w.alloc (.cells (tbA (.slice AK 64 cK) iF) 138)).alloc (.cells (ba 32 fun _ => 0#8) 66) := ⟨_, rfl⟩
  have J1 := Lib.hid (show SsInv w w1 tb w1 from by
   rw [hw1, HTB.out]
   exact ⟨B0.out, Below.refl _ _, rt0, r00, by omega⟩)
  obtain ⟨A1, N1, c1, k1, hsl, hN1, hky, hkf⟩ : ∃ A1 N1 c1 k1, Value.slice A n c = .slice A1 N1 c1 ∧ N1 ≤ 64 ∧ Sl w1 w1.heap.size A1 N1 c1 k1 ∧ ∀ i, keyF k n i = if i < N1 then k1 i else 0#8 :=
   ⟨_, _, _, _, rfl, by omega, (by rw [hw1]; exact (HS.out.below B0.out).more (by omega) : Sl w1 w1.heap.size A n c k), fun i => by unfold keyF; rw [if_neg h64]⟩
  have HKY := Lib.hid hky
  have HKF := Lib.hid hkf
  have HSL := Lib.hid hsl
  clear rt0 r00 hz0 B0 hky hkf hsl
  go_wp2_with fail
  rw [← hw1, HSL.out]
  clear hw1 hd HSL
 all_goals
  go_loopw [8, 9, 10] (fun vi vo iv wr => ∃ i : Nat, i ≤ 64 ∧ iv = .int .i64 i ∧ Own wr w1.heap.size 5 vi i (mskF (keyF k n) 54#8) ∧ Own wr w1.heap.size 5 vo i (mskF (keyF k n) 92#8) ∧ Two vi vo ∧ SsInv w w1 tb wr) (fun _ _ iv _ => 64 - (intOf iv).toNat)
  case' atStart => exact ⟨0, by omega, rfl, Own.nil _ _ _ _, Own.nil _ _ _ _, show Two _ _ from (fun g h => by cases h), J1.out⟩
  case' round =>
   clear J1
   obtain ⟨i, hi, rfl, hoi, hoo, htwo, hJ⟩ := hrel
   obtain ⟨wo, rfl⟩ : ∃ wo : World, wo = wr := ⟨_, rfl⟩
   have HOI := Lib.hid hoi
   have HOO := Lib.hid hoo
   have HTW := Lib.hid htwo
   have HJ := Lib.hid hJ
   clear hoi hoo htwo hJ
   by_cases hlt : i < 64
   ·have hd : decide ((i : Int) < 64) = true := by simp; omega
    have b1 := HJ.out.b1.size
    obtain ⟨x, hx⟩ : ∃ x, x = keyF k n i := ⟨_, rfl⟩
    have HX := Lib.hid hx
    have HOI1 := Lib.hid (HOI.out.alloc (.cells #[.int .u8 (I (x ^^^ 54#8))] 5))
    have HSO1 := Lib.hid (Sl.one wo 5 (x ^^^ 54#8) (wo.heap.size + 1) (by omega))
    rw [HKF.out] at hx
    by_cases hlk : i < N1
    case' pos =>
     have hd2 : decide ((i : Int) < (N1 : Int)) = true := by simp; omega
     rw [if_pos hlk] at hx
     obtain ⟨g, o, hA, hg, hcell⟩ := (HKY.out.below HJ.out.b1).at_ (by omega)
     subst hA
     have hc : wo.cell? ⟨g, o + i, none⟩ = some (.int .u8 (I x)) := by rw [hx]; exact hcell i hlk
     clear hcell hx
    case' neg =>
     have hd2 : decide ((i : Int) < (N1 : Int)) = false := by simp; omega
     rw [if_neg hlk] at hx
     have hx0 := I_lit0
     rw [← hx] at hx0
     clear hx
    all_goals
     have x1 := xor36 x
     have x2 := xor5c x
     go_wp2_with (at_builtin; first
      | (refine yN rfl (.tmp 32) (.tmp 35) rfl zZ yG HOI1.out HSO1.out (by omega) (by simp; omega) rfl rfl ?_; intro v2 w2 ho2 hg2 ht2
         have s2 : w1.heap.size ≤ w2.heap.size := by have := hg2.size; simp at this; omega
         have HOO2 := Lib.hid (((HOO.out.alloc (.cells #[.int .u8 (I (x ^^^ 54#8))] 5)).other hg2 (fun k hk e => HTW.out k e hk)).alloc (.cells #[.int .u8 (I (x ^^^ 92#8))] 5))
         have HSO2 := Lib.hid (Sl.one w2 5 (x ^^^ 92#8) (w2.heap.size + 1) (by omega))
         have HTW2 := Lib.hid (HTW.out.app HOO.out ht2 (by simp))
         have HJ2 := Lib.hid (HJ.out.app HOI1.out hg2)
         have HO2 := Lib.hid ho2
         clear ho2 hg2 ht2)
      | (refine yN rfl (.tmp 37) (.tmp 40) rfl zZ yG HOO2.out HSO2.out (by omega) (by simp; omega) rfl rfl ?_; intro v3 w3 ho3 hg3 ht3))
     have HOI3 := Lib.hid (((HO2.out.alloc (.cells #[.int .u8 (I (x ^^^ 92#8))] 5)).other hg3 (fun k hk e => HTW2.out k hk e)).congr (f' := mskF (keyF k n) 54#8) (cat_step (by unfold mskF; rw [HX.out])))
     have HOO3 := Lib.hid (ho3.congr (f' := mskF (keyF k n) 92#8) (cat_step (by unfold mskF; rw [HX.out])))
     have HTW3 := Lib.hid (HTW2.out.symm.app HO2.out ht3 (by simp)).symm
     have HJ3 := Lib.hid (HJ2.out.app HOO2.out hg3)
     clear ho3 hg3 ht3 HOO2 HSO2 HTW2 HJ2 HO2
     go_roundw
     case rel => exact ⟨i + 1, by omega, by go_num, HOI3.out, HOO3.out, HTW3.out, HJ3.out⟩
     case measure => simp [intOf]; omega
   ·obtain rfl : i = 64 := by omega
    have hd : decide ((64 : Int) < 64) = false := by decide
    have rt := HJ.out.rt
    have RT := Lib.hid rt
    clear rt
    have hsw : w.heap.size + 2 ≤ wo.heap.size := by have := HJ.out.b1.size; have := HJ.out.s1; omega
    go_wp2_with fail
    refine flow_many [.inl [0, 1, 2], pS 5, pE 3, pE 4, pU 5, pE 6] (fun y => row y w.heap.size = some (tbA (.slice AK 64 cK) iF)) u8.ownBlock.toList (by kernel_rfl) (by kernel_rfl) (fun _ _ _ _ _ h => h) (fun _ _ _ _ _ h => h) (fun y z h => zI h z) (by rw [zQ, RT.out, HTB.out]) (hot_own HOI.out) ?_
    have HOI1 := Lib.hid (HOI.out.drewN 1)
    have HOO1 := Lib.hid (HOO.out.drewN 1)
    have B1 := Lib.hid (zL HJ.out.b0 1)
    have R1 := Lib.hid (show row (wo.drewN 1) (w.heap.size + 1) = some (ba 32 fun _ => 0#8) by rw [zQ]; exact HJ.out.r0)
    have TT1 := Lib.hid (show row (wo.drewN 1) w.heap.size = some (tbA (.slice AK 64 cK) iF) by rw [zQ, RT.out, HTB.out])
    have hz1 : (wo.drewN 1).heap.size = wo.heap.size := rfl
    have hs1 : w1.heap.size ≤ wo.heap.size := HJ.out.b1.size
    have hs0 : w.heap.size + 2 ≤ w1.heap.size := HJ.out.s1
    obtain ⟨W1, hW1⟩ : ∃ W1, W1 = wo.drewN 1 := ⟨_, rfl⟩
    rw [← hW1] at HOI1 HOO1 B1 R1 TT1 hz1 ⊢
    have HL9 := Lib.hid (fun (g : Nat) (h : u9.ownBlock = some g) => (HOO.out.lt h).2)
    clear hW1 HOI HOO HJ
    have hq : ∀ x : In (fun y => row y w.heap.size = some (tbA (.slice AK 64 cK) iF)), row x.val w.heap.size = some (tbA (.slice AK 64 cK) iF) := fun x => x.ok
    have hne : Nonempty (In (fun y => row y w.heap.size = some (tbA (.slice AK 64 cK) iF))) := ⟨⟨W1, TT1.out⟩⟩
    refine wpM_q ?_
    simp only [pk, List.getElem?_cons_zero, List.getElem?_cons_succ]
    repeat (go_big_quiet_step (fail))
    refine wpQuiet_nil ?_
    clear hq
    refine wpM_s (fun p => .pointer (some ⟨p, 0, none⟩)) (.cells (ba 32 fun _ => 0#8) 66) _ rfl rfl (fun w => by simp only [execOp, go_sem, Sem.run_bind, Result.andThen]; rfl) ?_
    refine wpM_e _ rfl (fun x hx => ?_)
    have hx' : row x.val w.heap.size = some (tbA (.slice AK 64 cK) iF) := hx
    have TX := Lib.hid hx'
    have hsx := x.below.size
    have HOI2 := Lib.hid (HOI1.out.below x.below (Nat.le_refl _))
    have HOO2 := Lib.hid (HOO1.out.below x.below (Nat.le_refl _))
    have BX := Lib.hid (onto B1.out (by omega) x.below)
    have RX := Lib.hid (zC x.below R1.out)
    have HSX := Lib.hid ((HS'.out.below BX.out).more (by omega : w.heap.size ≤ x.val.heap.size))
    clear hx hx' HOI1 HOO1 TT1 R1
    obtain ⟨xv, hxv⟩ : ∃ xv, xv = x.val := ⟨_, rfl⟩
    rw [← hxv] at TX hsx HOI2 HOO2 BX RX HSX ⊢
    clear hxv B1
    go_wp2_with (at_builtin; refine yN rfl (.tmp 43) (.tmp 44) rfl zZ yG HOI2.out HSX.out (by omega) (by omega) rfl rfl ?_; intro v2 w2 ho2 hg2 ht2)
    have hs2 := hg2.size
    have B2 := Lib.hid (HOI2.out.after hg2 BX.out (by omega) (by omega))
    have T2 := grown_row hg2 TX.out (fun e => by have := (HOI2.out.lt e).1; omega)
    have R2 := Lib.hid (grown_row hg2 RX.out (fun e => by have := (HOI2.out.lt e).1; omega))
    have HOO3 := Lib.hid (HOO2.out.other hg2 (fun k hk e => HTW.out k e hk))
    have HO2 := Lib.hid ho2
    refine yD (C := fun y => row y w.heap.size = some (tbA (.slice AK 64 cK) iF)) v2.ownBlock.toList (Frm.app hg2) (hot_app ho2 ht2 (fun k hk => by simpa using hk)) T2 (fun y z h => zI h z) ?_
    clear ho2 hg2 ht2 T2 HOI2 HOO2 TX RX BX
    refine wpM_e _ rfl (fun x2 hx2 => ?_)
    have T3 := Lib.hid (show row x2.val w.heap.size = some (tbA (.slice AK 64 cK) iF) from hx2)
    have hsx2 := x2.below.size
    have HO3 := Lib.hid (HO2.out.below x2.below (Nat.le_refl _))
    have HOO4 := Lib.hid (HOO3.out.below x2.below (Nat.le_refl _))
    have B3 := Lib.hid (onto B2.out (by omega) x2.below)
    have R3 := Lib.hid (zC x2.below R2.out)
    have HK3 := Lib.hid ((HK.out.below B3.out).more (by omega : w.heap.size ≤ x2.val.heap.size))
    have hh2 : ∀ k ∈ v2.ownBlock.toList, k < x2.val.heap.size := hot_own HO3.out
    clear hx2 HO2 HOO3 R2 B2
    obtain ⟨xw, hxw⟩ : ∃ xw, xw = x2.val := ⟨_, rfl⟩
    rw [← hxw] at T3 hsx2 HO3 HOO4 B3 R3 HK3 hh2 ⊢
    clear hxw
    obtain ⟨A4, c4, hv4, hsl4, -, -⟩ := HO3.out.sl
    obtain ⟨H4, hH4⟩ : ∃ H4, H4 = v2.ownBlock.toList := ⟨_, rfl⟩
    rw [← hH4] at hh2 ⊢
    rw [hv4]
    have HH4 := Lib.hid hh2
    have HSL4 := Lib.hid hsl4
    clear hsl4 hh2 HO3 hv4 hH4
    go_wp2_with fail
    refine (rsum_any (catF 64 (mskF (keyF k n) 54#8) b) (64 + m) c4 cK A4 AK xw HSL4.out (by omega) HK3.out).mono ?_
    rintro e w4 ⟨rfl, hb4⟩
    obtain ⟨S, hS⟩ : ∃ S, S = innF k n b m := ⟨_, rfl⟩
    have hHS := Lib.hid hS
    rw [show shaF kF iF (catF 64 (mskF (keyF k n) 54#8) b) (64 + m) = S by rw [hS]; rfl]
    have hs4 := hb4.size
    have HOO5 := Lib.hid (HOO4.out.below hb4 (Nat.le_refl _))
    have B4 := Lib.hid (onto B3.out (by omega) hb4)
    have R4 := Lib.hid (zC hb4 R3.out)
    have T4 := Lib.hid (zC hb4 T3.out)
    have HFR := Lib.hid (Frm.of (hot := H4) hb4)
    have HHS := Lib.hid (hot_same HH4.out hb4.size)
    clear hb4 HOO4 B3 R3 T3 HSL4 HK3 hS HH4
    go_wp2_with fail
    refine yD (C := fun y => row y w.heap.size = some (tbA (.slice AK 64 cK) iF)) H4 HFR.out HHS.out T4.out (fun y z h => zI h z) ?_
    clear HFR HHS
    refine wpM_u _ _ [] 12 (.head _) rfl rfl (fun x5 hx5 p hp1 hp2 hp3 hp4 => ?_)
    refine wpM_e _ rfl (fun x6 hx6 => ?_)
    have b6 := onto x5.below x5.below.size x6.below
    have rp : row x6.val p = some (ba 32 fun _ => 0#8) := zC x6.below (row_of hp4)
    have hs5 := x5.below.size
    have hs6 := x6.below.size
    have HOO6 := Lib.hid (HOO5.out.below b6 (Nat.le_refl _))
    have B6 := Lib.hid (onto B4.out (by omega) b6)
    have R6 := Lib.hid (zC b6 R4.out)
    have T6 := Lib.hid (zC b6 T4.out)
    have HP2 := Lib.hid hp2
    have HP1 := Lib.hid hp1
    clear HOO5 B4 R4 T4 b6 hp4 hx5 hx6 hp3 hp1 hp2
    obtain ⟨xv, hxv⟩ : ∃ xv, xv = x6.val := ⟨_, rfl⟩
    rw [← hxv] at rp hs6 HOO6 B6 R6 T6 ⊢
    clear hxv
    have hpx : p < xv.heap.size := zK rp
    go_wp2_with fail
    have hs7 : (xv.setRow p (ba 32 S)).heap.size = xv.heap.size := by simp
    have HOO7 := Lib.hid (HOO6.out.setRow p (fun e => by have := HL9.out p e; have := HP1.out; omega) (ba 32 S))
    have B7 := Lib.hid (zE B6.out (by have := HP1.out; omega : w.heap.size ≤ p) (ba 32 S))
    have R7 := Lib.hid (show row (xv.setRow p (ba 32 S)) (w.heap.size + 1) = some (ba 32 fun _ => 0#8) by rw [zB _ _ _ _ (by have := HP1.out; omega)]; exact R6.out)
    have T7 := Lib.hid (show row (xv.setRow p (ba 32 S)) w.heap.size = some (tbA (.slice AK 64 cK) iF) by rw [zB _ _ _ _ (by have := HP1.out; omega)]; exact T6.out)
    have P7 := Lib.hid (zD rp (ba 32 S))
    refine yD (C := fun y => row y w.heap.size = some (tbA (.slice AK 64 cK) iF)) [] (Frm.row xv _ (by simp)) hot_none T7.out (fun y z h => zI h z) ?_
    clear HOO6 B6 R6 T6 rp
    refine wpM_nil (fun x7 => ?_)
    have hs8 := x7.below.size
    have HOO8 := Lib.hid (HOO7.out.below x7.below (Nat.le_refl _))
    have B8 := Lib.hid (onto B7.out (by omega) x7.below)
    have R8 := Lib.hid (zC x7.below R7.out)
    have T8 := Lib.hid (zC x7.below T7.out)
    have P8 := Lib.hid (zC x7.below P7.out)
    clear HOO7 B7 R7 T7 P7
    obtain ⟨y0, hy0⟩ : ∃ y0, y0 = x7.val := ⟨_, rfl⟩
    rw [← hy0] at hs8 HOO8 B8 R8 T8 P8 ⊢
    rw [hs7] at hs8
    clear hy0 hs7
    have hys : w.heap.size + 2 ≤ y0.heap.size := by omega
    have hhot : ∀ g ∈ (w.heap.size + 1) :: u9.ownBlock.toList, g < y0.heap.size := fun g hg => by
     rcases List.mem_cons.1 hg with rfl | hg
     ·omega
     ·exact hot_own HOO8.out g hg
    go_wp2_with fail
    refine flow_many [.inl [0, 1, 2], pE 3, pE 4, pE 5] (fun y => row y w.heap.size = some (tbA (.slice AK 64 cK) iF)) ((w.heap.size + 1) :: u9.ownBlock.toList) (by kernel_rfl) (by kernel_rfl) (fun _ _ _ _ _ h => h) (fun _ _ _ _ _ h => h) (fun y z h => zI h z) (by rw [zQ]; exact T8.out) hhot ?_
    have O1 := Lib.hid (HOO8.out.drewN 1)
    have D1 := Lib.hid (zL B8.out 1)
    have E1 := Lib.hid (show row (y0.drewN 1) (w.heap.size + 1) = some (ba 32 fun _ => 0#8) by rw [zQ]; exact R8.out)
    have F1 := Lib.hid (show row (y0.drewN 1) w.heap.size = some (tbA (.slice AK 64 cK) iF) by rw [zQ]; exact T8.out)
    have G1 := Lib.hid (show row (y0.drewN 1) p = some (ba 32 S) by rw [zQ]; exact P8.out)
    have hz1 : (y0.drewN 1).heap.size = y0.heap.size := rfl
    obtain ⟨Y1, hY1⟩ : ∃ Y1, Y1 = y0.drewN 1 := ⟨_, rfl⟩
    rw [← hY1] at O1 D1 E1 F1 G1 hz1 ⊢
    clear hY1 HOO8 B8 R8 T8 P8 hne hhot
    have hq : ∀ x : In (fun y => row y w.heap.size = some (tbA (.slice AK 64 cK) iF)), row x.val w.heap.size = some (tbA (.slice AK 64 cK) iF) := fun x => x.ok
    have hne : Nonempty (In (fun y => row y w.heap.size = some (tbA (.slice AK 64 cK) iF))) := ⟨⟨Y1, F1.out⟩⟩
    have a1 := sum_sl_all p
    refine wpM_q ?_
    simp only [pk, List.getElem?_cons_zero, List.getElem?_cons_succ]
    repeat (go_big_quiet_step (fail))
    refine wpQuiet_nil ?_
    clear hq a1
    refine wpM_e _ rfl (fun x hx => ?_)
    have hsx := x.below.size
    have O2 := Lib.hid (O1.out.below x.below (Nat.le_refl _))
    have D2 := Lib.hid (onto D1.out (by omega) x.below)
    have E2 := Lib.hid (zC x.below E1.out)
    have F2 := Lib.hid (zC x.below F1.out)
    have G2 := Lib.hid (Sl.of_row (zC x.below G1.out) x.val.heap.size (zK (zC x.below G1.out)))
    clear O1 D1 E1 F1 G1 hx
    obtain ⟨Y2, hY2⟩ : ∃ Y2, Y2 = x.val := ⟨_, rfl⟩
    rw [← hY2] at hsx O2 D2 E2 F2 G2 ⊢
    clear hY2
    go_wp2_with (at_builtin; refine yN rfl (.tmp 48) (.tmp 49) rfl zZ yG O2.out G2.out (by omega) (by omega) rfl rfl ?_; intro v9 w9 ho9 hg9 ht9)
    have hs9 := hg9.size
    have D3 := Lib.hid (O2.out.after hg9 D2.out (by omega) (by omega))
    have F3 := Lib.hid (grown_row hg9 F2.out (fun e => by have := (O2.out.lt e).1; omega))
    have E3 := Lib.hid (grown_row hg9 E2.out (fun e => by have := (O2.out.lt e).1; omega))
    have O3 := Lib.hid ho9
    obtain ⟨A9, c9, hv9, hsl9, -, -⟩ := ho9.sl
    refine yD (C := fun y => row y w.heap.size = some (tbA (.slice AK 64 cK) iF)) [w.heap.size + 1] ((Frm.app hg9).more (fun k hk => by simp at hk; simp [hk])) (fun k hk => by
     obtain rfl := List.mem_singleton.1 hk
     exact ⟨.inl (by simp), zK E3.out⟩) F3.out (fun y z h => zI h z) ?_
    rw [hv9]
    have HSL9 := Lib.hid hsl9
    clear ho9 hg9 ht9 hv9 hsl9 O2 D2 E2 F2 G2 O3
    refine wpM_e _ rfl (fun x2 hx2 => ?_)
    have hsx2 := x2.below.size
    have D4 := Lib.hid (onto D3.out (by omega) x2.below)
    have E4 := Lib.hid (zC x2.below E3.out)
    have F4 := Lib.hid (zC x2.below F3.out)
    have L4 := Lib.hid ((HSL9.out.below x2.below).more hsx2)
    have K4 := Lib.hid ((HK.out.below D4.out).more (by omega : w.heap.size ≤ x2.val.heap.size))
    clear D3 E3 F3 HSL9 hx2
    obtain ⟨Y4, hY4⟩ : ∃ Y4, Y4 = x2.val := ⟨_, rfl⟩
    rw [← hY4] at hsx2 D4 E4 F4 L4 K4 ⊢
    clear hY4
    go_wp2_with fail
    refine (rsum_any (catF 64 (mskF (keyF k n) 92#8) S) (64 + 32) c9 cK A9 AK Y4 L4.out (by omega) K4.out).mono ?_
    rintro e w5 ⟨rfl, hb5⟩
    rw [show shaF kF iF (catF 64 (mskF (keyF k n) 92#8) S) (64 + 32) = macF k n b m by rw [hHS.out]; rfl]
    have hs5' := hb5.size
    have D5 := Lib.hid (onto D4.out (by omega) hb5)
    have E5 := Lib.hid (zC hb5 E4.out)
    have F5 := Lib.hid (zC hb5 F4.out)
    have HFR := Lib.hid (Frm.of (hot := [w.heap.size + 1]) hb5)
    clear hb5 D4 E4 F4 L4 K4
    go_wp2_with fail
    refine yD (C := fun y => row y w.heap.size = some (tbA (.slice AK 64 cK) iF)) [w.heap.size + 1] HFR.out (fun k hk => by
     obtain rfl := List.mem_singleton.1 hk
     exact ⟨.inl (by simp), zK E5.out⟩) F5.out (fun y z h => zI h z) ?_
    clear HFR
    refine wpM_e _ rfl (fun x5 hx5 => ?_)
    have hsx5 := x5.below.size
    have D6 := Lib.hid (onto D5.out (by omega) x5.below)
    have e6 := zC x5.below E5.out
    have F6 := Lib.hid (zC x5.below F5.out)
    clear D5 E5 F5 hx5
    obtain ⟨Y6, hY6⟩ : ∃ Y6, Y6 = x5.val := ⟨_, rfl⟩
    rw [← hY6] at hsx5 D6 e6 F6 ⊢
    clear hY6
    go_wp2_with fail
    have D7 := Lib.hid (zE D6.out (by omega : w.heap.size ≤ w.heap.size + 1) (ba 32 (macF k n b m)))
    have E7 := Lib.hid (zD e6 (ba 32 (macF k n b m)))
    refine yD (C := fun y => row y w.heap.size = some (tbA (.slice AK 64 cK) iF)) [] (Frm.row Y6 _ (by simp)) hot_none (by rw [zB _ _ _ _ (by omega)]; exact F6.out) (fun y z h => zI h z) ?_
    clear D6 e6 F6
    refine wpM_nil (fun x8 => ?_)
    have D8 := Lib.hid (onto D7.out (by have := zK E7.out; omega) x8.below)
    have e8 := zC x8.below E7.out
    go_wp2_with fail
    refine bodyPost_ret (v := .agg (ba 32 (macF k n b m))) (zS rfl _ _ (w.heap.size + 1) _ _ _ rfl e8 sum_u (by rw [zG]; exact sum_i)) rfl ⟨rfl, D8.out⟩
def stJ (s : St) (b : Bf) (n : Nat) : Nat → St
 | 0 => s
 | j + 1 => mixS (stJ s b n j) (BitVec.ofNat 8 j) b n
theorem upd_stJ0 (s : St) (b : Bf) : updS s b 0 = stJ s b 0 1 := by unfold updS; rw [if_pos rfl]; rfl
theorem upd_stJ (s : St) (b : Bf) {n : Nat} (hn : 0 < n) : updS s b n = stJ s b n 2 := by unfold updS; rw [if_neg (by omega)]; rfl
theorem slG_put {B D n c : Nat} {A : Option Addr} {V : Nat → Value} {x : Array Value} {w w' : World} (h : SlG w D A n c V) (hp : Put B x w w') (hD : D ≤ B) (hB : B < w.heap.size) : SlG w' D A n c V := h.below (hp.low hD (by omega))
def RC (B : Nat) (t : Value) (c : Int) (y : World) : Prop := ∃ k v : Bf, row y B = some (rscC t k v c)
theorem RC.of {B : Nat} {t : Value} {c : Int} {y : World} {k v : Bf} (h : row y B = some (rscC t k v c)) : RC B t c y := ⟨k, v, h⟩
theorem RC.alloc {B : Nat} {t : Value} {c : Int} {y : World} (h : RC B t c y) (z : Obj) : RC B t c (y.alloc z) := by obtain ⟨k, v, h⟩ := h; exact ⟨k, v, zI h z⟩
theorem rupd_any (s : St) (c : Int) (B : Nat) (b : Bf) (n cc cK : Nat) (A AK : Option Addr) (w : World) (hr : row w B = some (rscC (.slice AK 64 cK) s.1 s.2 c)) (hK : SlG w B AK 64 cK kV) (hs : Sl w w.heap.size A n cc b) (hn : n ≤ 70000) (ho : Off B n A) :
  Calls Tryz.prog 69 #[.pointer (some ⟨B, 0, none⟩), .slice A n cc] w fun e w' => e = .returned (.tuple #[]) ∧ Put B (rscC (.slice AK 64 cK) (updS s b n).1 (updS s b n).2 c) w w' := by
 have HR := Lib.hid hr
 have HK := Lib.hid hK
 have HS := Lib.hid hs
 have HO := Lib.hid ho
 have hBz := zK hr
 clear hr hK hs ho
 go_enter Tryz.func69, Tryz.ntmps69
 go_wp2_with fail
 go_loopw [4] (fun iv wr => ∃ j : Nat, j ≤ 2 ∧ (j = 2 → 0 < n) ∧ iv = .int .i64 j ∧ Put B (rscC (.slice AK 64 cK) (stJ s b n j).1 (stJ s b n j).2 c) w wr) (fun iv _ => 2 - (intOf iv).toNat)
 case atStart => exact ⟨0, by omega, by omega, rfl, Put.nil HR.out⟩
 case round =>
  obtain ⟨j, hj, hj2, rfl, hp⟩ := hrel
  have HJ2 := Lib.hid (show 1 < j → 0 < n from fun h => hj2 (by omega))
  clear hj2
  obtain ⟨wo, rfl⟩ : ∃ wo : World, wo = wr := ⟨_, rfl⟩
  have HP := Lib.hid hp
  clear hp
  have hzo := HP.out.size
  by_cases hlt : j < 2
  ·have hd : decide ((j : Int) < 2) = true := by simp; omega
   by_cases hend : j = 1 ∧ n = 0
   ·obtain ⟨rfl, rfl⟩ := hend
    go_wp2_with fail
    refine bodyPost_ret (v := .tuple #[]) (by simp [results, Tryz.results69, go_sem]) rfl ⟨rfl, ?_⟩
    rw [upd_stJ0]
    exact HP.out
   ·have R0 := Lib.hid (HP.out.row HR.out)
    have K0 := Lib.hid (slG_put HK.out HP.out (Nat.le_refl _) hBz)
    have S0 := Lib.hid (HP.out.sl HS.out (Nat.le_refl _) HO.out)
    have a1 := yZ B 9
    have a2 := yZ B 41
    obtain ⟨T, hT⟩ : ∃ T : St, T = stJ s b n j := ⟨_, rfl⟩
    rw [← hT] at R0
    have HTT := Lib.hid hT
    clear hT
    have HCV := Lib.hid (show ((j : Int) % 256) = I (BitVec.ofNat 8 j) from I_ofN j)
    rcases Nat.eq_zero_or_pos j with h0 | h1
    case' inl =>
     have hd1 : ((j : Int) == 1) = false := by simp; omega
     clear h0
    case' inr =>
     have hd1 : ((j : Int) == 1) = true := by simp; omega
     have hd2 : ((n : Int) == 0) = false := by simp; omega
     clear h1
    all_goals
     go_wp2_with fail
     refine flow_many [.inl [0, 1, 2, 3, 4, 5, 6, 7, 8, 10, 11, 12, 13, 15, 16, 19], pS 9, pS 17, pU 9, pE 14, pU 17, pE 18, pE 20, pE 21, .inl [22, 23], pE 24] (RC B (.slice AK 64 cK) c) [B] (by kernel_rfl) (by kernel_rfl) (fun _ _ _ _ _ h => h) (fun _ _ _ _ _ h => h) (fun y z h => h.alloc z) (RC.of (by rw [zQ]; exact R0.out)) (fun k hk => by simp at hk; omega) ?_
     have bw := zL (Below.refl wo.heap.size wo) 1
     have hz1 : (wo.drewN 1).heap.size = wo.heap.size := rfl
     obtain ⟨W1, hW1⟩ : ∃ W1, W1 = wo.drewN 1 := ⟨_, rfl⟩
     rw [← hW1] at bw hz1 ⊢
     clear hW1
     have BW := Lib.hid bw
     clear bw
     have hq : ∀ x : In (RC B (.slice AK 64 cK) c), ldR Tryz.prog 138 9 x.val B 0 (row x.val B) = .ok (.agg (tbA (.slice AK 64 cK) iF)) x.val := fun x => by obtain ⟨k, v, h⟩ := x.ok; rw [h]; exact rsc_ldt _ _ _ _ _ _ _ _
     have hne : Nonempty (In (RC B (.slice AK 64 cK) c)) := ⟨⟨wo, RC.of R0.out⟩⟩
     have hcv := HCV.out
     refine wpM_q ?_
     simp only [pk, List.getElem?_cons_zero, List.getElem?_cons_succ]
     repeat (go_big_quiet_step (fail))
     refine wpQuiet_nil ?_
     clear hq hcv a1 a2
     have HCE := Lib.hid (show (j : Int) = I (BitVec.ofNat 8 j) by rw [← HCV.out]; omega)
     clear hne HCV hd1
     refine wpM_s (fun p => .slice (some ⟨p, 0, none⟩) 0 0) (.cells #[] 5) _ rfl rfl (fun w => ex_bs0 _ rfl w) ?_
     refine wpM_s (fun p => .slice (some ⟨p, 0, none⟩) 1 1) (.cells #[.int .u8 (j : Int)] 5) _ rfl rfl (fun w => ex_bs1 _ (.tmp 32) rfl _ rfl w) ?_
     refine wpM_u _ _ _ 25 (.tail _ (.head _)) rfl rfl (fun x0 hx0 p hp1' hp2 hp3 hp4 => ?_)
     refine wpM_e _ rfl (fun x hx => ?_)
     have hs0 := x0.below.size
     have hsx := x.below.size
     have B1 := Lib.hid (onto (onto BW.out (by omega) x0.below) (by omega) x.below)
     have O1 := Lib.hid (show Own x.val wo.heap.size 5 (.slice (some ⟨p, 0, none⟩) 0 0) 0 nF from own_new (by rw [x.below.block p hp2]; exact hp4) hp1')
     have rv1 := zC B1.out R0.out
     have L1 := Lib.hid (rsc_slv rv1 x.val.heap.size (zK rv1))
     clear hx0 hx hp3 hp4 BW rv1
     obtain ⟨X1, hX1⟩ : ∃ X1, X1 = x.val := ⟨_, rfl⟩
     rw [← hX1] at hsx B1 O1 L1 ⊢
     clear hX1
     go_wp2_with (at_builtin; refine yN rfl (.tmp 25) (.tmp 29) rfl zZ yG O1.out L1.out (by omega) (by omega) rfl rfl ?_; intro v2 w2 ho2 hg2 ht2)
     rw [xF, Nat.zero_add] at ho2
     have hs2 := hg2.size
     have B2 := Lib.hid (O1.out.after hg2 B1.out (by omega) (Nat.le_refl _))
     have O2 := Lib.hid ho2
     refine yD (C := RC B (.slice AK 64 cK) c) (B :: v2.ownBlock.toList) ((Frm.app hg2).more (fun k hk => by simp [Value.ownBlock] at hk; simp [hk])) (hot_cons (by simp) (by omega) (hot_app ho2 ht2 (fun k hk => by simp [Value.ownBlock] at hk; simp [hk]))) (RC.of (zC B2.out R0.out)) (fun y z h => h.alloc z) ?_
     clear ho2 hg2 ht2 O1 L1 B1
     refine wpM_u _ _ _ 33 (.head _) rfl rfl (fun x0 hx0 p hp1' hp2 hp3 hp4 => ?_)
     refine wpM_e _ rfl (fun x hx => ?_)
     have hs0 := x0.below.size
     have hsx := x.below.size
     have B5 := Lib.hid (onto (onto B2.out (by omega) x0.below) (by omega) x.below)
     have O5 := Lib.hid (O2.out.below (onto x0.below x0.below.size x.below) (Nat.le_refl _))
     have N5 := Lib.hid (sl_new (x := x.val) (p := p) (u := 5) (v := BitVec.ofNat 8 j) (by rw [x.below.block p hp2, hp4, HCE.out]))
     have P3 := Lib.hid hp3
     clear hx0 hx hp4 B2 O2 hp3
     obtain ⟨X5, hX5⟩ : ∃ X5, X5 = x.val := ⟨_, rfl⟩
     rw [← hX5] at hsx B5 O5 N5 ⊢
     clear hX5
     go_wp2_with (at_builtin; refine yN rfl (.tmp 30) (.tmp 33) rfl zZ yG O5.out N5.out (by omega) (by omega) rfl rfl ?_; intro v6 w6 ho6 hg6 ht6)
     have hs6 := hg6.size
     have B6 := Lib.hid (O5.out.after hg6 B5.out (by omega) (Nat.le_refl _))
     have O6 := Lib.hid ho6
     refine yD (C := RC B (.slice AK 64 cK) c) (B :: v6.ownBlock.toList) ((Frm.app hg6).more (fun k hk => .tail _ (.tail _ hk))) (hot_cons (.tail _ (.head _)) (by omega) (hot_app ho6 ht6 (fun k hk => .tail _ (.tail _ (show k ∈ v2.ownBlock.toList by simpa using hk))))) (RC.of (zC B6.out R0.out)) (fun y z h => h.alloc z) ?_
     clear ho6 hg6 ht6 O5 N5 B5
     refine wpM_e _ rfl (fun x hx => ?_)
     have hsx9 := x.below.size
     have B9 := Lib.hid (onto B6.out (by omega) x.below)
     have O9 := Lib.hid (O6.out.below x.below (Nat.le_refl _))
     have I9 := Lib.hid (S0.out.below (B9.out.mono hzo))
     clear hx B6 O6
     obtain ⟨X9, hX9⟩ : ∃ X9, X9 = x.val := ⟨_, rfl⟩
     rw [← hX9] at hsx9 B9 O9 I9 ⊢
     clear hX9
     go_wp2_with (at_builtin; refine yN rfl (.tmp 34) (.tmp 35) rfl zZ yG O9.out I9.out (by omega) (by omega) rfl rfl ?_; intro v10 w10 ho10 hg10 ht10)
     have hs10 := hg10.size
     have B10 := Lib.hid (O9.out.after hg10 B9.out (by omega) (Nat.le_refl _))
     have O10 := Lib.hid (show Own w10 wo.heap.size 5 v10 (32 + 1 + n) (mixT T (BitVec.ofNat 8 j) b) from ho10)
     refine yD (C := RC B (.slice AK 64 cK) c) (B :: v10.ownBlock.toList) ((Frm.app hg10).more (fun k hk => .tail _ hk)) (hot_cons (.head _) (by omega) (hot_app ho10 ht10 (fun k hk => List.mem_cons_of_mem _ (by simpa using hk)))) (RC.of (zC B10.out R0.out)) (fun y z h => h.alloc z) ?_
     clear ho10 hg10 ht10 O9 I9 B9
     refine wpM_e _ rfl (fun x hx => ?_)
     have hsx11 := x.below.size
     have B11 := Lib.hid (onto B10.out (by omega) x.below)
     have O11 := Lib.hid (O10.out.below x.below (Nat.le_refl _))
     have rk11 := zC B11.out R0.out
     have K11 := Lib.hid (rsc_slk rk11 x.val.heap.size (zK rk11))
     have T11 := Lib.hid ((K0.out.below (B11.out.mono (by omega))).more (show B ≤ x.val.heap.size by omega))
     clear hx B10 O10 rk11
     obtain ⟨X11, hX11⟩ : ∃ X11, X11 = x.val := ⟨_, rfl⟩
     rw [← hX11] at hsx11 B11 O11 K11 T11 ⊢
     clear hX11
     obtain ⟨A12, c12, hv12, hsl12, -, -⟩ := O11.out.sl
     obtain ⟨H12, hH12⟩ : ∃ H12, H12 = v10.ownBlock.toList := ⟨_, rfl⟩
     rw [← hH12] at ⊢
     rw [hv12]
     have L12 := Lib.hid hsl12
     clear hsl12 O11 hv12 hH12
     go_wp2_with fail
     refine (rsums_any T.1 _ 32 _ 32 c12 cK _ A12 AK X11 K11.out L12.out (by omega) (by omega) T11.out).mono ?_
     rintro e w12 ⟨rfl, hb12⟩
     obtain ⟨KN, hKN⟩ : ∃ KN, KN = macF T.1 32 (mixT T (BitVec.ofNat 8 j) b) (32 + 1 + n) := ⟨_, rfl⟩
     rw [← hKN]
     have HKN := Lib.hid hKN
     have hs12 := hb12.size
     have B12 := Lib.hid (onto B11.out (by omega) hb12)
     have FR12 := Lib.hid (Frm.of (hot := B :: H12) hb12)
     have HH12 := Lib.hid (hot_cons (q := B) (l := []) (hot := B :: H12) (x := X11) (w'' := w12) (.head _) (by omega) hot_none)
     clear hb12 hKN B11 K11 T11 L12
     go_wp2_with fail
     refine yD (C := RC B (.slice AK 64 cK) c) [B] FR12.out HH12.out (RC.of (zC B12.out R0.out)) (fun y z h => h.alloc z) ?_
     clear FR12 HH12
     have hne : Nonempty (In (RC B (.slice AK 64 cK) c)) := ⟨⟨wo, RC.of R0.out⟩⟩
     refine wpM_q ?_
     simp only [pk, List.getElem?_cons_zero, List.getElem?_cons_succ]
     repeat (go_big_quiet_step (fail))
     refine wpQuiet_nil ?_
     clear hne
     refine wpM_e _ rfl (fun x hx => ?_)
     have B13 := Lib.hid (onto B12.out (by omega) x.below)
     have rp := zC B13.out R0.out
     clear hx B12
     obtain ⟨X13, hX13⟩ : ∃ X13, X13 = x.val := ⟨_, rfl⟩
     rw [← hX13] at rp B13 ⊢
     clear hX13
     have z13 := B13.out.size
     go_wp2_with fail
     have P14 := Lib.hid (show Put B (rscC (.slice AK 64 cK) KN T.2 c) w (X13.setRow B (rscC (.slice AK 64 cK) KN T.2 c)) from HP.out.then HR.out (Put.of B13.out (by omega) _))
     refine yD (C := RC B (.slice AK 64 cK) c) [] (Frm.row X13 _ (by simp)) hot_none (RC.of (zD rp _)) (fun y z h => h.alloc z) ?_
     clear rp B13
     refine wpM_nil (fun x => ?_)
     have P20 := Lib.hid (P14.out.calm x.below)
     clear P14 K0 S0 R0
     obtain ⟨y0, hy0⟩ : ∃ y0, y0 = x.val := ⟨_, rfl⟩
     rw [← hy0] at P20 ⊢
     clear hy0
     clear hs0 hs2 hs6 hs10 hs12 hsx hsx9 hsx11 hp2 P3 hz1 z13
     have a1 := yZ B 9
     have a2 := yZ B 41
     go_wp2_with fail
     refine yL [([0, 1, 2, 3, 4, 5, 6, 7, 8, 9, 10, 11, 12], 13, false), ([14, 15], 16, true)] [] (by kernel_rfl) (by kernel_rfl) (fun _ _ _ _ _ h => h) fun X => ?_
     have P21 := Lib.hid (P20.out.calm X.below)
     clear P20
     obtain ⟨y1, hy1⟩ : ∃ y1, y1 = X.val := ⟨_, rfl⟩
     rw [← hy1] at P21 ⊢
     clear hy1 X
     have r21 := P21.out.row HR.out
     have R21 := Lib.hid r21
     have q0 := After.row r21
     clear r21
     simp only [wpFs, pk, List.getElem?_cons_zero, List.getElem?_cons_succ]
     repeat (go_big_quiet_step (fail))
     refine wpQuiet_nil ?_
     clear q0
     have K21 := Lib.hid ((slG_put HK.out P21.out (Nat.le_refl _) hBz).more (show B ≤ y1.heap.size by have := zK R21.out; omega))
     have hyz := zK R21.out
     go_wp2_with fail
     refine (rsums_any KN T.2 32 32 32 32 cK _ _ AK y1 (rsc_slk R21.out _ hyz) (rsc_slv R21.out _ hyz) (by omega) (by omega) K21.out).mono ?_
     rintro e y2 ⟨rfl, hb2⟩
     go_wp2_with fail
     refine ⟨.inr hb2, ?_⟩
     have r22 := zC hb2 R21.out
     have B22 := Lib.hid hb2
     clear hb2 K21 R21
     have q0 := After.row r22
     show wpQuiet _ _ _ _ _ _
     repeat (go_big_quiet_step (fail))
     refine wpQuiet_nil ?_
     clear q0
     go_wp2_with fail
     refine ⟨.inl trivial, ?_⟩
     show wpQuiet _ _ _ _ _ _
     refine wpQuiet_nil ?_
     have P23 := Lib.hid (P21.out.then HR.out (Put.of B22.out hyz (rscC (.slice AK 64 cK) KN (macF KN 32 T.2 32) c)))
     have HE := Lib.hid (show stJ s b n (j + 1) = (KN, macF KN 32 T.2 32) by rw [HKN.out, HTT.out]; rfl)
     clear r22 B22 P21
     go_wp2_with fail
     go_roundw
     case rel => exact ⟨j + 1, by omega, by omega, by go_num, by rw [HE.out]; exact P23.out⟩
     case measure => simp [intOf]; omega
  ·obtain rfl : j = 2 := by omega
   have hd : decide (((2 : Nat) : Int) < 2) = false := by decide
   go_wp2_with fail
   go_end0
   refine ⟨rfl, ?_⟩
   rw [upd_stJ s b (HJ2.out (by omega))]
   exact HP.out
theorem rreseed_any (s : St) (c : Int) (B : Nat) (b : Bf) (n cc cK : Nat) (A AK : Option Addr) (w : World) (hr : row w B = some (rscC (.slice AK 64 cK) s.1 s.2 c)) (hK : SlG w B AK 64 cK kV) (hs : Sl w w.heap.size A n cc b) (hn : n ≤ 70000) (ho : Off B n A) :
  Calls Tryz.prog 26 #[.pointer (some ⟨B, 0, none⟩), .slice A n cc] w fun e w' => e = .returned (.tuple #[]) ∧ Put B (rscC (.slice AK 64 cK) (updS s b n).1 (updS s b n).2 1) w w' := by
 have HR := Lib.hid hr
 have H0 := Lib.hid (rupd_any s c B b n cc cK A AK w hr hK hs hn ho)
 clear hr hK hs ho
 go_enter Tryz.func26, Tryz.ntmps26
 go_wp2_with fail
 refine H0.out.mono ?_
 rintro e w1 ⟨rfl, hp1⟩
 have P1 := Lib.hid hp1
 have r1 := hp1.row HR.out
 have hc := rsc_cell r1
 have hf := zW r1 73
 clear H0 hp1
 go_wp2_with fail
 go_end0
 refine ⟨rfl, ?_⟩
 rw [rsc_set r1]
 exact P1.out.then HR.out (Put.of (Below.refl _ _) (zK r1) _)
theorem Own.off {w : World} {base B n c : Nat} {u : TypeId} {A : Option Addr} {f : Bf} (h : Own w base u (.slice A n c) n f) (hB : B < base) (k : Nat) : Off B k A := fun _ a ha e => by
 obtain ⟨A', c', e2, _, _, hA⟩ := h.sl
 cases e2
 rcases hA with rfl | ⟨g, rfl, hg⟩
 ·cases ha
 ·obtain rfl := Option.some.inj ha
  simp only at e
  omega
theorem Put.calm' {B D : Nat} {c : Array Value} {w w' w2 : World} (h : Put B c w w') (h2 : Below D w' w2) (hD : w.heap.size ≤ D) : Put B c w w2 := Below.trans h (h2.mono hD)
theorem rdraw_new (s : St) (B n m cc cK : Nat) (A AK : Option Addr) (b : Bf) (c : Int) (w : World) (hr : row w B = some (rscC (.slice AK 64 cK) s.1 s.2 c)) (hK : SlG w B AK 64 cK kV) (hs : Sl w w.heap.size A m cc b) (hm : m ≤ 70000) (ho : Off B m A) (hn : n ≤ 256) (hc : c ≤ 1048576) (hc0 : -9223372036854775808 ≤ c) :
  Calls Tryz.prog 25 #[.pointer (some ⟨B, 0, none⟩), .int .i64 n, .slice A m cc] w fun e w' => ∃ A9 c9, e = .returned (.tuple #[.slice A9 n c9, .int .i64 0]) ∧ Sl w' w'.heap.size A9 n c9 (drwF s b m) ∧ c9 ≤ maxLen ∧ Put B (rscC (.slice AK 64 cK) (drwS s n b m).1 (drwS s n b m).2 (c + 1)) w w' ∧ ∀ a, A9 = some a → w.heap.size ≤ a.block := by
 have HR := Lib.hid hr
 have HK := Lib.hid hK
 have HS := Lib.hid hs
 have HO := Lib.hid ho
 have hcl := rsc_cell hr
 have hBz := zK hr
 have hd : decide ((n : Int) < 0) = false := by simp
 have hd2 : decide (256 < (n : Int)) = false := by simp; omega
 have hd3 : decide (1048576 < c) = false := by simp; omega
 clear hr hK hs ho
 obtain ⟨t, ht⟩ : ∃ t : St, t = if m = 0 then s else updS s b m := ⟨_, rfl⟩
 have HTT := Lib.hid ht
 clear ht
 go_enter Tryz.func25, Tryz.ntmps25
 by_cases h0 : m = 0
 case' pos =>
  have hd4 : decide ((0 : Int) < (m : Int)) = false := by simp; omega
  have P0 := Lib.hid (show Put B (rscC (.slice AK 64 cK) t.1 t.2 c) w w by rw [HTT.out, if_pos h0]; exact Put.nil HR.out)
  have HD := Lib.hid h0
  go_wp2_with fail
  obtain ⟨w1, hw1⟩ : ∃ w1, w1 = w := ⟨_, rfl⟩
  have P1 := Lib.hid (show Put B (rscC (.slice AK 64 cK) t.1 t.2 c) w w1 by rw [hw1]; exact P0.out)
  rw [← hw1]
  clear P0 hw1
 case' neg =>
  have hd4 : decide ((0 : Int) < (m : Int)) = true := by simp; omega
  have HD := Lib.hid h0
  have H0 := Lib.hid (rupd_any s c B b m cc cK A AK w HR.out HK.out HS.out hm HO.out)
  go_wp2_with fail
  refine H0.out.mono ?_
  rintro e w1 ⟨rfl, hp1⟩
  have P1 := Lib.hid (show Put B (rscC (.slice AK 64 cK) t.1 t.2 c) w w1 by rw [HTT.out, if_neg h0]; exact hp1)
  clear H0 hp1
  go_wp2_with fail
 all_goals
  clear HD hd4 h0 hd hd2 hd3 hcl
  have z1 := P1.out.size
  have J0 := Lib.hid (show Put B (rscC (.slice AK 64 cK) t.1 (vsF t 0) c) w (w1.alloc (.cells #[] 5)) from P1.out.calm ((Below.refl _ _).alloc (Nat.le_refl _) _))
  have O0 := Lib.hid (show Own (w1.alloc (.cells #[] 5)) w1.heap.size 5 (.slice (some ⟨w1.heap.size, 0, none⟩) 0 0) (32 * 0) (drF t) from Own.empty w1 w1.heap.size 5 _ (Nat.le_refl _))
  have Z0 := Lib.hid (show w1.heap.size ≤ (w1.alloc (.cells #[] 5)).heap.size by simp)
  clear P1
  go_loopw [8] (fun ov wr => ∃ j : Nat, 32 * j < n + 32 ∧ Own wr w1.heap.size 5 ov (32 * j) (drF t) ∧ Put B (rscC (.slice AK 64 cK) t.1 (vsF t j) c) w wr ∧ w1.heap.size ≤ wr.heap.size) (fun ov _ => n + 32 - slN ov)
  case' atStart => exact ⟨0, by omega, O0.out, J0.out, Z0.out⟩
  case' round =>
   clear J0 O0 Z0
   obtain ⟨j, hj, ho, hJ, hz⟩ := hrel
   obtain ⟨wo, rfl⟩ : ∃ wo : World, wo = wr := ⟨_, rfl⟩
   obtain ⟨Ao, co, hvo, hslo, hco, -⟩ := ho.sl
   subst hvo
   have HOW := Lib.hid ho
   have HSO := Lib.hid hslo
   have HJ := Lib.hid hJ
   have hoc := hslo.le
   unfold maxLen at hco
   clear ho hslo hJ
   obtain ⟨F, hF⟩ : ∃ F, F = 32 * j := ⟨_, rfl⟩
   rw [← hF] at HOW HSO hoc ⊢
   have HF := Lib.hid hF
   by_cases hlt : F < n
   ·have hd : decide ((F : Int) < (n : Int)) = true := by simp; omega
    have hFl : F ≤ 256 := by omega
    have a1 := yZ B 9
    have a2 := yZ B 41
    clear hF
    go_wp2_with fail
    refine yL [([0, 1, 2, 3, 4, 5, 6, 7, 8, 9, 10, 11, 12], 13, false), ([14, 15], 16, true)] [] (by kernel_rfl) (by kernel_rfl) (fun _ _ _ _ _ h => h) fun X => ?_
    have P21 := Lib.hid (HJ.out.calm X.below)
    have O21 := Lib.hid (HOW.out.below X.below (Nat.le_refl _))
    have z21 := X.below.size
    clear HJ HOW HSO
    obtain ⟨y1, hy1⟩ : ∃ y1, y1 = X.val := ⟨_, rfl⟩
    rw [← hy1] at P21 O21 z21 ⊢
    clear hy1 X
    have r21 := P21.out.row HR.out
    have R21 := Lib.hid r21
    have q0 := After.row r21
    clear r21
    simp only [wpFs, pk, List.getElem?_cons_zero, List.getElem?_cons_succ]
    repeat (go_big_quiet_step (fail))
    refine wpQuiet_nil ?_
    clear q0
    have hyz := zK R21.out
    have K21 := Lib.hid ((slG_put HK.out P21.out (Nat.le_refl _) hBz).more (show B ≤ y1.heap.size by omega))
    go_wp2_with fail
    refine (rsums_any t.1 (vsF t j) 32 32 32 32 cK _ _ AK y1 (rsc_slk R21.out _ hyz) (rsc_slv R21.out _ hyz) (by omega) (by omega) K21.out).mono ?_
    rintro e y2 ⟨rfl, hb2⟩
    obtain ⟨S, hS⟩ : ∃ S, S = vsF t (j + 1) := ⟨_, rfl⟩
    rw [show macF t.1 32 (vsF t j) 32 = S by rw [hS]; rfl]
    have HSS := Lib.hid hS
    clear hS
    go_wp2_with fail
    refine ⟨.inr hb2, ?_⟩
    have r22 := zC hb2 R21.out
    have B22 := Lib.hid hb2
    have O22 := Lib.hid (O21.out.below hb2 (Nat.le_refl _))
    have z22 := hb2.size
    clear hb2 K21 R21 O21
    have q0 := After.row r22
    show wpQuiet _ _ _ _ _ _
    repeat (go_big_quiet_step (fail))
    refine wpQuiet_nil ?_
    clear q0
    go_wp2_with fail
    refine ⟨.inl trivial, ?_⟩
    show wpQuiet _ _ _ _ _ _
    refine wpQuiet_nil ?_
    have P23 := Lib.hid (P21.out.then HR.out (Put.of B22.out hyz (rscC (.slice AK 64 cK) t.1 S c)))
    have O23 := Lib.hid (O22.out.setRow B (fun e => by have := (O22.out.lt e).1; omega) (rscC (.slice AK 64 cK) t.1 S c))
    have z23 : (y2.setRow B (rscC (.slice AK 64 cK) t.1 S c)).heap.size = y2.heap.size := by simp
    obtain ⟨y3, hy3⟩ : ∃ y3, y3 = y2.setRow B (rscC (.slice AK 64 cK) t.1 S c) := ⟨_, rfl⟩
    rw [← hy3] at P23 O23 z23 ⊢
    clear hy3 r22 B22 P21 O22
    have N23 := Lib.hid (rsc_slv (P23.out.row HR.out) y3.heap.size (by omega))
    have HB23 := Lib.hid (show w1.heap.size ≤ y3.heap.size by omega)
    go_wp2_with (at_builtin; refine yN rfl (.tmp 47) (.tmp 51) rfl zZ yG O23.out N23.out (by omega) HB23.out rfl rfl ?_; intro v8 w8 ho8 hg8 ht8)
    have hz8 := hg8.size
    have J8 := Lib.hid (show Put B (rscC (.slice AK 64 cK) t.1 (vsF t (j + 1)) c) w w8 by rw [← HSS.out]; exact P23.out.calm' (O23.out.after hg8 (Below.refl w1.heap.size _) HB23.out (Nat.le_refl _)) z1)
    have O8 := Lib.hid (show Own w8 w1.heap.size 5 v8 (32 * (j + 1)) (drF t) by
     rw [show 32 * (j + 1) = F + 32 by have := HF.out; omega]
     refine ho8.congr fun i hi => ?_
     have hFe := HF.out
     unfold catF
     by_cases h : i < F
     ·rw [if_pos h]
     ·rw [if_neg h, HSS.out]
      unfold drF
      rw [show i / 32 = j by omega, show i % 32 = i - F by omega])
    obtain ⟨A13, c13, hv13, -, -, -⟩ := O8.out.sl
    have HV13 := Lib.hid hv13
    clear ho8 hg8 ht8 hv13 O23 N23 P23
    go_roundw
    case rel => exact ⟨j + 1, by have := HF.out; omega, O8.out, J8.out, by omega⟩
    case measure =>
     rw [HV13.out]
     have := HF.out
     simp only [slN]
     omega
   ·have hd : decide ((F : Int) < (n : Int)) = false := by simp; omega
    have HJN := Lib.hid (show j = nV n by have := HF.out; unfold nV; omega)
    have hup := run_upto zZ u8_i Ao F co n (by omega)
    have P5 := Lib.hid (show Put B (rscC (.slice AK 64 cK) t.1 (vsF t (nV n)) c) w wo by rw [← HJN.out]; exact HJ.out)
    have H3 := Lib.hid (rupd_any (t.1, vsF t (nV n)) c B b m cc cK A AK wo (P5.out.row HR.out) (slG_put HK.out P5.out (Nat.le_refl _) hBz) ((P5.out.sl HS.out (Nat.le_refl _) HO.out).more (by omega)) hm HO.out)
    clear hF HJ
    go_wp2_with fail
    refine H3.out.mono ?_
    rintro e w3 ⟨rfl, hp3⟩
    have P6 := Lib.hid (P5.out.then HR.out hp3)
    have r6 := P6.out.row HR.out
    have OF := Lib.hid (HOW.out.off (B := B) (by omega) n)
    have S6 := Lib.hid ((hp3.sl (HSO.out.upto n (by omega)) (Nat.le_refl _) OF.out).more hp3.size)
    have hcl := rsc_cell r6
    have hfz := zW r6 73
    have hwr : IntKind.i64.wrap (c + 1) = c + 1 := IntWalk.i64_in _ (by omega)
    clear hp3 H3 P5
    go_wp2_with fail
    rw [rsc_set r6]
    have P7 := Lib.hid (P6.out.then HR.out (Put.of (Below.refl _ _) (zK r6) (rscC (.slice AK 64 cK) (updS (t.1, vsF t (nV n)) b m).1 (updS (t.1, vsF t (nV n)) b m).2 (c + 1))))
    have S7 := Lib.hid ((Put.of (Below.refl _ _) (zK r6) (rscC (.slice AK 64 cK) (updS (t.1, vsF t (nV n)) b m).1 (updS (t.1, vsF t (nV n)) b m).2 (c + 1))).sl S6.out (Nat.le_refl _) OF.out)
    refine bodyPost_ret (v := .tuple #[.slice Ao n co, .int .i64 0]) (by simp [results, Tryz.results25, go_sem]) rfl ⟨Ao, co, rfl, ?_, by unfold maxLen; omega, ?_, fun a ha => ?_⟩
    ·have e : drwF s b m = drF t := by unfold drwF; rw [← HTT.out]
     rw [e]
     simpa using S7.out
    ·unfold drwS
     rw [← HTT.out]
     exact P7.out
    ·obtain ⟨A7, c7, e7, -, -, h7⟩ := HOW.out.sl
     cases e7
     rcases h7 with h7 | ⟨g7, h7, h8⟩
     ·rw [h7] at ha; cases ha
     ·rw [h7] at ha; cases ha; show _ ≤ g7; omega
theorem make_new (w : World) :
  Calls Tryz.prog 68 #[] w fun e w' => ∃ A c, e = .returned (.agg (tbA (.slice A 64 c) iF)) ∧ SlG w' w'.heap.size A 64 c kV ∧ Below w.heap.size w w' ∧ ∀ a, A = some a → w.heap.size ≤ a.block := by
 have B0 := Lib.hid ((Below.refl w.heap.size w).alloc (by simp) (.cells (tbA (.slice none 0 0) fun _ => 0#32) 138))
 have q0 : row (w.alloc (.cells (tbA (.slice none 0 0) fun _ => 0#32) 138)) w.heap.size = some (tbA (.slice none 0 0) fun _ => 0#32) := by simp [go_sem]
 go_enter Tryz.func68, Tryz.ntmps68
 go_wp2_with fail
 refine (thirds_any _).mono ?_
 rintro e w1 ⟨g, c, cur, rfl, hg, hc, hr, hcu, hb1⟩
 have r1 := zC hb1 q0
 have B1 := Lib.hid (onto B0.out (by simp) hb1)
 have s1 : w.heap.size + 1 ≤ w1.heap.size := by have := hb1.size; simpa using this
 have HR := Lib.hid hr
 have HCU := Lib.hid hcu
 have hg2 : w.heap.size < g := by simp at hg; omega
 clear hr hcu hb1 q0 hg
 go_wp2_with fail
 refine (seconds_any _).mono ?_
 rintro e w2 ⟨rfl, hb2⟩
 have r2 := zC hb2 r1
 have B2 := Lib.hid (onto B1.out (by omega) hb2)
 have HR2 := Lib.hid (zC hb2 HR.out)
 clear hb2 r1
 have hlit := tab_lit (some (⟨g, 0, none⟩ : Addr)) 64 c iF
 go_wp2_with fail
 obtain ⟨t', ht'⟩ := xC (zD r2 (tbA (.slice (some ⟨g, 0, none⟩) 64 c) iF))
 obtain ⟨d, hu, hd⟩ := tab_u
 refine bodyPost_ret (v := .agg (tbA (.slice (some ⟨g, 0, none⟩) 64 c) iF)) (results_cell_row rfl _ _ w.heap.size _ _ _ d rfl ht' hu (by cases d <;> first | rfl | cases hd) (by rw [yH]; exact tab_i)) rfl ⟨_, c, rfl, ?_, ?_, fun a ha => by cases ha; exact Nat.le_of_lt hg2⟩
 ·have hrg : row (w2.setRow w.heap.size (tbA (.slice (some ⟨g, 0, none⟩) 64 c) iF)) g = some cur := by rw [zB _ _ _ _ (by omega)]; exact HR2.out
  exact slG_row hrg (zK hrg) hc HCU.out
 ·exact zE B2.out (by omega) _
theorem rnew_new (b : Bf) (n cc : Nat) (A : Option Addr) (w : World) (hs : Sl w w.heap.size A n cc b) (hn : n ≤ 70000) :
  Calls Tryz.prog 24 #[.slice A n cc] w fun e w' => ∃ g AK cK, e = .returned (.pointer (some ⟨g, 0, none⟩)) ∧ w.heap.size ≤ g ∧ row w' g = some (rscC (.slice AK 64 cK) (updS newS b n).1 (updS newS b n).2 1) ∧ SlG w' g AK 64 cK kV ∧ Below w.heap.size w w' ∧ ∀ a, AK = some a → w.heap.size ≤ a.block := by
 have HS := Lib.hid hs
 clear hs
 go_enter Tryz.func24, Tryz.ntmps24
 go_wp2_with fail
 refine (make_new _).mono ?_
 rintro e w1 ⟨AK, cK, rfl, hK, hb1, hAK⟩
 have HN := Lib.hid hAK
 have B1 := Lib.hid hb1
 have K1 := Lib.hid hK
 have z1 := hb1.size
 clear hK hb1 hAK
 go_wp2_with fail
 go_loopw [4] (fun iv wr => ∃ k : Nat, k ≤ 32 ∧ iv = .int .i64 k ∧ wr = w1.alloc (.cells (rscC (.slice AK 64 cK) (fun _ => 0#8) (upto k (fun _ => 1#8) fun _ => 0#8) 1) 141)) (fun iv _ => 32 - (intOf iv).toNat)
 case atStart => exact ⟨0, by omega, rfl, by rw [yI]⟩
 case round =>
  obtain ⟨k, hk, rfl, rfl⟩ := hrel
  have r0 : row (w1.alloc (.cells (rscC (.slice AK 64 cK) (fun _ => 0#8) (upto k (fun _ => 1#8) fun _ => 0#8) 1) 141)) w1.heap.size = some _ := zA _ _ _ _ rfl
  by_cases hlk : k < 32
  ·have hd : decide ((k : Int) < 32) = true := by simp; omega
   have hc := rsc_cellv r0 k hlk
   have hf := zW r0 (41 + k)
   have hst := rsc_setv (t := .slice AK 64 cK) (k := fun _ => 0#8) (v := upto k (fun _ => 1#8) fun _ => 0#8) (c := 1) k hlk 1#8
   rw [show upd (upto k (fun _ => 1#8) fun _ => 0#8) k 1#8 = upto (k + 1) (fun _ => 1#8) fun _ => 0#8 from yK k (fun _ => 1#8) fun _ => 0#8, show I 1#8 = 1 from rfl] at hst
   have HST := Lib.hid hst
   clear hst r0
   go_wp2_with fail
   go_roundw
   case rel => exact ⟨k + 1, by omega, by go_num, by rw [HST.out]⟩
   case measure => simp [intOf]; omega
  ·obtain rfl : k = 32 := by omega
   have hd : decide (((32 : Nat) : Int) < 32) = false := by decide
   have HV := Lib.hid (show rscC (.slice AK 64 cK) (fun _ => 0#8) (upto 32 (fun _ => 1#8) fun _ => 0#8) 1 = rscC (.slice AK 64 cK) newS.1 newS.2 1 by unfold rscC newS; rw [yP])
   rw [HV.out] at r0 ⊢
   have b2 : Below w1.heap.size w1 (w1.alloc (.cells (rscC (.slice AK 64 cK) newS.1 newS.2 1) 141)) := (Below.refl _ _).alloc (Nat.le_refl _) _
   obtain ⟨w2, hw2⟩ : ∃ w2, w2 = w1.alloc (.cells (rscC (.slice AK 64 cK) newS.1 newS.2 1) 141) := ⟨_, rfl⟩
   rw [← hw2] at r0 b2 ⊢
   clear hw2
   have R0 := Lib.hid r0
   have hsz := zK r0
   have B2 := Lib.hid (onto B1.out z1 b2)
   have K2 := Lib.hid (K1.out.below b2)
   have S2 := Lib.hid (HS.out.below B2.out)
   have H1 := Lib.hid (rupd_any newS 1 w1.heap.size b n cc cK A AK w2 r0 K2.out (S2.out.more (by omega)) hn (S2.out.off z1))
   clear r0 b2
   go_wp2_with fail
   refine H1.out.mono ?_
   rintro e w3 ⟨rfl, hp3⟩
   have R3 := Lib.hid (hp3.row R0.out)
   have K3 := Lib.hid (slG_put K2.out hp3 (Nat.le_refl _) hsz)
   have B3 := Lib.hid (B2.out.trans (hp3.low z1 (by omega)))
   clear hp3 H1
   go_wp2_with fail
   go_ret
   exact ⟨_, _, _, rfl, z1, R3.out, K3.out, B3.out, HN.out⟩
end Go.Proofs.YteffjpdcghlnlaaGreatDoor.Oct
