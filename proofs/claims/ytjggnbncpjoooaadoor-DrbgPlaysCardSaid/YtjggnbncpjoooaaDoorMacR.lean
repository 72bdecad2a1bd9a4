/- Contracts of the reference's Sums and Sum. -/
import Derived.Test.YtjggnbncpjoooaaDoorMacA
import Derived.Test.YtjggnbncpjoooaaDoorShaT
import Derived.Test.YtjggnbncpjoooaaDoorLib
namespace Go.Proofs.YtjggnbncpjoooaaDoor.Oct
open Go.ChangeShapes Go.WideShapes Go.ChangeAt Go.RowKit
set_option linter.unusedVariables false

theorem xor36 (a : BitVec 8) : bits .xor .u8 (I a) 54 = I (a ^^^ 54#8) := by rw [← I_xor]; rfl
theorem xor5c (a : BitVec 8) : bits .xor .u8 (I a) 92 = I (a ^^^ 92#8) := by rw [← I_xor]; rfl
theorem I_lit0 : (Value.int .u8 0) = .int .u8 (I 0#8) := rfl
/-- two rows are not one -/
def Two (v u : Value) : Prop := ∀ g, v.ownBlock = some g → u.ownBlock ≠ some g
/-- a byte more, behind a row of the call's own -/
theorem cat_step {f : Bf} {i : Nat} {x : BitVec 8} (hx : f i = x) (j : Nat) (hj : j < i + 1) : catF i f (fun _ => x) j = f j := by
  unfold catF
  by_cases h : j < i
  · rw [if_pos h]
  · rw [if_neg h, show j = i by omega, hx]

/-- what is known on the way through Sums, from where the key is short on -/
structure SsInv (w w1 : World) (tb : Array Value) (wr : World) : Prop where
  b0 : Below w.heap.size w wr
  b1 : Below w1.heap.size w1 wr
  rt : row wr w.heap.size = some tb
  r0 : row wr (w.heap.size + 1) = some (ba 32 fun _ => 0#8)
  s1 : w.heap.size + 2 ≤ w1.heap.size

theorem SsInv.app {w w1 wr w' : World} {tb : Array Value} {o : Obj} {u : TypeId} {v : Value} {n : Nat} {f : Bf} (h : SsInv w w1 tb wr) (ho : Own (wr.alloc o) w1.heap.size u v n f) (hg : (wr.alloc o).grownBy w' v.ownBlock) : SsInv w w1 tb w' := by
  have s1 := h.s1
  have b1 := h.b1.size
  refine ⟨ho.after hg (h.b0.alloc (by omega) o) (by simp; omega) (by omega), ho.after hg (h.b1.alloc (by omega) o) (by simp; omega) (Nat.le_refl _), grown_row hg (row_alloc h.rt o) (fun e => ?_), grown_row hg (row_alloc h.r0 o) (fun e => ?_), s1⟩
  · have := (ho.lt e).1; omega
  · have := (ho.lt e).1; omega
theorem Two.app {w : World} {B : Nat} {u : TypeId} {v v' x : Value} {n : Nat} {f : Bf} {k : Nat} (h : Two v x) (hx : Own w B u x n f) (ht : v'.ownBlock = v.ownBlock ∨ v'.ownBlock = some k) (hk : w.heap.size ≤ k) : Two v' x := fun g hg e => by
  rcases ht with h1 | h1
  · rw [h1] at hg; exact h g hg e
  · rw [h1] at hg
    have := (hx.lt e).2
    have := Option.some.inj hg
    omega
theorem Two.symm {v x : Value} (h : Two v x) : Two x v := fun g hg e => h g e hg

set_option maxRecDepth 20000 in
set_option maxHeartbeats 4000000 in
theorem rsums_any (k b : Bf) (n m c c' cK : Nat) (A A' AK : Option Addr) (w : World) (hs : Sl w w.heap.size A n c k) (hs' : Sl w w.heap.size A' m c' b) (hn : n ≤ 80000) (hm : m ≤ 80000) (hK : SlG w w.heap.size AK 64 cK kV) :
    Calls Tryd.prog 26 #[.agg (tbA (.slice AK 64 cK) iF), .slice A n c, .slice A' m c'] w fun e w' => e = .returned (.agg (ba 32 (macF k n b m))) ∧ Below w.heap.size w w' := by
  have HS := Lib.hid hs
  have HS' := Lib.hid hs'
  have HK := Lib.hid hK
  obtain ⟨tb, htb⟩ : ∃ tb, tb = tbA (.slice AK 64 cK) iF := ⟨_, rfl⟩
  have HTB := Lib.hid htb
  have hz0 : ((w.alloc (.cells (tbA (.slice AK 64 cK) iF) 54)).alloc (.cells (ba 32 fun _ => 0#8) 41)).heap.size = w.heap.size + 2 := by simp
  have B0 := Lib.hid (((Below.refl w.heap.size w).alloc (by simp) (.cells (tbA (.slice AK 64 cK) iF) 54)).alloc (by simp) (.cells (ba 32 fun _ => 0#8) 41))
  have rt0 : row ((w.alloc (.cells (tbA (.slice AK 64 cK) iF) 54)).alloc (.cells (ba 32 fun _ => 0#8) 41)) w.heap.size = some (tbA (.slice AK 64 cK) iF) := row_alloc (row_alloc_at _ _ _ _ rfl) _
  have r00 : row ((w.alloc (.cells (tbA (.slice AK 64 cK) iF) 54)).alloc (.cells (ba 32 fun _ => 0#8) 41)) (w.heap.size + 1) = some (ba 32 fun _ => 0#8) := row_alloc_at _ _ _ _ (by simp)
  clear hs hs' hK htb
  go_enter Tryd.func26, Tryd.ntmps26
  by_cases h64 : 64 < n
  case' pos =>
    have hd : decide ((64 : Int) < (n : Int)) = true := by simp; omega
    go_wp2_with fail
    refine (rsum_any k n c cK A AK _ ((HS.out.below B0.out).more (by omega)) (by omega) ((HK.out.below B0.out).more (by omega))).mono ?_
    rintro e wa ⟨rfl, hba⟩
    have hsa : w.heap.size + 2 ≤ wa.heap.size := by have := hba.size; omega
    have a1 := sum_sl_all wa.heap.size
    obtain ⟨w1, hw1⟩ : ∃ w1, w1 = wa.alloc (.cells (ba 32 (shaF kF iF k n)) 41) := ⟨_, rfl⟩
    have J1 := Lib.hid (show SsInv w w1 tb w1 from by
      rw [hw1, HTB.out]
      exact ⟨(onto B0.out (by omega) hba).alloc (by omega) _, Below.refl _ _, row_alloc (carry hba rt0) _, row_alloc (carry hba r00) _, by simp; omega⟩)
    obtain ⟨A1, N1, c1, k1, hsl, hN1, hky, hkf⟩ : ∃ A1 N1 c1 k1, Value.slice (some ⟨wa.heap.size, 0, none⟩) 32 32 = .slice A1 N1 c1 ∧ N1 ≤ 64 ∧ Sl w1 w1.heap.size A1 N1 c1 k1 ∧ ∀ i, keyF k n i = if i < N1 then k1 i else 0#8 :=
      ⟨_, _, _, _, rfl, by omega, (by rw [hw1]; exact Sl.of_row (row_alloc_at _ _ _ _ rfl) _ (by simp) : Sl w1 w1.heap.size (some ⟨wa.heap.size, 0, none⟩) 32 32 (shaF kF iF k n)), fun i => by unfold keyF; rw [if_pos h64]⟩
    have HKY := Lib.hid hky
    have HKF := Lib.hid hkf
    have HSL := Lib.hid hsl
    clear hba rt0 r00 hz0 B0 hky hkf hsl
    go_wp2_with fail
    rw [← hw1, HSL.out]
    clear hw1 a1 hd HSL
  case' neg =>
    have hd : decide ((64 : Int) < (n : Int)) = false := by simp; omega
    obtain ⟨w1, hw1⟩ : ∃ w1, w1 = (w.alloc (.cells (tbA (.slice AK 64 cK) iF) 54)).alloc (.cells (ba 32 fun _ => 0#8) 41) := ⟨_, rfl⟩
    have J1 := Lib.hid (show SsInv w w1 tb w1 from by
      rw [hw1, HTB.out]
      exact ⟨B0.out, Below.refl _ _, rt0, r00, by omega⟩)
    obtain ⟨A1, N1, c1, k1, hsl, hN1, hky, hkf⟩ : ∃ A1 N1 c1 k1, Value.slice A n c = .slice A1 N1 c1 ∧ N1 ≤ 64 ∧ Sl w1 w1.heap.size A1 N1 c1 k1 ∧ ∀ i, keyF k n i = if i < N1 then k1 i else 0#8 :=
      ⟨_, _, _, _, rfl, by omega, (by rw [hw1]; exact (HS.out.below B0.out).more (by omega) : Sl w1 w1.heap.size A n c k), fun i => by unfold keyF; rw [if_neg h64]⟩
    have HKY := Lib.hid hky
    have HKF := Lib.hid hkf
    have HSL := Lib.hid hsl
    clear rt0 r00 hz0 B0 hky hkf hsl
    go_wp2_with fail
    rw [← hw1, HSL.out]
    clear hw1 hd HSL
  all_goals
    go_loopw [8, 9, 10] (fun vi vo iv wr => ∃ i : Nat, i ≤ 64 ∧ iv = .int .i64 i ∧ Own wr w1.heap.size 5 vi i (mskF (keyF k n) 54#8) ∧ Own wr w1.heap.size 5 vo i (mskF (keyF k n) 92#8) ∧ Two vi vo ∧ SsInv w w1 tb wr) (fun _ _ iv _ => 64 - (intOf iv).toNat)
    case' atStart => exact ⟨0, by omega, rfl, Own.nil _ _ _ _, Own.nil _ _ _ _, show Two _ _ from (fun g h => by cases h), J1.out⟩
    case' round =>
      clear J1
      obtain ⟨i, hi, rfl, hoi, hoo, htwo, hJ⟩ := hrel
      obtain ⟨wo, rfl⟩ : ∃ wo : World, wo = wr := ⟨_, rfl⟩
      have HOI := Lib.hid hoi
      have HOO := Lib.hid hoo
      have HTW := Lib.hid htwo
      have HJ := Lib.hid hJ
      clear hoi hoo htwo hJ
      by_cases hlt : i < 64
      · have hd : decide ((i : Int) < 64) = true := by simp; omega
        have b1 := HJ.out.b1.size
        obtain ⟨x, hx⟩ : ∃ x, x = keyF k n i := ⟨_, rfl⟩
        have HX := Lib.hid hx
        have HOI1 := Lib.hid (HOI.out.alloc (.cells #[.int .u8 (I (x ^^^ 54#8))] 5))
        have HSO1 := Lib.hid (Sl.one wo 5 (x ^^^ 54#8) (wo.heap.size + 1) (by omega))
        rw [HKF.out] at hx
        by_cases hlk : i < N1
        case' pos =>
          have hd2 : decide ((i : Int) < (N1 : Int)) = true := by simp; omega
          rw [if_pos hlk] at hx
          obtain ⟨g, o, hA, hg, hcell⟩ := (HKY.out.below HJ.out.b1).at_ (by omega)
          subst hA
          have hc : wo.cell? ⟨g, o + i, none⟩ = some (.int .u8 (I x)) := by rw [hx]; exact hcell i hlk
          clear hcell hx
        case' neg =>
          have hd2 : decide ((i : Int) < (N1 : Int)) = false := by simp; omega
          rw [if_neg hlk] at hx
          have hx0 := I_lit0
          rw [← hx] at hx0
          clear hx
        all_goals
          have x1 := xor36 x
          have x2 := xor5c x
          go_wp2_with (at_builtin; first
            | (refine wpl_appB rfl (.tmp 32) (.tmp 35) rfl sli_u u8_info HOI1.out HSO1.out (by omega) (by simp; omega) rfl rfl ?_; intro v2 w2 ho2 hg2 ht2
               have s2 : w1.heap.size ≤ w2.heap.size := by have := hg2.size; simp at this; omega
               have HOO2 := Lib.hid (((HOO.out.alloc (.cells #[.int .u8 (I (x ^^^ 54#8))] 5)).other hg2 (fun k hk e => HTW.out k e hk)).alloc (.cells #[.int .u8 (I (x ^^^ 92#8))] 5))
               have HSO2 := Lib.hid (Sl.one w2 5 (x ^^^ 92#8) (w2.heap.size + 1) (by omega))
               have HTW2 := Lib.hid (HTW.out.app HOO.out ht2 (by simp))
               have HJ2 := Lib.hid (HJ.out.app HOI1.out hg2)
               have HO2 := Lib.hid ho2
               clear ho2 hg2 ht2)
            | (refine wpl_appB rfl (.tmp 37) (.tmp 40) rfl sli_u u8_info HOO2.out HSO2.out (by omega) (by simp; omega) rfl rfl ?_; intro v3 w3 ho3 hg3 ht3))
          have HOI3 := Lib.hid (((HO2.out.alloc (.cells #[.int .u8 (I (x ^^^ 92#8))] 5)).other hg3 (fun k hk e => HTW2.out k hk e)).congr (f' := mskF (keyF k n) 54#8) (cat_step (by unfold mskF; rw [HX.out])))
          have HOO3 := Lib.hid (ho3.congr (f' := mskF (keyF k n) 92#8) (cat_step (by unfold mskF; rw [HX.out])))
          have HTW3 := Lib.hid (HTW2.out.symm.app HO2.out ht3 (by simp)).symm
          have HJ3 := Lib.hid (HJ2.out.app HOO2.out hg3)
          clear ho3 hg3 ht3 HOO2 HSO2 HTW2 HJ2 HO2
          go_roundw
          case rel => exact ⟨i + 1, by omega, by go_num, HOI3.out, HOO3.out, HTW3.out, HJ3.out⟩
          case measure => simp [intOf]; omega
      · obtain rfl : i = 64 := by omega
        have hd : decide ((64 : Int) < 64) = false := by decide
        have rt := HJ.out.rt
        have RT := Lib.hid rt
        clear rt
        have hsw : w.heap.size + 2 ≤ wo.heap.size := by have := HJ.out.b1.size; have := HJ.out.s1; omega
        go_wp2_with fail
        refine flow_many [.inl [0, 1, 2], pS 5, pE 3, pE 4, pU 5, pE 6] (fun y => row y w.heap.size = some (tbA (.slice AK 64 cK) iF)) u8.ownBlock.toList (by kernel_rfl) (by kernel_rfl) (fun _ _ _ _ _ h => h) (fun _ _ _ _ _ h => h) (fun y z h => row_alloc h z) (by rw [row_drewN, RT.out, HTB.out]) (hot_own HOI.out) ?_
        have HOI1 := Lib.hid (HOI.out.drewN 1)
        have HOO1 := Lib.hid (HOO.out.drewN 1)
        have B1 := Lib.hid (below_drewN HJ.out.b0 1)
        have R1 := Lib.hid (show row (wo.drewN 1) (w.heap.size + 1) = some (ba 32 fun _ => 0#8) by rw [row_drewN]; exact HJ.out.r0)
        have TT1 := Lib.hid (show row (wo.drewN 1) w.heap.size = some (tbA (.slice AK 64 cK) iF) by rw [row_drewN, RT.out, HTB.out])
        have hz1 : (wo.drewN 1).heap.size = wo.heap.size := rfl
        have hs1 : w1.heap.size ≤ wo.heap.size := HJ.out.b1.size
        have hs0 : w.heap.size + 2 ≤ w1.heap.size := HJ.out.s1
        obtain ⟨W1, hW1⟩ : ∃ W1, W1 = wo.drewN 1 := ⟨_, rfl⟩
        rw [← hW1] at HOI1 HOO1 B1 R1 TT1 hz1 ⊢
        have HL9 := Lib.hid (fun (g : Nat) (h : u9.ownBlock = some g) => (HOO.out.lt h).2)
        clear hW1 HOI HOO HJ
        have hq : ∀ x : In (fun y => row y w.heap.size = some (tbA (.slice AK 64 cK) iF)), row x.val w.heap.size = some (tbA (.slice AK 64 cK) iF) := fun x => x.ok
        have hne : Nonempty (In (fun y => row y w.heap.size = some (tbA (.slice AK 64 cK) iF))) := ⟨⟨W1, TT1.out⟩⟩
        refine wpM_q ?_
        simp only [pk, List.getElem?_cons_zero, List.getElem?_cons_succ]
        repeat (go_big_quiet_step (fail))
        refine wpQuiet_nil ?_
        clear hq
        refine wpM_s (fun p => .pointer (some ⟨p, 0, none⟩)) (.cells (ba 32 fun _ => 0#8) 41) _ rfl rfl (fun w => by simp only [execOp, go_sem, Sem.run_bind, Result.andThen]; rfl) ?_
        refine wpM_e _ rfl (fun x hx => ?_)
        have hx' : row x.val w.heap.size = some (tbA (.slice AK 64 cK) iF) := hx
        have TX := Lib.hid hx'
        have hsx := x.below.size
        have HOI2 := Lib.hid (HOI1.out.below x.below (Nat.le_refl _))
        have HOO2 := Lib.hid (HOO1.out.below x.below (Nat.le_refl _))
        have BX := Lib.hid (onto B1.out (by omega) x.below)
        have RX := Lib.hid (carry x.below R1.out)
        have HSX := Lib.hid ((HS'.out.below BX.out).more (by omega : w.heap.size ≤ x.val.heap.size))
        clear hx hx' HOI1 HOO1 TT1 R1
        obtain ⟨xv, hxv⟩ : ∃ xv, xv = x.val := ⟨_, rfl⟩
        rw [← hxv] at TX hsx HOI2 HOO2 BX RX HSX ⊢
        clear hxv B1
        go_wp2_with (at_builtin; refine wpl_appB rfl (.tmp 43) (.tmp 44) rfl sli_u u8_info HOI2.out HSX.out (by omega) (by omega) rfl rfl ?_; intro v2 w2 ho2 hg2 ht2)
        have hs2 := hg2.size
        have B2 := Lib.hid (HOI2.out.after hg2 BX.out (by omega) (by omega))
        have T2 := grown_row hg2 TX.out (fun e => by have := (HOI2.out.lt e).1; omega)
        have R2 := Lib.hid (grown_row hg2 RX.out (fun e => by have := (HOI2.out.lt e).1; omega))
        have HOO3 := Lib.hid (HOO2.out.other hg2 (fun k hk e => HTW.out k e hk))
        have HO2 := Lib.hid ho2
        refine same_class (C := fun y => row y w.heap.size = some (tbA (.slice AK 64 cK) iF)) v2.ownBlock.toList (Frm.app hg2) (hot_app ho2 ht2 (fun k hk => by simpa using hk)) T2 (fun y z h => row_alloc h z) ?_
        clear ho2 hg2 ht2 T2 HOI2 HOO2 TX RX BX
        refine wpM_e _ rfl (fun x2 hx2 => ?_)
        have T3 := Lib.hid (show row x2.val w.heap.size = some (tbA (.slice AK 64 cK) iF) from hx2)
        have hsx2 := x2.below.size
        have HO3 := Lib.hid (HO2.out.below x2.below (Nat.le_refl _))
        have HOO4 := Lib.hid (HOO3.out.below x2.below (Nat.le_refl _))
        have B3 := Lib.hid (onto B2.out (by omega) x2.below)
        have R3 := Lib.hid (carry x2.below R2.out)
        have HK3 := Lib.hid ((HK.out.below B3.out).more (by omega : w.heap.size ≤ x2.val.heap.size))
        have hh2 : ∀ k ∈ v2.ownBlock.toList, k < x2.val.heap.size := hot_own HO3.out
        clear hx2 HO2 HOO3 R2 B2
        obtain ⟨xw, hxw⟩ : ∃ xw, xw = x2.val := ⟨_, rfl⟩
        rw [← hxw] at T3 hsx2 HO3 HOO4 B3 R3 HK3 hh2 ⊢
        clear hxw
        obtain ⟨A4, c4, hv4, hsl4, -, -⟩ := HO3.out.sl
        obtain ⟨H4, hH4⟩ : ∃ H4, H4 = v2.ownBlock.toList := ⟨_, rfl⟩
        rw [← hH4] at hh2 ⊢
        rw [hv4]
        have HH4 := Lib.hid hh2
        have HSL4 := Lib.hid hsl4
        clear hsl4 hh2 HO3 hv4 hH4
        go_wp2_with fail
        refine (rsum_any (catF 64 (mskF (keyF k n) 54#8) b) (64 + m) c4 cK A4 AK xw HSL4.out (by omega) HK3.out).mono ?_
        rintro e w4 ⟨rfl, hb4⟩
        obtain ⟨S, hS⟩ : ∃ S, S = innF k n b m := ⟨_, rfl⟩
        have hHS := Lib.hid hS
        rw [show shaF kF iF (catF 64 (mskF (keyF k n) 54#8) b) (64 + m) = S by rw [hS]; rfl]
        have hs4 := hb4.size
        have HOO5 := Lib.hid (HOO4.out.below hb4 (Nat.le_refl _))
        have B4 := Lib.hid (onto B3.out (by omega) hb4)
        have R4 := Lib.hid (carry hb4 R3.out)
        have T4 := Lib.hid (carry hb4 T3.out)
        have HFR := Lib.hid (Frm.of (hot := H4) hb4)
        have HHS := Lib.hid (hot_same HH4.out hb4.size)
        clear hb4 HOO4 B3 R3 T3 HSL4 HK3 hS HH4
        go_wp2_with fail
        refine same_class (C := fun y => row y w.heap.size = some (tbA (.slice AK 64 cK) iF)) H4 HFR.out HHS.out T4.out (fun y z h => row_alloc h z) ?_
        clear HFR HHS
        refine wpM_u _ _ [] 12 (.head _) rfl rfl (fun x5 hx5 p hp1 hp2 hp3 hp4 => ?_)
        refine wpM_e _ rfl (fun x6 hx6 => ?_)
        have b6 := onto x5.below x5.below.size x6.below
        have rp : row x6.val p = some (ba 32 fun _ => 0#8) := carry x6.below (row_of hp4)
        have hs5 := x5.below.size
        have hs6 := x6.below.size
        have HOO6 := Lib.hid (HOO5.out.below b6 (Nat.le_refl _))
        have B6 := Lib.hid (onto B4.out (by omega) b6)
        have R6 := Lib.hid (carry b6 R4.out)
        have T6 := Lib.hid (carry b6 T4.out)
        have HP2 := Lib.hid hp2
        have HP1 := Lib.hid hp1
        clear HOO5 B4 R4 T4 b6 hp4 hx5 hx6 hp3 hp1 hp2
        obtain ⟨xv, hxv⟩ : ∃ xv, xv = x6.val := ⟨_, rfl⟩
        rw [← hxv] at rp hs6 HOO6 B6 R6 T6 ⊢
        clear hxv
        have hpx : p < xv.heap.size := row_lt rp
        go_wp2_with fail
        have hs7 : (xv.setRow p (ba 32 S)).heap.size = xv.heap.size := by simp
        have HOO7 := Lib.hid (HOO6.out.setRow p (fun e => by have := HL9.out p e; have := HP1.out; omega) (ba 32 S))
        have B7 := Lib.hid (below_setRow B6.out (by have := HP1.out; omega : w.heap.size ≤ p) (ba 32 S))
        have R7 := Lib.hid (show row (xv.setRow p (ba 32 S)) (w.heap.size + 1) = some (ba 32 fun _ => 0#8) by rw [row_setRow_other _ _ _ _ (by have := HP1.out; omega)]; exact R6.out)
        have T7 := Lib.hid (show row (xv.setRow p (ba 32 S)) w.heap.size = some (tbA (.slice AK 64 cK) iF) by rw [row_setRow_other _ _ _ _ (by have := HP1.out; omega)]; exact T6.out)
        have P7 := Lib.hid (row_setRow rp (ba 32 S))
        refine same_class (C := fun y => row y w.heap.size = some (tbA (.slice AK 64 cK) iF)) [] (Frm.row xv _ (by simp)) hot_none T7.out (fun y z h => row_alloc h z) ?_
        clear HOO6 B6 R6 T6 rp
        refine wpM_nil (fun x7 => ?_)
        have hs8 := x7.below.size
        have HOO8 := Lib.hid (HOO7.out.below x7.below (Nat.le_refl _))
        have B8 := Lib.hid (onto B7.out (by omega) x7.below)
        have R8 := Lib.hid (carry x7.below R7.out)
        have T8 := Lib.hid (carry x7.below T7.out)
        have P8 := Lib.hid (carry x7.below P7.out)
        clear HOO7 B7 R7 T7 P7
        obtain ⟨y0, hy0⟩ : ∃ y0, y0 = x7.val := ⟨_, rfl⟩
        rw [← hy0] at hs8 HOO8 B8 R8 T8 P8 ⊢
        rw [hs7] at hs8
        clear hy0 hs7
        have hys : w.heap.size + 2 ≤ y0.heap.size := by omega
        have hhot : ∀ g ∈ (w.heap.size + 1) :: u9.ownBlock.toList, g < y0.heap.size := fun g hg => by
          rcases List.mem_cons.1 hg with rfl | hg
          · omega
          · exact hot_own HOO8.out g hg
        go_wp2_with fail
        refine flow_many [.inl [0, 1, 2], pE 3, pE 4, pE 5] (fun y => row y w.heap.size = some (tbA (.slice AK 64 cK) iF)) ((w.heap.size + 1) :: u9.ownBlock.toList) (by kernel_rfl) (by kernel_rfl) (fun _ _ _ _ _ h => h) (fun _ _ _ _ _ h => h) (fun y z h => row_alloc h z) (by rw [row_drewN]; exact T8.out) hhot ?_
        have O1 := Lib.hid (HOO8.out.drewN 1)
        have D1 := Lib.hid (below_drewN B8.out 1)
        have E1 := Lib.hid (show row (y0.drewN 1) (w.heap.size + 1) = some (ba 32 fun _ => 0#8) by rw [row_drewN]; exact R8.out)
        have F1 := Lib.hid (show row (y0.drewN 1) w.heap.size = some (tbA (.slice AK 64 cK) iF) by rw [row_drewN]; exact T8.out)
        have G1 := Lib.hid (show row (y0.drewN 1) p = some (ba 32 S) by rw [row_drewN]; exact P8.out)
        have hz1 : (y0.drewN 1).heap.size = y0.heap.size := rfl
        obtain ⟨Y1, hY1⟩ : ∃ Y1, Y1 = y0.drewN 1 := ⟨_, rfl⟩
        rw [← hY1] at O1 D1 E1 F1 G1 hz1 ⊢
        clear hY1 HOO8 B8 R8 T8 P8 hne hhot
        have hq : ∀ x : In (fun y => row y w.heap.size = some (tbA (.slice AK 64 cK) iF)), row x.val w.heap.size = some (tbA (.slice AK 64 cK) iF) := fun x => x.ok
        have hne : Nonempty (In (fun y => row y w.heap.size = some (tbA (.slice AK 64 cK) iF))) := ⟨⟨Y1, F1.out⟩⟩
        have a1 := sum_sl_all p
        refine wpM_q ?_
        simp only [pk, List.getElem?_cons_zero, List.getElem?_cons_succ]
        repeat (go_big_quiet_step (fail))
        refine wpQuiet_nil ?_
        clear hq a1
        refine wpM_e _ rfl (fun x hx => ?_)
        have hsx := x.below.size
        have O2 := Lib.hid (O1.out.below x.below (Nat.le_refl _))
        have D2 := Lib.hid (onto D1.out (by omega) x.below)
        have E2 := Lib.hid (carry x.below E1.out)
        have F2 := Lib.hid (carry x.below F1.out)
        have G2 := Lib.hid (Sl.of_row (carry x.below G1.out) x.val.heap.size (row_lt (carry x.below G1.out)))
        clear O1 D1 E1 F1 G1 hx
        obtain ⟨Y2, hY2⟩ : ∃ Y2, Y2 = x.val := ⟨_, rfl⟩
        rw [← hY2] at hsx O2 D2 E2 F2 G2 ⊢
        clear hY2
        go_wp2_with (at_builtin; refine wpl_appB rfl (.tmp 48) (.tmp 49) rfl sli_u u8_info O2.out G2.out (by omega) (by omega) rfl rfl ?_; intro v9 w9 ho9 hg9 ht9)
        have hs9 := hg9.size
        have D3 := Lib.hid (O2.out.after hg9 D2.out (by omega) (by omega))
        have F3 := Lib.hid (grown_row hg9 F2.out (fun e => by have := (O2.out.lt e).1; omega))
        have E3 := Lib.hid (grown_row hg9 E2.out (fun e => by have := (O2.out.lt e).1; omega))
        have O3 := Lib.hid ho9
        obtain ⟨A9, c9, hv9, hsl9, -, -⟩ := ho9.sl
        refine same_class (C := fun y => row y w.heap.size = some (tbA (.slice AK 64 cK) iF)) [w.heap.size + 1] ((Frm.app hg9).more (fun k hk => by simp at hk; simp [hk])) (fun k hk => by
          obtain rfl := List.mem_singleton.1 hk
          exact ⟨.inl (by simp), row_lt E3.out⟩) F3.out (fun y z h => row_alloc h z) ?_
        rw [hv9]
        have HSL9 := Lib.hid hsl9
        clear ho9 hg9 ht9 hv9 hsl9 O2 D2 E2 F2 G2 O3
        refine wpM_e _ rfl (fun x2 hx2 => ?_)
        have hsx2 := x2.below.size
        have D4 := Lib.hid (onto D3.out (by omega) x2.below)
        have E4 := Lib.hid (carry x2.below E3.out)
        have F4 := Lib.hid (carry x2.below F3.out)
        have L4 := Lib.hid ((HSL9.out.below x2.below).more hsx2)
        have K4 := Lib.hid ((HK.out.below D4.out).more (by omega : w.heap.size ≤ x2.val.heap.size))
        clear D3 E3 F3 HSL9 hx2
        obtain ⟨Y4, hY4⟩ : ∃ Y4, Y4 = x2.val := ⟨_, rfl⟩
        rw [← hY4] at hsx2 D4 E4 F4 L4 K4 ⊢
        clear hY4
        go_wp2_with fail
        refine (rsum_any (catF 64 (mskF (keyF k n) 92#8) S) (64 + 32) c9 cK A9 AK Y4 L4.out (by omega) K4.out).mono ?_
        rintro e w5 ⟨rfl, hb5⟩
        rw [show shaF kF iF (catF 64 (mskF (keyF k n) 92#8) S) (64 + 32) = macF k n b m by rw [hHS.out]; rfl]
        have hs5' := hb5.size
        have D5 := Lib.hid (onto D4.out (by omega) hb5)
        have E5 := Lib.hid (carry hb5 E4.out)
        have F5 := Lib.hid (carry hb5 F4.out)
        have HFR := Lib.hid (Frm.of (hot := [w.heap.size + 1]) hb5)
        clear hb5 D4 E4 F4 L4 K4
        go_wp2_with fail
        refine same_class (C := fun y => row y w.heap.size = some (tbA (.slice AK 64 cK) iF)) [w.heap.size + 1] HFR.out (fun k hk => by
          obtain rfl := List.mem_singleton.1 hk
          exact ⟨.inl (by simp), row_lt E5.out⟩) F5.out (fun y z h => row_alloc h z) ?_
        clear HFR
        refine wpM_e _ rfl (fun x5 hx5 => ?_)
        have hsx5 := x5.below.size
        have D6 := Lib.hid (onto D5.out (by omega) x5.below)
        have e6 := carry x5.below E5.out
        have F6 := Lib.hid (carry x5.below F5.out)
        clear D5 E5 F5 hx5
        obtain ⟨Y6, hY6⟩ : ∃ Y6, Y6 = x5.val := ⟨_, rfl⟩
        rw [← hY6] at hsx5 D6 e6 F6 ⊢
        clear hY6
        go_wp2_with fail
        have D7 := Lib.hid (below_setRow D6.out (by omega : w.heap.size ≤ w.heap.size + 1) (ba 32 (macF k n b m)))
        have E7 := Lib.hid (row_setRow e6 (ba 32 (macF k n b m)))
        refine same_class (C := fun y => row y w.heap.size = some (tbA (.slice AK 64 cK) iF)) [] (Frm.row Y6 _ (by simp)) hot_none (by rw [row_setRow_other _ _ _ _ (by omega)]; exact F6.out) (fun y z h => row_alloc h z) ?_
        clear D6 e6 F6
        refine wpM_nil (fun x8 => ?_)
        have D8 := Lib.hid (onto D7.out (by have := row_lt E7.out; omega) x8.below)
        have e8 := carry x8.below E7.out
        go_wp2_with fail
        refine bodyPost_ret (v := .agg (ba 32 (macF k n b m))) (res_row rfl _ _ (w.heap.size + 1) _ _ _ rfl e8 sum_u (by rw [ba_size]; exact sum_i)) rfl ⟨rfl, D8.out⟩
end Go.Proofs.YtjggnbncpjoooaaDoor.Oct
