/- The statement MacMade: the law strongroomlaw06.MacMade answers true for every input, and leaves its arguments as they were. Condition: the package variables that the row lists read at the call as the text of the program lays them; the card ties that. -/
import Derived.Test.YtbncangoaldmiaaDoorRows
import Derived.Test.YtbncangoaldmiaaDoorLib
import Derived.Test.YtbncangoaldmiaaDoorMacR
import Derived.Test.YtbncangoaldmiaaDoorMacS
import Derived.Test.YtbncangoaldmiaaDoorAppZ
import Derived.Test.YtbncangoaldmiaaDoorTab
import Derived.Test.YtbncangoaldmiaaDoorCards
import Derived.Test.YtbncangoaldmiaaDoorTie
import Derived.SevenTiedAt
namespace Go.Proofs.YtbncangoaldmiaaDoor.macMade
open Go.ChangeShapes Go.WideShapes Go.ChangeAt Go.RowKit
open Go.Proofs.YtbncangoaldmiaaDoor.Oct
set_option linter.unusedVariables false

theorem own : ownKnob Tryd.prog.godebug = none := by kernel_rfl
theorem laidOut : laidOutB Tryd.prog = true := by kernel_rfl

/-- what is known on the way: from where the two rows begin on -/
structure MdInv (w1 wr : World) : Prop where
  b1 : Below w1.heap.size w1 wr
theorem MdInv.app {w1 wr w' : World} {o : Obj} {u : TypeId} {v : Value} {n : Nat} {f : Bf} (h : Below w1.heap.size w1 wr) (ho : Own (wr.alloc o) w1.heap.size u v n f) (hg : (wr.alloc o).grownBy w' v.ownBlock) : Below w1.heap.size w1 w' :=
  ho.after hg (h.alloc h.size o) (by have := h.size; simp; omega) (Nat.le_refl _)
set_option maxRecDepth 20000 in
set_option maxHeartbeats 4000000 in
theorem walk (a0 : Nat → BitVec 8) (n0 c0 : Nat) (A0 : Option Addr) (a1 : Nat → BitVec 8) (n1 c1 : Nat) (A1 : Option Addr) (w : World) (hs0 : Sl w w.heap.size A0 n0 c0 a0) (hm0 : c0 ≤ maxLen) (hs1 : Sl w w.heap.size A1 n1 c1 a1) (hm1 : c1 ≤ maxLen) (htab : Tab w) :
    Calls Tryd.prog 4 #[.slice A0 n0 c0, .slice A1 n1 c1] w fun e w' => e = .returned (.bool true) ∧ Below w.heap.size w w' := by
  have HT := Lib.hid htab
  have HS0 := Lib.hid hs0
  have HS1 := Lib.hid hs1
  have hn0 : n0 ≤ c0 := hs0.le
  have hn1 : n1 ≤ c1 := hs1.le
  have HM0 := Lib.hid hm0
  have HM1 := Lib.hid hm1
  unfold maxLen at hm0 hm1
  clear hs0 hs1 htab
  go_enter Tryd.func4, Tryd.ntmps4
  go_wp2_with fail
  refine (shown_any _ HT.out).mono ?_
  rintro e w1 ⟨rfl, hb1⟩
  have B1 := Lib.hid hb1
  have hw1 := hb1.size
  have HT1 := Lib.hid (HT.out.below hb1 HT.out.pos)
  clear hb1
  go_wp2_with fail
  refine (few_any A1 n1 c1 hn1 HM1.out _).mono ?_
  rintro e w1' ⟨rfl, rfl⟩
  obtain ⟨M, hM⟩ : ∃ M, M = min n1 1000 := ⟨_, rfl⟩
  have K0 := Lib.hid ((HS0.out.below B1.out).more hw1)
  have K1 := Lib.hid (((HS1.out.below B1.out).upto M (by omega)).more hw1)
  rw [← hM]
  have hM1 : M ≤ 1000 := by omega
  clear HS0 HS1 hM hn1 hm1
  by_cases h64 : 64 < n0
  · have hd : decide ((64 : Int) < (n0 : Int)) = true := by simp; omega
    go_wp2_with fail
    go_ret
    exact ⟨rfl, B1.out⟩
  · have hd : decide ((64 : Int) < (n0 : Int)) = false := by simp; omega
    go_wp2_with fail
    obtain ⟨w2, hw2⟩ : ∃ w2, w2 = (w1.alloc (.cells #[] 5)).alloc (.cells #[] 5) := ⟨_, rfl⟩
    have OI := Lib.hid (show Own w2 w1.heap.size 5 (.slice (some ⟨w1.heap.size, 0, none⟩) 0 0) 0 (mskF (keyF a0 n0) 54#8) by rw [hw2]; exact (Own.empty w1 w1.heap.size 5 _ (Nat.le_refl _)).alloc _)
    have OO := Lib.hid (show Own w2 w1.heap.size 5 (.slice (some ⟨w1.heap.size + 1, 0, none⟩) 0 0) 0 (mskF (keyF a0 n0) 92#8) by
      rw [hw2]
      have h := Own.empty (w1.alloc (.cells #[] 5)) w1.heap.size 5 (mskF (keyF a0 n0) 92#8) (by simp)
      simpa using h)
    have BB := Lib.hid (show Below w1.heap.size w1 w2 by rw [hw2]; exact ((Below.refl _ _).alloc (by simp) _).alloc (by simp) _)
    rw [← hw2]
    have HKF := Lib.hid (show ∀ i, keyF a0 n0 i = if i < n0 then a0 i else 0#8 from fun i => by unfold keyF; rw [if_neg h64])
    clear hw2 hd
    go_loopw [6, 7, 8] (fun vi vo iv wr => ∃ i : Nat, i ≤ 64 ∧ iv = .int .i64 i ∧ Own wr w1.heap.size 5 vi i (mskF (keyF a0 n0) 54#8) ∧ Own wr w1.heap.size 5 vo i (mskF (keyF a0 n0) 92#8) ∧ Two vi vo ∧ Below w1.heap.size w1 wr) (fun _ _ iv _ => 64 - (intOf iv).toNat)
    case atStart => exact ⟨0, by omega, rfl, OI.out, OO.out, show Two _ _ from (fun g h e => by simp [Value.ownBlock] at h e; omega), BB.out⟩
    case round =>
      clear OI OO BB
      obtain ⟨i, hi, rfl, hoi, hoo, htwo, hJ⟩ := hrel
      obtain ⟨wo, rfl⟩ : ∃ wo : World, wo = wr := ⟨_, rfl⟩
      have HOI := Lib.hid hoi
      have HOO := Lib.hid hoo
      have HTW := Lib.hid htwo
      have HJ := Lib.hid hJ
      have b1 := hJ.size
      clear hoi hoo htwo hJ
      by_cases hlt : i < 64
      · have hd : decide ((i : Int) < 64) = true := by simp; omega
        obtain ⟨x, hx⟩ : ∃ x, x = keyF a0 n0 i := ⟨_, rfl⟩
        have HX := Lib.hid hx
        have HOI1 := Lib.hid (HOI.out.alloc (.cells #[.int .u8 (I (x ^^^ 54#8))] 5))
        have HSO1 := Lib.hid (Sl.one wo 5 (x ^^^ 54#8) (wo.heap.size + 1) (by omega))
        rw [HKF.out] at hx
        by_cases hlk : i < n0
        case' pos =>
          have hd2 : decide ((i : Int) < (n0 : Int)) = true := by simp; omega
          rw [if_pos hlk] at hx
          obtain ⟨g, o, hA, hg, hcell⟩ := (K0.out.below HJ.out).at_ (by omega)
          subst hA
          have hc : wo.cell? ⟨g, o + i, none⟩ = some (.int .u8 (I x)) := by rw [hx]; exact hcell i hlk
          clear hcell hx
        case' neg =>
          have hd2 : decide ((i : Int) < (n0 : Int)) = false := by simp; omega
          rw [if_neg hlk] at hx
          have hx0 := I_lit0
          rw [← hx] at hx0
          clear hx
        all_goals
          have x1 := xor36 x
          have x2 := xor5c x
          go_wp2_with (at_builtin; first
            | (refine wpl_appB rfl (.tmp 32) (.tmp 35) rfl sli_u u8_info HOI1.out HSO1.out (by omega) (by simp; omega) rfl rfl ?_; intro v2 w2 ho2 hg2 ht2
               have s2 : w1.heap.size ≤ w2.heap.size := by have := hg2.size; simp at this; omega
               have HOO2 := Lib.hid (((HOO.out.alloc (.cells #[.int .u8 (I (x ^^^ 54#8))] 5)).other hg2 (fun k hk e => HTW.out k e hk)).alloc (.cells #[.int .u8 (I (x ^^^ 92#8))] 5))
               have HSO2 := Lib.hid (Sl.one w2 5 (x ^^^ 92#8) (w2.heap.size + 1) (by omega))
               have HTW2 := Lib.hid (HTW.out.app HOO.out ht2 (by simp))
               have HJ2 := Lib.hid (MdInv.app HJ.out HOI1.out hg2)
               have HO2 := Lib.hid ho2
               clear ho2 hg2 ht2)
            | (refine wpl_appB rfl (.tmp 37) (.tmp 40) rfl sli_u u8_info HOO2.out HSO2.out (by omega) (by simp; omega) rfl rfl ?_; intro v3 w3 ho3 hg3 ht3))
          have HOI3 := Lib.hid (((HO2.out.alloc (.cells #[.int .u8 (I (x ^^^ 92#8))] 5)).other hg3 (fun k hk e => HTW2.out k hk e)).congr (f' := mskF (keyF a0 n0) 54#8) (cat_step (by unfold mskF; rw [HX.out])))
          have HOO3 := Lib.hid (ho3.congr (f' := mskF (keyF a0 n0) 92#8) (cat_step (by unfold mskF; rw [HX.out])))
          have HTW3 := Lib.hid (HTW2.out.symm.app HO2.out ht3 (by simp)).symm
          have HJ3 := Lib.hid (MdInv.app HJ2.out HOO2.out hg3)
          clear ho3 hg3 ht3 HOO2 HSO2 HTW2 HJ2 HO2
          go_roundw
          case rel => exact ⟨i + 1, by omega, by go_num, HOI3.out, HOO3.out, HTW3.out, HJ3.out⟩
          case measure => simp [intOf]; omega
      · obtain rfl : i = 64 := by omega
        have hd : decide ((64 : Int) < 64) = false := by decide
        have KM := Lib.hid (K1.out.below HJ.out)
        go_wp2_with (at_builtin; refine wpl_appB rfl (.tmp 42) (.tmp 43) rfl sli_u u8_info HOI.out KM.out (by omega) b1 rfl rfl ?_; intro v2 w2 ho2 hg2 ht2)
        have b2 := HOI.out.after hg2 HJ.out b1 (Nat.le_refl _)
        have hs2 := hg2.size
        have O2 := Lib.hid (HOO.out.other hg2 (fun k hk e => HTW.out k e hk))
        have T2 := Lib.hid (HT1.out.below b2 (by have := HT1.out.pos; omega))
        have B2 := Lib.hid b2
        obtain ⟨A2, c2, hv2, hsl2, -, -⟩ := ho2.sl
        subst hv2
        have L2 := Lib.hid hsl2
        clear ho2 hg2 ht2 hsl2 b2 HOI KM HTW HJ
        refine (hash_any (catF 64 (mskF (keyF a0 n0) 54#8) a1) (64 + M) c2 A2 w2 T2.out L2.out (by omega)).mono ?_
        rintro e w3 ⟨rfl, hb3⟩
        obtain ⟨S, hS⟩ : ∃ S, S = innF a0 n0 a1 M := ⟨_, rfl⟩
        rw [show shaF kF iF (catF 64 (mskF (keyF a0 n0) 54#8) a1) (64 + M) = S by rw [hS]; rfl]
        have HSS := Lib.hid hS
        have hs3 := hb3.size
        obtain ⟨p, hp⟩ : ∃ p, p = w3.heap.size := ⟨_, rfl⟩
        obtain ⟨w4, hw4⟩ : ∃ w4, w4 = w3.alloc (.cells (ba 32 S) 26) := ⟨_, rfl⟩
        have b4 : Below w2.heap.size w2 w4 := by rw [hw4]; exact hb3.alloc hs3 _
        have hz4 : w4.heap.size = w3.heap.size + 1 := by rw [hw4]; simp
        have R4 := Lib.hid (show row w4 p = some (ba 32 S) by rw [hw4, hp]; exact row_alloc_at _ _ _ _ rfl)
        have O4 := Lib.hid (O2.out.below b4 (Nat.le_refl _))
        have B4 := Lib.hid (onto B2.out (by omega) b4)
        have a1' := sum_sl_all p
        have hb41 : w1.heap.size ≤ w4.heap.size := by omega
        have HB41 := Lib.hid hb41
        clear hb3 hS b4 O2 B2 T2 L2 hb41
        go_wp2_with fail
        rw [← hw4, ← hp]
        clear hw4 hp
        refine flow_many [.inl [0, 1, 2, 3, 5, 6], pE 4, pE 7, pE 8, .inl [9, 10, 11]] (fun _ => True) u7.ownBlock.toList (by kernel_rfl) (by kernel_rfl) (fun _ _ _ _ _ h => h) (fun _ _ _ _ _ h => h) (fun y z h => h) trivial (hot_own O4.out) ?_
        have hne : Nonempty (In (fun _ => True)) := ⟨⟨w4, trivial⟩⟩
        have O5 := Lib.hid (O4.out.drewN 1)
        have R5 := Lib.hid (show row (w4.drewN 1) p = some (ba 32 S) by rw [row_drewN]; exact R4.out)
        have B5 := Lib.hid (below_drewN B4.out 1)
        have hz5 : (w4.drewN 1).heap.size = w4.heap.size := rfl
        obtain ⟨w5, hw5⟩ : ∃ w5, w5 = w4.drewN 1 := ⟨_, rfl⟩
        rw [← hw5] at O5 R5 B5 hz5 ⊢
        clear hw5 O4 R4 B4
        refine wpM_q ?_
        simp only [pk, List.getElem?_cons_zero, List.getElem?_cons_succ]
        repeat (go_big_quiet_step (fail))
        refine wpQuiet_nil ?_
        clear a1'
        obtain ⟨D, hD⟩ : ∃ D, D = macF a0 n0 a1 M := ⟨_, rfl⟩
        have HD := Lib.hid hD
        clear hD
        -- the sum itself
        refine wpM_e _ rfl (fun x hx => ?_)
        have hsx := x.below.size
        have B6 := Lib.hid (onto B5.out (by omega) x.below)
        have O6 := Lib.hid (O5.out.below x.below (Nat.le_refl _))
        have R6 := Lib.hid (carry x.below R5.out)
        have T6 := Lib.hid (HT1.out.below B6.out (by have := HT1.out.pos; omega))
        have K06 := Lib.hid ((K0.out.below B6.out).more B6.out.size)
        have K16 := Lib.hid ((K1.out.below B6.out).more B6.out.size)
        clear hx B5 O5 R5
        obtain ⟨X6, hX6⟩ : ∃ X6, X6 = x.val := ⟨_, rfl⟩
        rw [← hX6] at hsx B6 O6 R6 T6 K06 K16 ⊢
        clear hX6
        go_wp2_with fail
        refine (msum_any a0 a1 n0 M c0 c1 A0 A1 X6 T6.out K06.out K16.out (by omega) (by omega)).mono ?_
        rintro e w7 ⟨rfl, hb7⟩
        rw [← HD.out]
        have hs7 := hb7.size
        have O7 := Lib.hid (O6.out.below hb7 (Nat.le_refl _))
        have R7 := Lib.hid (carry hb7 R6.out)
        have B7 := Lib.hid (onto B6.out (by omega) hb7)
        have FR7 := Lib.hid (Frm.of (hot := u7.ownBlock.toList) hb7)
        clear hb7 O6 R6 B6 T6 K06 K16
        go_wp2_with fail
        refine same_class (C := fun _ => True) u7.ownBlock.toList FR7.out (fun k hk => ⟨.inl hk, hot_own O7.out k hk⟩) trivial (fun y z h => h) ?_
        clear FR7
        -- the outer row, the inner hash behind it
        refine wpM_e _ rfl (fun x hx => ?_)
        have hsx8 := x.below.size
        have B8 := Lib.hid (onto B7.out (by omega) x.below)
        have O8 := Lib.hid (O7.out.below x.below (Nat.le_refl _))
        have N8 := Lib.hid (Sl.of_row (carry x.below R7.out) x.val.heap.size (row_lt (carry x.below R7.out)))
        clear hx B7 O7 R7
        obtain ⟨X8, hX8⟩ : ∃ X8, X8 = x.val := ⟨_, rfl⟩
        rw [← hX8] at hsx8 B8 O8 N8 ⊢
        clear hX8
        have hb8 : w1.heap.size ≤ X8.heap.size := by have := HB41.out; omega
        have HB8 := Lib.hid hb8
        clear hb8
        go_wp2_with (at_builtin; refine wpl_appB_w (by rfl) (.tmp 51) (.tmp 52) rfl sli_u u8_info O8.out N8.out (by omega) HB8.out rfl rfl ?_; intro v9 w9 ho9 hg9 ht9)
        have B9 := Lib.hid (O8.out.after hg9 B8.out HB8.out (Nat.le_refl _))
        have hs9 := hg9.size
        obtain ⟨A9, c9, hv9, hsl9, -, -⟩ := ho9.sl
        have L9 := Lib.hid hsl9
        refine same_class (C := fun _ => True) [] (Frm.app hg9) hot_none trivial (fun y z h => h) ?_
        rw [hv9]
        clear ho9 hg9 ht9 hv9 hsl9 O8 N8 B8 HB8
        -- its hash
        refine wpM_e _ rfl (fun x hx => ?_)
        have hsx10 := x.below.size
        have B10 := Lib.hid (onto B9.out (by have := HB41.out; omega) x.below)
        have L10 := Lib.hid ((L9.out.below x.below).more hsx10)
        have T10 := Lib.hid (HT1.out.below B10.out (by have := HT1.out.pos; omega))
        clear hx B9 L9
        obtain ⟨X10, hX10⟩ : ∃ X10, X10 = x.val := ⟨_, rfl⟩
        rw [← hX10] at hsx10 B10 L10 T10 ⊢
        clear hX10
        go_wp2_with fail
        refine (hash_any (catF 64 (mskF (keyF a0 n0) 92#8) S) (64 + 32) c9 A9 X10 T10.out L10.out (by omega)).mono ?_
        rintro e w11 ⟨rfl, hb11⟩
        rw [show shaF kF iF (catF 64 (mskF (keyF a0 n0) 92#8) S) (64 + 32) = D by rw [HD.out, HSS.out]; rfl]
        have B11 := Lib.hid (onto B10.out (by have := HB41.out; omega) hb11)
        have FR11 := Lib.hid (Frm.of (hot := []) hb11)
        clear hb11 B10 L10 T10
        go_wp2_with fail
        refine same_class (C := fun _ => True) [] FR11.out hot_none trivial (fun y z h => h) ?_
        clear FR11
        have e1 : eqB 32 D D = true := eqB_refl _ _
        refine wpM_q ?_
        simp only [pk, List.getElem?_cons_zero, List.getElem?_cons_succ]
        repeat (first | rw [e1] | go_big_quiet_step (fail))
        refine wpQuiet_nil ?_
        clear e1
        refine wpM_nil (fun x => ?_)
        have hfin := Lib.hid (onto B1.out hw1 (onto B11.out (by have := HB41.out; have := B11.out.size; omega) x.below))
        go_wp2_with fail
        go_ret
        exact ⟨rfl, hfin.out⟩

set_option maxRecDepth 100000 in
theorem lifted (os : Os) (started : os.Started) (H : Type) (enc : TypeId × Value → H) :
    ReturnsInHanded {} Tryd.checked os 4 .any (fun w args => (Rows.macMadeSpec.pre enc Tryd.prog Tryd.f4 [] false w args ∧ laidMetH Tryd.prog laidL w) ∧ sizedMet enc Tryd.prog Tryd.f4 (OpenSpec.ofChange Rows.macMadeSpec) false w args) (Rows.macMadeSpec.post enc Tryd.prog Tryd.f4 false true false false) := by
  refine returnsInHanded_of_change_and (C := Tryd.checked) (X := fun w _ => laidMetH Tryd.prog laidL w) (fun _ _ _ hh h => h.of_heap hh) own started (by kernel_rfl) Tryd.func4
    (ChangeSpec.witness_shaped (enc := enc) (C := Tryd.checked) (os := os) (X := fun w _ => laidMetH Tryd.prog laidL w) false (World.doorLaid Tryd.prog 14 os) #[.slice none 0 0, .slice none 0 0] 8 rfl (World.shaped_of_RefB (by kernel_rfl) (by kernel_rfl)) (by kernel_rfl) (by kernel_rfl) (by kernel_rfl) (door_met os _)) ?_
  intro W base args ds gs before hval0 hW _ _ hL _
  have hval : ∀ (j : Nat) t v, Tryd.f4.params[j]? = some t → args[j]? = some v → Value.okWide Tryd.prog W .any base t v := hval0
  have hW' := hW
  obtain ⟨p, q, hA0, hV, rfl, hfz, hnd⟩ := hW
  have hA : DataW.TrodAll enc Tryd.prog W 0 (fun _ => true) true Tryd.f4.params.toList args.toList ds p := hA0
  rw [Tryd.params4] at hA hval
  obtain ⟨v0, vs0, d0, ds0, p0, q0, hargs, rfl, rfl, h0, r0⟩ := trodAll_cons hA
  obtain ⟨v1, vs1, d1, ds1, p1, q1, rfl, rfl, rfl, h1, r1⟩ := trodAll_cons r0
  obtain ⟨rfl, rfl, rfl⟩ := trodAll_nil r1
  obtain rfl : args = #[v0, v1] := by cases args; simp_all
  obtain ⟨rfl, rfl⟩ := trodVars_none hV
  have k0 := h0
  have lt0 : ∀ x ∈ p0, x.block < W.heap.size := by obtain ⟨m, hm⟩ := k0; exact DataW.trod_lt m _ _ _ hm
  obtain ⟨A0, n0, c0, a0, rfl, hs0, hm0⟩ := open_sl Tryd.underlying22 Tryd.underlying5 (by kernel_rfl) (hval 0 22 v0 rfl rfl) h0
  have k1 := h1
  have lt1 : ∀ x ∈ p1, x.block < W.heap.size := by obtain ⟨m, hm⟩ := k1; exact DataW.trod_lt m _ _ _ hm
  obtain ⟨A1, n1, c1, a1, rfl, hs1, hm1⟩ := open_sl Tryd.underlying22 Tryd.underlying5 (by kernel_rfl) (hval 1 22 v1 rfl rfl) h1
  clear hA0 hval0
  refine (walk a0 n0 c0 A0 a1 n1 c1 A1 W hs0 hm0 hs1 hm1 (tab_of hL)).mono fun e W' ⟨he, bel⟩ => ?_
  subst he
  exact ⟨_, rfl, _, _, _, [], _, [], hW', trodAll_mk1 (shut_bool Tryd.underlying4 _), (trodAll_cons_mk (Below.trod laidOut (by kernel_rfl) (of_decide_eq_true (by kernel_rfl)) k0 bel lt0) (trodAll_cons_mk (Below.trod laidOut (by kernel_rfl) (of_decide_eq_true (by kernel_rfl)) k1 bel lt1) trodAll_mk0)), rfl, bel.frame _, fun h => by cases h⟩

theorem over : Rows.macMadeRow.holds Tryd.pinned (OpenSpec.ofChange Rows.macMadeSpec) :=
  OpenClaim.holds_of_wide 4 Tryd.f4 rfl rfl rfl rfl rfl rfl rfl ⟨rfl, rfl, rfl, rfl, rfl⟩ rfl rfl rfl rfl rfl (by kernel_rfl) Tryd.func4 (by kernel_rfl)
    (of_decide_eq_true (by kernel_rfl)) (by unfold Func.isWrapper; first | (rw [if_pos (by decide +kernel)]; kernel_rfl) | (rw [if_neg (by decide +kernel)]; exact ⟨rfl, rfl⟩))
    (fun os started H enc _ => lifted os started H enc)

theorem proved : Rows.MacMadeCardSaid :=
  Claim7.holds_tied_plain_at .later [] [.data] true (true, "123987e15518b204523d58b1533dab46aa70de88d832fed111983713d9c464aa") false
    over (fun _ h => by cases h) (by kernel_rfl) (fun _ h => by cases h) macMade_row_tie rfl ⟨rfl, rfl⟩ (by kernel_rfl) rfl
    (fun f fn hf hfn => by
      obtain rfl : f = 4 := Option.some.inj ((show Tryd.prog.funcNamed "strongroom/strongroomlaw06.MacMade" = some 4 by kernel_rfl).symm.trans hf) |>.symm
      obtain rfl : fn = Tryd.f4 := (Option.some.inj (Tryd.func4.symm.trans hfn)).symm
      exact ⟨by kernel_rfl, fun j t ht => by
        rw [Tryd.params4] at ht
        have hm : t ∈ [22] := by simpa using Array.mem_of_getElem? ht
        have hall : ([22].all fun u => !Tryd.prog.wantsStandIn u) = true := by kernel_rfl
        exact (show Tryd.prog.wantsStandIn t = false by simpa using List.all_eq_true.1 hall t hm)⟩)
    (by kernel_rfl)
#print axioms proved
end Go.Proofs.YtbncangoaldmiaaDoor.macMade
