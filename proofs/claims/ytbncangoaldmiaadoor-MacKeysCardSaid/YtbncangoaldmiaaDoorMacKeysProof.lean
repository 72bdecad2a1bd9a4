/- The statement MacKeys: the law strongroomlaw06.MacKeys answers true for every input, and leaves its arguments as they were. Condition: the package variables that the row lists read at the call as the text of the program lays them; the card ties that. -/
import Derived.Test.YtbncangoaldmiaaDoorRows
import Derived.Test.YtbncangoaldmiaaDoorLib
import Derived.Test.YtbncangoaldmiaaDoorMacR
import Derived.Test.YtbncangoaldmiaaDoorMacS
import Derived.Test.YtbncangoaldmiaaDoorAppZ
import Derived.Test.YtbncangoaldmiaaDoorMacX
import Derived.Test.YtbncangoaldmiaaDoorTab
import Derived.Test.YtbncangoaldmiaaDoorCards
import Derived.Test.YtbncangoaldmiaaDoorTie
import Derived.SevenTiedAt
namespace Go.Proofs.YtbncangoaldmiaaDoor.macKeys
open Go.ChangeShapes Go.WideShapes Go.ChangeAt Go.RowKit
open Go.Proofs.YtbncangoaldmiaaDoor.Oct
set_option linter.unusedVariables false

theorem own : ownKnob Tryd.prog.godebug = none := by kernel_rfl
theorem laidOut : laidOutB Tryd.prog = true := by kernel_rfl

theorem key_long (k : Bf) (n : Nat) (h : 64 < n) (i : Nat) : keyF k n i = keyF (shaF kF iF k n) 32 i := by
  unfold keyF
  rw [if_pos h, if_neg (show ¬ (64 < 32) by omega)]
theorem key_zeros (k : Bf) (n m : Nat) (h : n + m ≤ 64) (i : Nat) : keyF (catF n k nF) (n + m) i = keyF k n i := by
  unfold keyF catF nF
  rw [if_neg (show ¬ 64 < n + m by omega), if_neg (show ¬ 64 < n by omega)]
  by_cases h1 : i < n
  · rw [if_pos (show i < n + m by omega), if_pos h1]
  · rw [if_neg h1]
    split <;> rfl
set_option maxRecDepth 20000 in
set_option maxHeartbeats 4000000 in
theorem walk (a0 : Nat → BitVec 8) (n0 c0 : Nat) (A0 : Option Addr) (a1 : Nat → BitVec 8) (n1 c1 : Nat) (A1 : Option Addr) (a2 : Int) (w : World) (hs0 : Sl w w.heap.size A0 n0 c0 a0) (hm0 : c0 ≤ maxLen) (hs1 : Sl w w.heap.size A1 n1 c1 a1) (hm1 : c1 ≤ maxLen) (w2 : (Lit.int .i64 a2).wf = true) (htab : Tab w) :
    Calls Tryd.prog 5 #[.slice A0 n0 c0, .slice A1 n1 c1, .int .i64 a2] w fun e w' => e = .returned (.bool true) ∧ Below w.heap.size w w' := by
  have HT := Lib.hid htab
  have HS0 := Lib.hid hs0
  have HS1 := Lib.hid hs1
  have hn0 : n0 ≤ c0 := hs0.le
  have hn1 : n1 ≤ c1 := hs1.le
  have HM0 := Lib.hid hm0
  have HM1 := Lib.hid hm1
  have W2 := Lib.hid w2
  unfold maxLen at hm0 hm1
  clear hs0 hs1 htab w2
  go_enter Tryd.func5, Tryd.ntmps5
  go_wp2_with fail
  refine (shown_any _ HT.out).mono ?_
  rintro e w1 ⟨rfl, hb1⟩
  have B1 := Lib.hid hb1
  have hw1 := hb1.size
  have HT1 := Lib.hid (HT.out.below hb1 HT.out.pos)
  clear hb1
  go_wp2_with fail
  refine (few_any A0 n0 c0 hn0 HM0.out _).mono ?_
  rintro e w1' ⟨rfl, rfl⟩
  go_wp2_with fail
  refine (few_any A1 n1 c1 hn1 HM1.out _).mono ?_
  rintro e w1' ⟨rfl, rfl⟩
  obtain ⟨N, hN⟩ : ∃ N, N = min n0 1000 := ⟨_, rfl⟩
  obtain ⟨M, hM⟩ : ∃ M, M = min n1 1000 := ⟨_, rfl⟩
  have K0 := Lib.hid (((HS0.out.below B1.out).upto N (by omega)).more hw1)
  have K1 := Lib.hid (((HS1.out.below B1.out).upto M (by omega)).more hw1)
  rw [← hN, ← hM]
  have hN1 : N ≤ 1000 := by omega
  have hM1 : M ≤ 1000 := by omega
  clear HS0 HS1 hN hM hn0 hn1 hm0 hm1
  obtain ⟨D, hD⟩ : ∃ D, D = macF a0 N a1 M := ⟨_, rfl⟩
  have HD := Lib.hid hD
  clear hD
  by_cases h64 : 64 < N
  · have hd : decide ((64 : Int) < (N : Int)) = true := by simp; omega
    go_wp2_with fail
    refine (hash_any a0 N c0 A0 w1 HT1.out K0.out (by omega)).mono ?_
    rintro e w3 ⟨rfl, hb3⟩
    obtain ⟨S, hS⟩ : ∃ S, S = shaF kF iF a0 N := ⟨_, rfl⟩
    rw [← hS]
    have hs3 := hb3.size
    obtain ⟨p, hp⟩ : ∃ p, p = w3.heap.size := ⟨_, rfl⟩
    obtain ⟨w4, hw4⟩ : ∃ w4, w4 = w3.alloc (.cells (ba 32 S) 26) := ⟨_, rfl⟩
    have b4 : Below w1.heap.size w1 w4 := by rw [hw4]; exact hb3.alloc hs3 _
    have hz4 : w4.heap.size = w3.heap.size + 1 := by rw [hw4]; simp
    have r4 : row w4 p = some (ba 32 S) := by rw [hw4, hp]; exact row_alloc_at _ _ _ _ rfl
    have B4 := Lib.hid (onto B1.out hw1 b4)
    have T4 := Lib.hid (HT1.out.below b4 (by have := HT1.out.pos; omega))
    have L0 := Lib.hid ((K0.out.below b4).more b4.size)
    have L1 := Lib.hid ((K1.out.below b4).more b4.size)
    have P4 := Lib.hid (Sl.of_row r4 w4.heap.size (row_lt r4))
    obtain ⟨D2, hD2⟩ : ∃ D2, D2 = macF S 32 a1 M := ⟨_, rfl⟩
    have hx : eqB 32 D D2 = true := (eqB_iff _ _ _).2 fun i hi => by
      rw [HD.out, hD2, hS]; exact macF_congr (fun j _ => key_long a0 N h64 j) (fun _ _ => rfl) i hi
    have CA := Lib.hid (show ∀ x : After w4, Calls Tryd.prog 11 #[.slice A0 N c0, .slice A1 M c1] x.val fun e w' => e = .returned (.agg (ba 32 D)) ∧ Below x.val.heap.size x.val w' from fun x => by
      rw [HD.out]; exact msum_any a0 a1 N M c0 c1 A0 A1 x.val (T4.out.after x) (After.sl L0.out x) (After.sl L1.out x) (by omega) (by omega))
    have CB := Lib.hid (show ∀ x : After w4, Calls Tryd.prog 11 #[.slice (some ⟨p, 0, none⟩) 32 32, .slice A1 M c1] x.val fun e w' => e = .returned (.agg (ba 32 D2)) ∧ Below x.val.heap.size x.val w' from fun x => by
      rw [hD2]; exact msum_any S a1 32 M 32 c1 _ A1 x.val (T4.out.after x) (After.sl P4.out x) (After.sl L1.out x) (by omega) (by omega))
    have a1' := sum_sl_all p
    clear hb3 hS b4 r4 hD2
    go_wp2_with fail
    rw [← hw4, ← hp]
    clear hw4 hp
    refine seen_region (by kernel_rfl) (by kernel_rfl) ?_
    iterate 5 (go_big_quiet_step ((go_at_call 11; refine After.call _ (CA.out _))))
    repeat (first | rw [hx] | go_big_quiet_step ((go_at_call 11; refine After.call _ (CB.out _))))
    refine wpQuiet_nil ?_
    rintro _ ⟨x, rfl⟩
    have hfin := Lib.hid (onto B4.out (by omega) x.below)
    clear hx a1'
    go_wp2_with fail
    go_ret
    exact ⟨rfl, hfin.out⟩
  · have hd : decide ((64 : Int) < (N : Int)) = false := by simp; omega
    have hwf := bounds_i64 W2.out
    rcases Int.lt_or_le a2 0 with hneg | hpos
    case' inl =>
      obtain ⟨E, hE, hEb⟩ : ∃ E : Nat, -(a2 + 1) = (E : Int) ∧ E ≤ 9223372036854775807 := ⟨(-(a2 + 1)).toNat, by omega, by omega⟩
      have hd2 : decide (a2 < 0) = true := by simpa using hneg
    case' inr =>
      obtain ⟨E, hE, hEb⟩ : ∃ E : Nat, a2 = (E : Int) ∧ E ≤ 9223372036854775807 := ⟨a2.toNat, by omega, by omega⟩
      have hd2 : decide (a2 < 0) = false := by simpa using hpos
    all_goals
      have HE := Lib.hid hE
      clear hE
      go_wp2_with fail
      rw [HE.out]
      obtain ⟨Z, hZ, hZ1⟩ : ∃ Z : Nat, (65 : Int) - (N : Int) = (Z : Int) ∧ Z = 65 - N := ⟨65 - N, by omega, rfl⟩
      have hZ0 : ¬ (Z : Int) = 0 := by omega
      obtain ⟨K, hK, hK2⟩ : ∃ K : Nat, (E : Int) % (Z : Int) = (K : Int) ∧ N + K ≤ 64 := ⟨E % Z, rfl, by have := Nat.mod_lt E (show 0 < Z by omega); omega⟩
      have HZ1 := Lib.hid hZ1
      have HK2 := Lib.hid hK2
      have hne : Nonempty (In (fun _ => True)) := ⟨⟨w1, trivial⟩⟩
      have hNN : N ≤ 64 := by omega
      clear hZ1 hK2 hd2
      refine flow_many [.inl [1, 3, 4, 5, 6, 7], pS 0, pU 0, pE 2, pE 8, .inl [9]] (fun _ => True) [] (by kernel_rfl) (by kernel_rfl) (fun _ _ _ _ _ h => h) (fun _ _ _ _ _ h => h) (fun y z h => h) trivial (fun k hk => by cases hk) ?_
      have hz1 : (w1.drewN 1).heap.size = w1.heap.size := rfl
      have B2 := Lib.hid (below_drewN (Below.refl w1.heap.size w1) 1)
      obtain ⟨w2, hw2⟩ : ∃ w2, w2 = w1.drewN 1 := ⟨_, rfl⟩
      rw [← hw2] at hz1 B2 ⊢
      clear hw2
      refine wpM_q ?_
      simp only [pk, List.getElem?_cons_zero, List.getElem?_cons_succ]
      repeat (go_big_quiet_step (fail))
      refine wpQuiet_nil ?_
      rw [hK]
      clear hK hZ hZ0 hne
      refine wpM_s (fun p => .slice (some ⟨p, 0, none⟩) 0 0) (.cells #[] 5) _ rfl rfl (fun w => ex_bs0 _ rfl w) ?_
      refine wpM_u _ _ _ 35 (.head _) rfl rfl (fun x0 hx0 p hp1 hp2 hp3 hp4 => ?_)
      refine wpM_e _ rfl (fun x hx => ?_)
      have hs0 := x0.below.size
      have hsx := x.below.size
      have B3 := Lib.hid (onto (onto B2.out (by omega) x0.below) (by omega) x.below)
      have O3 := Lib.hid (show Own x.val w1.heap.size 5 (.slice (some ⟨p, 0, none⟩) 0 0) 0 nF from own_new (by rw [x.below.block p hp2]; exact hp4) hp1)
      have L3 := Lib.hid (K0.out.below B3.out)
      clear hx0 hx hp3 hp4 B2
      obtain ⟨X3, hX3⟩ : ∃ X3, X3 = x.val := ⟨_, rfl⟩
      rw [← hX3] at hsx B3 O3 L3 ⊢
      clear hX3
      have hb13 : w1.heap.size ≤ X3.heap.size := by omega
      go_wp2_with (at_builtin; refine wpl_appB rfl (.tmp 35) (.tmp 36) rfl sli_u u8_info O3.out L3.out (by omega) hb13 rfl rfl ?_; intro v4 w4 ho4 hg4 ht4)
      rw [catF_zero, Nat.zero_add] at ho4
      have hs4 := hg4.size
      have B4 := Lib.hid (O3.out.after hg4 B3.out hb13 (Nat.le_refl _))
      have O4 := Lib.hid ho4
      refine same_class (C := fun _ => True) v4.ownBlock.toList ((Frm.app hg4).more (fun k hk => by simpa [Value.ownBlock, eq_comm] using hk)) (hot_app ho4 ht4 (fun k hk => by simpa [Value.ownBlock, eq_comm] using hk)) trivial (fun y z h => h) ?_
      clear ho4 hg4 ht4 O3 L3 B3
      refine wpM_e _ rfl (fun x hx => ?_)
      have hsx5 := x.below.size
      have B5 := Lib.hid (onto B4.out (by omega) x.below)
      have O5 := Lib.hid (O4.out.below x.below (Nat.le_refl _))
      clear hx B4 O4
      obtain ⟨X5, hX5⟩ : ∃ X5, X5 = x.val := ⟨_, rfl⟩
      rw [← hX5] at hsx5 B5 O5 ⊢
      clear hX5
      have hb15 : w1.heap.size ≤ X5.heap.size := by omega
      go_wp2_with (at_builtin; refine wpl_appZ rfl (.tmp 37) (.tmp 42) rfl sli_u i64_u u8_info O5.out K (by have := HK2.out; omega) hb15 rfl rfl ?_; intro v6 w6 ho6 hg6 ht6)
      have hs6 := hg6.size
      have B6 := Lib.hid (O5.out.after hg6 B5.out hb15 (Nat.le_refl _))
      have O6 := Lib.hid ho6
      refine same_class (C := fun _ => True) [] (Frm.app hg6) hot_none trivial (fun y z h => h) ?_
      clear ho6 hg6 ht6 O5 B5
      have hne : Nonempty (In (fun _ => True)) := ⟨⟨w1, trivial⟩⟩
      refine wpM_q ?_
      simp only [pk, List.getElem?_cons_zero, List.getElem?_cons_succ]
      repeat (go_big_quiet_step (fail))
      refine wpQuiet_nil ?_
      refine wpM_nil (fun x => ?_)
      have hsx7 := x.below.size
      have B7 := Lib.hid (onto B6.out (by omega) x.below)
      have O7 := Lib.hid (O6.out.below x.below (Nat.le_refl _))
      clear B6 O6 hne
      obtain ⟨X7, hX7⟩ : ∃ X7, X7 = x.val := ⟨_, rfl⟩
      rw [← hX7] at hsx7 B7 O7 ⊢
      clear hX7
      obtain ⟨A8, c8, hv8, hsl8, -, -⟩ := O7.out.sl
      rw [hv8]
      have L8 := Lib.hid hsl8
      have hb17 : w1.heap.size ≤ X7.heap.size := by omega
      have T7 := Lib.hid (HT1.out.below B7.out (by have := HT1.out.pos; omega))
      have M0 := Lib.hid ((K0.out.below B7.out).more hb17)
      have M1 := Lib.hid ((K1.out.below B7.out).more hb17)
      clear O7 hv8 hsl8
      go_wp2_with fail
      refine (msum_any (catF N a0 nF) a1 (N + K) M c8 c1 A8 A1 X7 T7.out L8.out M1.out (by have := HK2.out; omega) (by omega)).mono ?_
      rintro e w9 ⟨rfl, hb9⟩
      obtain ⟨D2, hD2⟩ : ∃ D2, D2 = macF (catF N a0 nF) (N + K) a1 M := ⟨_, rfl⟩
      rw [← hD2]
      have hx : eqB 32 D2 D = true := (eqB_iff _ _ _).2 fun i hi => by
        rw [HD.out, hD2]; exact macF_congr (fun j _ => key_zeros a0 N K HK2.out j) (fun _ _ => rfl) i hi
      have HX := Lib.hid hx
      have hs9 := hb9.size
      have T9 := Lib.hid (T7.out.below hb9 (by have := T7.out.pos; omega))
      have Q0 := Lib.hid ((M0.out.below hb9).more hs9)
      have Q1 := Lib.hid ((M1.out.below hb9).more hs9)
      have B9 := Lib.hid (onto B7.out hb17 hb9)
      clear hb9 hD2 T7 M0 M1 L8 hx
      go_wp2_with fail
      refine (msum_any a0 a1 N M c0 c1 A0 A1 w9 T9.out Q0.out Q1.out (by omega) (by omega)).mono ?_
      rintro e w10 ⟨rfl, hb10⟩
      rw [← HD.out]
      have BF := Lib.hid (onto B1.out hw1 (onto B9.out (by omega) hb10))
      have hx := HX.out
      clear hb10
      go_wp2_with fail
      go_ret
      exact ⟨rfl, BF.out⟩

set_option maxRecDepth 100000 in
theorem lifted (os : Os) (started : os.Started) (H : Type) (enc : TypeId × Value → H) :
    ReturnsInHanded {} Tryd.checked os 5 .any (fun w args => (Rows.macKeysSpec.pre enc Tryd.prog Tryd.f5 [] false w args ∧ laidMetH Tryd.prog laidL w) ∧ sizedMet enc Tryd.prog Tryd.f5 (OpenSpec.ofChange Rows.macKeysSpec) false w args) (Rows.macKeysSpec.post enc Tryd.prog Tryd.f5 false true false false) := by
  refine returnsInHanded_of_change_and (C := Tryd.checked) (X := fun w _ => laidMetH Tryd.prog laidL w) (fun _ _ _ hh h => h.of_heap hh) own started (by kernel_rfl) Tryd.func5
    (ChangeSpec.witness_shaped (enc := enc) (C := Tryd.checked) (os := os) (X := fun w _ => laidMetH Tryd.prog laidL w) false (World.doorLaid Tryd.prog 14 os) #[.slice none 0 0, .slice none 0 0, .int .i64 0] 8 rfl (World.shaped_of_RefB (by kernel_rfl) (by kernel_rfl)) (by kernel_rfl) (by kernel_rfl) (by kernel_rfl) (door_met os _)) ?_
  intro W base args ds gs before hval0 hW _ _ hL _
  have hval : ∀ (j : Nat) t v, Tryd.f5.params[j]? = some t → args[j]? = some v → Value.okWide Tryd.prog W .any base t v := hval0
  have hW' := hW
  obtain ⟨p, q, hA0, hV, rfl, hfz, hnd⟩ := hW
  have hA : DataW.TrodAll enc Tryd.prog W 0 (fun _ => true) true Tryd.f5.params.toList args.toList ds p := hA0
  rw [Tryd.params5] at hA hval
  obtain ⟨v0, vs0, d0, ds0, p0, q0, hargs, rfl, rfl, h0, r0⟩ := trodAll_cons hA
  obtain ⟨v1, vs1, d1, ds1, p1, q1, rfl, rfl, rfl, h1, r1⟩ := trodAll_cons r0
  obtain ⟨v2, vs2, d2, ds2, p2, q2, rfl, rfl, rfl, h2, r2⟩ := trodAll_cons r1
  obtain ⟨rfl, rfl, rfl⟩ := trodAll_nil r2
  obtain rfl : args = #[v0, v1, v2] := by cases args; simp_all
  obtain ⟨rfl, rfl⟩ := trodVars_none hV
  have k0 := h0
  have lt0 : ∀ x ∈ p0, x.block < W.heap.size := by obtain ⟨m, hm⟩ := k0; exact DataW.trod_lt m _ _ _ hm
  obtain ⟨A0, n0, c0, a0, rfl, hs0, hm0⟩ := open_sl Tryd.underlying22 Tryd.underlying5 (by kernel_rfl) (hval 0 22 v0 rfl rfl) h0
  have k1 := h1
  have lt1 : ∀ x ∈ p1, x.block < W.heap.size := by obtain ⟨m, hm⟩ := k1; exact DataW.trod_lt m _ _ _ hm
  obtain ⟨A1, n1, c1, a1, rfl, hs1, hm1⟩ := open_sl Tryd.underlying22 Tryd.underlying5 (by kernel_rfl) (hval 1 22 v1 rfl rfl) h1
  obtain ⟨a2, rfl, rfl, rfl, w2⟩ := open_int Tryd.underlying3 (hval 2 3 v2 rfl rfl) h2
  clear hA0 hval0
  refine (walk a0 n0 c0 A0 a1 n1 c1 A1 a2 W hs0 hm0 hs1 hm1 w2 (tab_of hL)).mono fun e W' ⟨he, bel⟩ => ?_
  subst he
  exact ⟨_, rfl, _, _, _, [], _, [], hW', trodAll_mk1 (shut_bool Tryd.underlying4 _), (trodAll_cons_mk (Below.trod laidOut (by kernel_rfl) (of_decide_eq_true (by kernel_rfl)) k0 bel lt0) (trodAll_cons_mk (Below.trod laidOut (by kernel_rfl) (of_decide_eq_true (by kernel_rfl)) k1 bel lt1) (trodAll_cons_mk (shut_int Tryd.underlying3 w2) trodAll_mk0))), rfl, bel.frame _, fun h => by cases h⟩

theorem over : Rows.macKeysRow.holds Tryd.pinned (OpenSpec.ofChange Rows.macKeysSpec) :=
  OpenClaim.holds_of_wide 5 Tryd.f5 rfl rfl rfl rfl rfl rfl rfl ⟨rfl, rfl, rfl, rfl, rfl⟩ rfl rfl rfl rfl rfl (by kernel_rfl) Tryd.func5 (by kernel_rfl)
    (of_decide_eq_true (by kernel_rfl)) (by unfold Func.isWrapper; first | (rw [if_pos (by decide +kernel)]; kernel_rfl) | (rw [if_neg (by decide +kernel)]; exact ⟨rfl, rfl⟩))
    (fun os started H enc _ => lifted os started H enc)

theorem proved : Rows.MacKeysCardSaid :=
  Claim7.holds_tied_plain_at .later [] [.data] true (true, "123987e15518b204523d58b1533dab46aa70de88d832fed111983713d9c464aa") false
    over (fun _ h => by cases h) (by kernel_rfl) (fun _ h => by cases h) macKeys_row_tie rfl ⟨rfl, rfl⟩ (by kernel_rfl) rfl
    (fun f fn hf hfn => by
      obtain rfl : f = 5 := Option.some.inj ((show Tryd.prog.funcNamed "strongroom/strongroomlaw06.MacKeys" = some 5 by kernel_rfl).symm.trans hf) |>.symm
      obtain rfl : fn = Tryd.f5 := (Option.some.inj (Tryd.func5.symm.trans hfn)).symm
      exact ⟨by kernel_rfl, fun j t ht => by
        rw [Tryd.params5] at ht
        have hm : t ∈ [22, 3] := by simpa using Array.mem_of_getElem? ht
        have hall : ([22, 3].all fun u => !Tryd.prog.wantsStandIn u) = true := by kernel_rfl
        exact (show Tryd.prog.wantsStandIn t = false by simpa using List.all_eq_true.1 hall t hm)⟩)
    (by kernel_rfl)
#print axioms proved
end Go.Proofs.YtbncangoaldmiaaDoor.macKeys
