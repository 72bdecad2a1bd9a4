/- The statement ShaHashes: the law strongroomlaw05.ShaHashes answers true for every input, and leaves its arguments as they were. Condition: the package variable sha.roundConstants reads at the call as the text of the program lays it; the card ties that. -/
import Derived.Test.YtjebkokkgkkogaaDoorRows
import Derived.Test.YtjebkokkgkkogaaDoorLib
import Derived.Test.YtjebkokkgkkogaaDoorShaS
import Derived.Test.YtjebkokkgkkogaaDoorShaQ
import Derived.Test.YtjebkokkgkkogaaDoorTab
import Derived.Test.YtjebkokkgkkogaaDoorCards
import Derived.Test.YtjebkokkgkkogaaDoorTie
import Derived.SevenTiedAt
namespace Go.Proofs.YtjebkokkgkkogaaDoor.shaHashes
open Go.ChangeShapes Go.WideShapes Go.ChangeAt Go.RowKit
open Go.Proofs.YtjebkokkgkkogaaDoor.Oct
set_option linter.unusedVariables false

theorem own : ownKnob Tryd.prog.godebug = none := by kernel_rfl
theorem laidOut : laidOutB Tryd.prog = true := by kernel_rfl

set_option maxRecDepth 20000 in
set_option maxHeartbeats 4000000 in
theorem walk (a0 : Nat → BitVec 8) (n0 c0 : Nat) (A0 : Option Addr) (w : World) (hs0 : Sl w w.heap.size A0 n0 c0 a0) (hm0 : c0 ≤ maxLen) (htab : Tab w) :
    Calls Tryd.prog 3 #[.slice A0 n0 c0] w fun e w' => e = .returned (.bool true) ∧ Below w.heap.size w w' := by
  unfold maxLen at hm0
  have HT := Lib.hid htab
  have HS0 := Lib.hid hs0
  have hn0 : n0 ≤ c0 := hs0.le
  clear hs0 htab
  go_enter Tryd.func3, Tryd.ntmps3
  go_wp2_with fail
  refine (shown_any _ HT.out).mono ?_
  rintro e w1 ⟨rfl, hb1⟩
  have B1 := Lib.hid hb1
  have HT1 := Lib.hid (HT.out.below hb1 HT.out.pos)
  clear hb1
  have hcut : ∃ N, N ≤ 3000 ∧ N ≤ n0 ∧ ((3000 < n0 ∧ N = 3000) ∨ (n0 ≤ 3000 ∧ N = n0)) := ⟨min n0 3000, by omega, by omega, by omega⟩
  obtain ⟨N, hN, hNn, hcase⟩ := hcut
  have HS1 := Lib.hid ((HS0.out.below B1.out).upto N hNn)
  have HOE := Lib.hid (Own.empty w1 w1.heap.size 5 nF (Nat.le_refl _))
  have HSA := Lib.hid (HS1.out.below ((Below.refl w.heap.size w1).alloc B1.out.size (.cells #[] 5)))
  rcases hcase with ⟨hlt, hN2⟩ | ⟨hlt, rfl⟩
  case' inl =>
    have hd : decide ((3000 : Int) < (n0 : Int)) = true := by simp; omega
    have hup := run_upto sli_u u8_i A0 n0 c0 N (by omega)
    rw [show ((N : Nat) : Int) = 3000 by omega] at hup
    clear hN2
  case' inr =>
    have hd : decide ((3000 : Int) < (N : Int)) = false := by simp; omega
  all_goals
    go_wp2_with (at_builtin; refine wpl_appB rfl (.tmp 11) (.tmp 12) rfl sli_u u8_info HOE.out HSA.out (by omega) (by simp) rfl rfl ?_; intro v' w2 ho hg ht)
    rw [catF_zero, Nat.zero_add] at ho
    have b2 := HOE.out.after hg ((Below.refl w1.heap.size w1).alloc (Nat.le_refl _) _) (by simp) (Nat.le_refl _)
    have B2 := Lib.hid (onto B1.out B1.out.size b2)
    have HT2 := Lib.hid (HT1.out.below b2 HT1.out.pos)
    have HSI := Lib.hid ((HS1.out.below (b2.mono B1.out.size)).more (by have := b2.size; have := B1.out.size; omega : w.heap.size ≤ w2.heap.size))
    have s2 : w.heap.size ≤ w2.heap.size := B2.out.size
    obtain ⟨A', c', hv, hsl, -, -⟩ := ho.sl
    subst hv
    have HSL := Lib.hid hsl
    have k1 : ∀ x : After w2, (convert 22 9 (.slice A' N c')).run Tryd.prog x.val = .ok (.string (strOf N a0)) x.val := fun x => run_str sli_u u8_u str_u (After.sl HSL.out x)
    have k2 : ∀ x : After w2, (convert 22 9 (.slice A0 N c0)).run Tryd.prog x.val = .ok (.string (strOf N a0)) x.val := fun x => run_str sli_u u8_u str_u (After.sl HSI.out x)
    obtain ⟨D, hD⟩ : ∃ D, D = shaF kF iF a0 N := ⟨_, rfl⟩
    have hx : eqB 32 D D = true := eqB_refl _ _
    have HA := Lib.hid (show ∀ x : After w2, Calls Tryd.prog 8 #[.slice A' N c'] x.val fun e w' => e = .returned (.agg (ba 32 D)) ∧ Below x.val.heap.size x.val w' from fun x => by
      rw [hD]; exact hash_any a0 N c' A' _ (HT2.out.after x) (After.sl HSL.out x) (by omega))
    have HB := Lib.hid (show ∀ x : After w2, Calls Tryd.prog 9 #[.slice A0 N c0] x.val fun e w' => e = .returned (.agg (ba 32 D)) ∧ Below x.val.heap.size x.val w' from fun x => by
      rw [hD]; exact rhash_any a0 N c0 A0 _ (After.sl HSI.out x) (by omega))
    clear ho hg ht b2 hsl hd hD
    refine (HA.out ⟨w2, Below.refl _ _⟩).mono ?_
    rintro e w3 ⟨rfl, hb3⟩
    have hb3' : Below w2.heap.size w2 w3 := hb3
    have HB3 := Lib.hid hb3'
    clear hb3 hb3'
    go_wp2_with fail
    refine (HB.out ⟨w3, HB3.out⟩).mono ?_
    rintro e w4 ⟨rfl, hb4⟩
    have hb4' : Below w3.heap.size w3 w4 := hb4
    have hb24 : Below w2.heap.size w2 w4 := onto HB3.out HB3.out.size hb4'
    have hfin := Lib.hid (onto B2.out s2 hb24)
    have g1 : (convert 22 9 (.slice A' N c')).run Tryd.prog w4 = .ok (.string (strOf N a0)) w4 := k1 ⟨w4, hb24⟩
    have g2 : (convert 22 9 (.slice A0 N c0)).run Tryd.prog w4 = .ok (.string (strOf N a0)) w4 := k2 ⟨w4, hb24⟩
    clear k1 k2 hb4 hb4' hb24
    go_wp2_with fail
    go_ret
    exact ⟨rfl, hfin.out⟩

set_option maxRecDepth 100000 in
theorem lifted (os : Os) (started : os.Started) (H : Type) (enc : TypeId × Value → H) :
    ReturnsInHanded {} Tryd.checked os 3 .any (fun w args => (Rows.shaHashesSpec.pre enc Tryd.prog Tryd.f3 [] false w args ∧ laidMetH Tryd.prog laidL w) ∧ sizedMet enc Tryd.prog Tryd.f3 (OpenSpec.ofChange Rows.shaHashesSpec) false w args) (Rows.shaHashesSpec.post enc Tryd.prog Tryd.f3 false true false false) := by
  refine returnsInHanded_of_change_and (C := Tryd.checked) (X := fun w _ => laidMetH Tryd.prog laidL w) (fun _ _ _ hh h => h.of_heap hh) own started (by kernel_rfl) Tryd.func3
    (ChangeSpec.witness_shaped (enc := enc) (C := Tryd.checked) (os := os) (X := fun w _ => laidMetH Tryd.prog laidL w) false (World.doorLaid Tryd.prog 14 os) #[.slice none 0 0] 8 rfl (World.shaped_of_RefB (by kernel_rfl) (by kernel_rfl)) (by kernel_rfl) (by kernel_rfl) (by kernel_rfl) (door_met os _)) ?_
  intro W base args ds gs before hval0 hW _ _ hL _
  have hval : ∀ (j : Nat) t v, Tryd.f3.params[j]? = some t → args[j]? = some v → Value.okWide Tryd.prog W .any base t v := hval0
  have hW' := hW
  obtain ⟨p, q, hA0, hV, rfl, hfz, hnd⟩ := hW
  have hA : DataW.TrodAll enc Tryd.prog W 0 (fun _ => true) true Tryd.f3.params.toList args.toList ds p := hA0
  rw [Tryd.params3] at hA hval
  obtain ⟨v0, vs0, d0, ds0, p0, q0, hargs, rfl, rfl, h0, r0⟩ := trodAll_cons hA
  obtain ⟨rfl, rfl, rfl⟩ := trodAll_nil r0
  obtain rfl : args = #[v0] := by cases args; simp_all
  obtain ⟨rfl, rfl⟩ := trodVars_none hV
  have k0 := h0
  have lt0 : ∀ x ∈ p0, x.block < W.heap.size := by obtain ⟨m, hm⟩ := k0; exact DataW.trod_lt m _ _ _ hm
  obtain ⟨A0, n0, c0, a0, rfl, hs0, hm0⟩ := open_sl Tryd.underlying22 Tryd.underlying5 (by kernel_rfl) (hval 0 22 v0 rfl rfl) h0
  clear hA0 hval0
  refine (walk a0 n0 c0 A0 W hs0 hm0 (tab_of hL)).mono fun e W' ⟨he, bel⟩ => ?_
  subst he
  exact ⟨_, rfl, _, _, _, [], _, [], hW', trodAll_mk1 (shut_bool Tryd.underlying4 _), (trodAll_cons_mk (Below.trod laidOut (by kernel_rfl) (of_decide_eq_true (by kernel_rfl)) k0 bel lt0) trodAll_mk0), rfl, bel.frame _, fun h => by cases h⟩

theorem over : Rows.shaHashesRow.holds Tryd.pinned (OpenSpec.ofChange Rows.shaHashesSpec) :=
  OpenClaim.holds_of_wide 3 Tryd.f3 rfl rfl rfl rfl rfl rfl rfl ⟨rfl, rfl, rfl, rfl, rfl⟩ rfl rfl rfl rfl rfl (by kernel_rfl) Tryd.func3 (by kernel_rfl)
    (of_decide_eq_true (by kernel_rfl)) (by unfold Func.isWrapper; first | (rw [if_pos (by decide +kernel)]; kernel_rfl) | (rw [if_neg (by decide +kernel)]; exact ⟨rfl, rfl⟩))
    (fun os started H enc _ => lifted os started H enc)

theorem proved : Rows.ShaHashesCardSaid :=
  Claim7.holds_tied_plain_at .later [] [.data] true (true, "41cab3536d7d8cfc1298a26681f7246bf960c365c55272f18fb8baad2e179fa4") false
    over (fun _ h => by cases h) (by kernel_rfl) (fun _ h => by cases h) shaHashes_row_tie rfl ⟨rfl, rfl⟩ (by kernel_rfl) rfl
    (fun f fn hf hfn => by
      obtain rfl : f = 3 := Option.some.inj ((show Tryd.prog.funcNamed "strongroom/strongroomlaw05.ShaHashes" = some 3 by kernel_rfl).symm.trans hf) |>.symm
      obtain rfl : fn = Tryd.f3 := (Option.some.inj (Tryd.func3.symm.trans hfn)).symm
      exact ⟨by kernel_rfl, fun j t ht => by
        rw [Tryd.params3] at ht
        have hm : t ∈ [22] := by simpa using Array.mem_of_getElem? ht
        have hall : ([22].all fun u => !Tryd.prog.wantsStandIn u) = true := by kernel_rfl
        exact (show Tryd.prog.wantsStandIn t = false by simpa using List.all_eq_true.1 hall t hm)⟩)
    (by kernel_rfl)
#print axioms proved
end Go.Proofs.YtjebkokkgkkogaaDoor.shaHashes
