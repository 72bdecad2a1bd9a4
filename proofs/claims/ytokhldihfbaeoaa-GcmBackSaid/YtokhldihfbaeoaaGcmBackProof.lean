/- The statement GcmBack: the law strongroomlaw04.GcmBack answers true for every input, and leaves its arguments as they were. No further condition. -/
import Derived.Test.YtokhldihfbaeoaaRows
import Derived.Test.YtokhldihfbaeoaaOpen
import Derived.Test.YtokhldihfbaeoaaBox
import Derived.Test.YtokhldihfbaeoaaFlowF
namespace Go.Proofs.Ytokhldihfbaeoaa.gcmBack
open Go.ChangeShapes Go.WideShapes Go.ChangeAt Go.RowKit
open Go.Proofs.Ytokhldihfbaeoaa.Oct
set_option linter.unusedVariables false

theorem own : ownKnob Try.prog.godebug = none := by kernel_rfl
theorem laidOut : laidOutB Try.prog = true := by kernel_rfl

section
variable (k n s b : Bf) (ns L : Nat)
theorem back_low (i : Nat) (hi : i < L) : sealF k n s ns b L i = xorS k n 2 b i := by unfold sealF catF; rw [if_pos hi]
theorem back_tail (i : Nat) : offF (sealF k n s ns b L) L i = tagF k n s ns (xorS k n 2 b) L i := by
  unfold offF sealF catF; rw [if_neg (by omega), Nat.add_sub_cancel_left]
theorem back_tag : tagF k n s ns (sealF k n s ns b L) L = tagF k n s ns (xorS k n 2 b) L := tagF_congr (fun _ _ => rfl) (back_low k n s b ns L)
theorem opC_back : opC k n s ns (sealF k n s ns b L) (L + 16) = 0 := by
  unfold opC
  rw [if_neg (by omega), Nat.add_sub_cancel, back_tag, if_pos ((eqB_iff _ _ _).2 fun i _ => (back_tail k n s b ns L i).symm)]
theorem opL_back : opL k n s ns (sealF k n s ns b L) (L + 16) = L := by
  unfold opL; rw [opC_back, if_pos rfl, Nat.add_sub_cancel]
theorem xor_back (i : Nat) (hi : i < L) : xorS k n 2 (sealF k n s ns b L) i = b i := by
  have := congrFun (xorS_back k n 2 b) i
  unfold xorS at this ⊢
  rw [← this]
  congr 1
  exact back_low k n s b ns L i hi
theorem opC_turn (j : Nat) (hj : j < 16) (x : BitVec 8) (hx : x ≠ sealF k n s ns b L (L + j)) : opC k n s ns (upd (sealF k n s ns b L) (L + j) x) (L + 16) = 40 := by
  unfold opC
  rw [if_neg (by omega), Nat.add_sub_cancel]
  have h1 : tagF k n s ns (upd (sealF k n s ns b L) (L + j) x) L = tagF k n s ns (xorS k n 2 b) L := tagF_congr (fun _ _ => rfl) fun i hi => by
    unfold upd; rw [if_neg (by omega)]; exact back_low k n s b ns L i hi
  rw [h1, if_neg]
  intro h
  have := (eqB_iff _ _ _).1 h j hj
  rw [← back_tail k n s b ns L j] at this
  unfold offF upd at this
  rw [if_pos rfl] at this
  exact hx this.symm
end
theorem own_stored {w : World} {base n c g : Nat} {u : TypeId} {f : Bf} (h : Own w base u (.slice (some ⟨g, 0, none⟩) n c) n f) (k : Nat) (v : BitVec 8) :
    Own (w.setCell ⟨g, k, none⟩ (.int .u8 (I v))) base u (.slice (some ⟨g, 0, none⟩) n c) n (upd f k v) ∧ w.grownBy (w.setCell ⟨g, k, none⟩ (.int .u8 (I v))) (some g) := by
  unfold Own at h ⊢
  have := World.ownsRow.stored (w := w) h k (.int .u8 (I v))
  rw [← ba_set, Array.toList_setIfInBounds]
  exact this
theorem own_frozen {w : World} {base n c g : Nat} {u : TypeId} {f : Bf} (h : Own w base u (.slice (some ⟨g, 0, none⟩) n c) n f) (k : Nat) : w.frozen? ⟨g, k, none⟩ = false := by
  unfold Own at h
  rcases h.2 with ⟨e, _⟩ | ⟨g', cap, cur, e, _, hh, _⟩
  · cases e
  · simp only [Value.slice.injEq, Option.some.injEq, Addr.mk.injEq] at e
    obtain ⟨⟨rfl, _⟩, _⟩ := e
    exact frozen_of_row w g k cur u hh
theorem bit_turn : ∀ r : Fin 8, (2 ^ r.val : Int) % 256 = I (1#8 <<< r.val) := by decide +kernel
theorem bit_ne (v : BitVec 8) (r : Nat) (h : r < 8) : v ^^^ (1#8 <<< r) ≠ v := by
  have h1 : ∀ r : Fin 8, (1#8 <<< r.val : BitVec 8) ≠ 0#8 := by decide +kernel
  intro e
  apply h1 ⟨r, h⟩
  have : v ^^^ (v ^^^ (1#8 <<< r)) = v ^^^ v := by rw [e]
  rw [← BitVec.xor_assoc, BitVec.xor_self, BitVec.zero_xor] at this
  exact this
set_option maxRecDepth 20000 in
set_option maxHeartbeats 2000000 in
theorem walk (k0 m0 f0 : Nat → BitVec 8) (n0 c0 : Nat) (A0 : Option Addr) (a1 : Nat → BitVec 8) (n1 c1 : Nat) (A1 : Option Addr) (a2 : Int) (w : World) (hs0 : Sl w w.heap.size A0 n0 c0 f0) (hm0 : c0 ≤ maxLen) (hs1 : Sl w w.heap.size A1 n1 c1 a1) (hm1 : c1 ≤ maxLen) (w2 : (Lit.int .i64 a2).wf = true) :
    Calls Try.prog 6 #[.agg (boxC k0 m0 (.slice A0 n0 c0)), .slice A1 n1 c1, .int .i64 a2] w fun e w' => e = .returned (.bool true) ∧ Below w.heap.size w w' := by
  have B0 := Lib.hid ((Below.refl w.heap.size w).alloc (by simp) (.cells (boxC k0 m0 (.slice A0 n0 c0)) 28))
  have q0 : row (w.alloc (.cells (boxC k0 m0 (.slice A0 n0 c0)) 28)) w.heap.size = some (boxC k0 m0 (.slice A0 n0 c0)) := row_alloc_at _ _ _ _ rfl
  obtain ⟨L, hL⟩ : ∃ L, L = min n1 1000 := ⟨_, rfl⟩
  obtain ⟨M, hM⟩ : ∃ M, M = min n0 1000 := ⟨_, rfl⟩
  have HF := Lib.hid (fun w : World => few_any A0 n0 c0 hs0.le hm0 w)
  have HFL := Lib.hid (fun w : World => few_any A1 n1 c1 hs1.le hm1 w)
  rw [← hM] at HF
  rw [← hL] at HFL
  have HSL := Lib.hid (hs1.upto L (by omega))
  have HSM := Lib.hid (hs0.upto M (by omega))
  have hL0 : L ≤ 1000 := by omega
  have hM0 : M ≤ 1000 := by omega
  have HLM := Lib.hid (show M ≤ 1099511627776 ∧ L ≤ 1099511627776 ∧ L + 16 ≤ 1099511627776 by omega)
  have hw2 : -9223372036854775808 ≤ a2 ∧ a2 ≤ 9223372036854775807 := bounds_i64 w2
  clear hL hM hs0 hs1 hm0 hm1 w2
  go_enter Try.func6, Try.ntmps6
  go_wp2_with fail
  refine (shown_any _).mono ?_
  rintro e w1 ⟨rfl, hb1⟩
  have r0 := carry hb1 q0
  have B1 := Lib.hid (onto B0.out (by simp) hb1)
  have HW1 := Lib.hid (show w.heap.size + 1 ≤ w1.heap.size by have := hb1.size; simp at this; omega)
  clear hb1 B0 q0
  go_wp2_with fail
  refine (HFL.out _).mono ?_
  rintro e w2 ⟨rfl, rfl⟩
  go_wp2_with fail
  refine flow_seen [([0, 1, 2, 3, 4, 5, 7], 6, false), ([], 8, false)] [9] (by kernel_rfl) (by kernel_rfl) (fun _ _ _ _ _ h => h) fun X => ?_
  have t0 := carry X.below r0
  have B2 := Lib.hid (onto B1.out B1.out.size X.below)
  have HW2 := Lib.hid (show w.heap.size + 1 ≤ X.val.heap.size by have := X.below.size; have := HW1.out; omega)
  clear r0 B1 HW1
  generalize X.val = w2 at t0 B2 HW2 ⊢
  clear X
  have hK := fun x : After w2 => box_ld_key (After.row t0 x)
  have hN := fun x : After w2 => box_ld_non (After.row t0 x)
  have hC := fun x : After w2 => box_cell (After.row t0 x)
  simp only [wpFs, pk, List.getElem?_cons_zero, List.getElem?_cons_succ]
  repeat (go_big_quiet_step (fail))
  refine wpQuiet_nil ?_
  clear hK hN hC
  go_wp2_with fail
  refine (HF.out _).mono ?_
  rintro e w3 ⟨rfl, rfl⟩
  go_wp2_with fail
  refine ⟨.inr (Below.refl _ _), ?_⟩
  show wpQuiet _ _ _ _ _ _
  refine wpQuiet_nil ?_
  go_wp2_with fail
  refine (gseal_any k0 m0 f0 M c0 A0 a1 L c1 A1 _ ((HSM.out.below B2.out).more B2.out.size) ((HSL.out.below B2.out).more B2.out.size) HLM.out.1 HLM.out.2.1).mono ?_
  rintro e w4 ⟨v8, rfl, ho, hb4⟩
  obtain ⟨N6, hN6⟩ : ∃ N6, N6 = L + 16 := ⟨_, rfl⟩
  obtain ⟨W, hW⟩ : ∃ W, W = sealF k0 m0 f0 M a1 L := ⟨_, rfl⟩
  rw [← hN6, ← hW] at ho
  have HN6 := Lib.hid hN6
  have HWW := Lib.hid hW
  obtain ⟨A8, c8, rfl, h8, -, hA8⟩ := ho.sl
  obtain ⟨g, rfl, hg2⟩ : ∃ g, A8 = some ⟨g, 0, none⟩ ∧ w2.heap.size ≤ g := by
    rcases hA8 with rfl | ⟨g, h, h2⟩
    · have := h8.nil_zero rfl; omega
    · exact ⟨g, h, h2⟩
  have HO8 := Lib.hid ho
  have HG := Lib.hid (show w.heap.size + 1 ≤ g by have := HW2.out; omega)
  have B4 := Lib.hid (onto B2.out B2.out.size hb4)
  have r4 := carry hb4 t0
  clear hN6 hW hA8 hg2
  go_wp2_with fail
  refine ⟨.inr hb4, ?_⟩
  clear t0 B2 ho h8 hb4
  show wpQuiet _ _ _ _ _ _
  repeat (go_big_quiet_step (fail))
  refine wpQuiet_nil ?_
  go_wp2_with fail
  refine flow_seen [([0, 1, 2, 3, 4, 5, 7], 6, false), ([], 8, false)] [9, 10, 11, 12, 13] (by kernel_rfl) (by kernel_rfl) (fun _ _ _ _ _ h => h) fun Z => ?_
  have t4 := carry Z.below r4
  have B5 := Lib.hid (onto B4.out B4.out.size Z.below)
  have HO9 := Lib.hid (HO8.out.below Z.below (Nat.le_refl _))
  clear r4 B4 HO8
  generalize Z.val = w5 at t4 B5 HO9 ⊢
  clear Z
  have hK := fun x : After w5 => box_ld_key (After.row t4 x)
  have hN := fun x : After w5 => box_ld_non (After.row t4 x)
  have hC := fun x : After w5 => box_cell (After.row t4 x)
  simp only [wpFs, pk, List.getElem?_cons_zero, List.getElem?_cons_succ]
  repeat (go_big_quiet_step (fail))
  refine wpQuiet_nil ?_
  clear hK hN hC
  go_wp2_with fail
  refine (HF.out _).mono ?_
  rintro e w3 ⟨rfl, rfl⟩
  go_wp2_with fail
  refine ⟨.inr (Below.refl _ _), ?_⟩
  show wpQuiet _ _ _ _ _ _
  refine wpQuiet_nil ?_
  have HSW : Sl w5 w5.heap.size (some ⟨g, 0, none⟩) N6 c8 W := by
    obtain ⟨A, c, e, h, _⟩ := HO9.out.sl
    simp only [Value.slice.injEq] at e
    obtain ⟨rfl, _, rfl⟩ := e
    exact h
  have HS5 := Lib.hid HSW
  clear HSW
  go_wp2_with fail
  refine (gopen_any k0 m0 f0 M c0 A0 W N6 c8 _ _ ((HSM.out.below B5.out).more B5.out.size) HS5.out HLM.out.1 (by rw [HN6.out]; exact HLM.out.2.2)).mono ?_
  rintro e w6 ⟨v9, rfl, ho, hb6⟩
  rw [show opL k0 m0 f0 M W N6 = L by rw [HN6.out, HWW.out]; exact opL_back _ _ _ _ _ _] at ho
  rw [show opC k0 m0 f0 M W N6 = 0 by rw [HN6.out, HWW.out]; exact opC_back _ _ _ _ _ _]
  obtain ⟨A9, c9, rfl, h9, -, -⟩ := ho.sl
  have HS9 := Lib.hid (h9.congr (b' := a1) (by rw [HWW.out]; exact xor_back k0 m0 f0 a1 M L))
  have B6 := Lib.hid (onto B5.out B5.out.size hb6)
  have r6 := carry hb6 t4
  have HO6 := Lib.hid (HO9.out.below hb6 (Nat.le_refl _))
  go_wp2_with fail
  refine ⟨.inr hb6, ?_⟩
  clear t4 B5 HO9 HS5 ho h9 hb6
  show wpQuiet _ _ _ _ _ _
  repeat (go_big_quiet_step (fail))
  refine wpQuiet_nil ?_
  obtain ⟨SA, hSA⟩ : ∃ SA, SA = Oct.strOf L a1 := ⟨_, rfl⟩
  have cv9 := run_str (P := Try.prog) sli_u u8_u str_u HS9.out
  have cv1 := run_str (P := Try.prog) sli_u u8_u str_u (HSL.out.below B6.out)
  rw [← hSA] at cv9 cv1
  have hEq2 : ((N6 : Int) != (L : Int) + 16) = false := by have := HN6.out; simp; omega
  have hsub : (N6 : Int) - 16 = (L : Int) := by have := HN6.out; omega
  have hN6b : N6 ≤ 1016 := by have := HN6.out; omega
  clear hSA
  obtain ⟨Bt, hBt⟩ : ∃ Bt : Nat, (Bt : Int) = if a2 < 0 then -(a2 + 1) else a2 := ⟨(if a2 < 0 then -(a2 + 1) else a2).toNat, by split <;> omega⟩
  have hBb : Bt ≤ 9223372036854775807 := by split at hBt <;> omega
  by_cases hneg : a2 < 0
  case' pos =>
    rw [if_pos hneg] at hBt
    have hd : decide (a2 < 0) = true := by simp; omega
    have hBt' : -(a2 + 1) = (Bt : Int) := hBt.symm
    clear hBt
  case' neg =>
    rw [if_neg hneg] at hBt
    subst hBt
    have hd : decide ((Bt : Int) < 0) = false := by simp
  all_goals
    clear hneg
    obtain ⟨jj, hjj⟩ : ∃ jj, jj = Bt / 8 % 16 := ⟨_, rfl⟩
    obtain ⟨kk, hkk⟩ : ∃ kk, kk = L + jj := ⟨_, rfl⟩
    obtain ⟨rr, hrr⟩ : ∃ rr, rr = Bt % 8 := ⟨_, rfl⟩
    have hj16 : jj < 16 := by omega
    have hr8 : rr < 8 := by omega
    have hjm : (Bt : Int) / 8 % 16 = (jj : Int) := by omega
    have hks : (L : Int) + (jj : Int) = (kk : Int) := by omega
    have hrm : (Bt : Int) % 8 = (rr : Int) := by omega
    have hkN : kk < N6 := by omega
    have HKK := Lib.hid hkk
    clear hjj hkk hrr
    go_wp2_with fail
    obtain ⟨v, hv⟩ : ∃ v, v = W kk ^^^ (1#8 <<< rr) := ⟨_, rfl⟩
    have HV := Lib.hid hv
    refine flow_seen [([0, 1, 2, 3, 4, 5, 6, 7, 8, 9, 10], 11, true)] [] (by kernel_rfl) (by kernel_rfl) (fun _ _ _ _ _ h => h) fun Z => ?_
    have t6 := carry Z.below r6
    have B7 := Lib.hid (onto B6.out B6.out.size Z.below)
    have HO7 := Lib.hid (HO6.out.below Z.below (Nat.le_refl _))
    clear r6 B6 HO6
    generalize Z.val = w7 at t6 B7 HO7 ⊢
    clear Z
    have hcl : w7.cell? ⟨g, kk, none⟩ = some (.int .u8 (I (W kk))) := by
      obtain ⟨A, c, e, h, _⟩ := HO7.out.sl
      simp only [Value.slice.injEq] at e
      obtain ⟨rfl, _, rfl⟩ := e
      obtain ⟨g', o', e', _, hc⟩ := h.at_ (by omega)
      simp only [Option.some.injEq, Addr.mk.injEq] at e'
      obtain ⟨rfl, rfl, _⟩ := e'
      have := hc kk hkN
      rwa [Nat.zero_add] at this
    have hgl : g < w7.heap.size := by
      have h := HO7.out
      unfold Own at h
      have := (World.ownsRow.lt h g rfl).2
      exact this
    have hC := fun x : After w7 => (x.below.cell (p := ⟨g, kk, none⟩) hgl).trans hcl
    have hsh : (2 : Int) ^ rr % 256 = I (1#8 <<< rr) := bit_turn ⟨rr, hr8⟩
    have hfz := own_frozen HO7.out kk
    have hz0 : (0 : Int) ≤ (rr : Int) := by omega
    simp only [wpFs, pk, List.getElem?_cons_zero, List.getElem?_cons_succ]
    repeat (go_big_quiet_step (fail))
    refine wpQuiet_nil ?_
    rw [← hv]
    obtain ⟨hst, hgr⟩ := own_stored HO7.out kk v
    have HST := Lib.hid hst
    have HB8 := Lib.hid (B7.out.grown hgr B7.out.size (fun k e => by injection e with e; have := HG.out; omega))
    have t8 := grown_row hgr t6 (fun e => by injection e with e; have := HG.out; omega)
    clear hst hgr hC hsh hz0 hgl hv
    go_wp2_with fail
    refine ⟨.inl trivial, ?_⟩
    clear hcl hfz t6 B7 HO7
    generalize w7.setCell ⟨g, kk, none⟩ (.int .u8 (I v)) = w8 at HST HB8 t8 ⊢
    show wpQuiet _ _ _ _ _ _
    refine wpQuiet_nil ?_
    clear cv9 cv1
    go_wp2_with fail
    refine flow_seen [([0, 1, 2, 3, 4, 5, 7], 6, false), ([], 8, false)] [9, 10, 11, 12, 13] (by kernel_rfl) (by kernel_rfl) (fun _ _ _ _ _ h => h) fun Z => ?_
    have t9 := carry Z.below t8
    have B9 := Lib.hid (onto HB8.out HB8.out.size Z.below)
    have HO9 := Lib.hid (HST.out.below Z.below (Nat.le_refl _))
    clear t8 HB8 HST
    generalize Z.val = w9 at t9 B9 HO9 ⊢
    clear Z
    have hK := fun x : After w9 => box_ld_key (After.row t9 x)
    have hN := fun x : After w9 => box_ld_non (After.row t9 x)
    have hC := fun x : After w9 => box_cell (After.row t9 x)
    simp only [wpFs, pk, List.getElem?_cons_zero, List.getElem?_cons_succ]
    repeat (go_big_quiet_step (fail))
    refine wpQuiet_nil ?_
    clear hK hN hC
    go_wp2_with fail
    refine (HF.out _).mono ?_
    rintro e w3 ⟨rfl, rfl⟩
    go_wp2_with fail
    refine ⟨.inr (Below.refl _ _), ?_⟩
    show wpQuiet _ _ _ _ _ _
    refine wpQuiet_nil ?_
    have HSW : Sl w9 w9.heap.size (some ⟨g, 0, none⟩) N6 c8 (upd W kk v) := by
      obtain ⟨A, c, e, h, _⟩ := HO9.out.sl
      simp only [Value.slice.injEq] at e
      obtain ⟨rfl, _, rfl⟩ := e
      exact h
    have HS5 := Lib.hid HSW
    clear HSW
    go_wp2_with fail
    refine (gopen_any k0 m0 f0 M c0 A0 (upd W kk v) N6 c8 _ _ ((HSM.out.below B9.out).more B9.out.size) HS5.out HLM.out.1 (by rw [HN6.out]; exact HLM.out.2.2)).mono ?_
    rintro e wa ⟨va, rfl, ho, hba⟩
    have hop : opC k0 m0 f0 M (upd W kk v) N6 = 40 := by
      rw [HN6.out, HWW.out, HKK.out]
      refine opC_turn _ _ _ _ _ _ _ hj16 v ?_
      rw [HV.out, HWW.out, HKK.out]
      exact bit_ne _ _ hr8
    rw [show opL k0 m0 f0 M (upd W kk v) N6 = 0 by unfold opL; rw [hop]; rfl] at ho
    rw [hop]
    obtain ⟨Aa, ca, rfl, -, -, -⟩ := ho.sl
    have Ba := Lib.hid (onto B9.out B9.out.size hba)
    go_wp2_with fail
    refine ⟨.inr hba, ?_⟩
    clear t9 B9 HO9 HS5 ho hba hop
    show wpQuiet _ _ _ _ _ _
    repeat (go_big_quiet_step (fail))
    refine wpQuiet_nil ?_
    clear hEq2 hsub hjm hks hrm
    go_wp2
    go_ret
    exact ⟨rfl, Ba.out⟩

set_option maxRecDepth 100000 in
theorem lifted (os : Os) (started : os.Started) (H : Type) (enc : TypeId × Value → H) :
    ReturnsInHanded {} Try.checked os 6 .any (Rows.gcmBackSpec.pre6 enc Try.prog Try.f6 Rows.gcmBackRow.domain false) (Rows.gcmBackSpec.post enc Try.prog Try.f6 false true false false) := by
  refine returnsInHanded_of_change (C := Try.checked) own started (by kernel_rfl) Try.func6
    (ChangeSpec.witness6 (enc := enc) (C := Try.checked) false ⟨#[], #[.agg (Array.replicate 32 (.int .u8 0) ++ Array.replicate 12 (.int .u8 0) ++ #[.slice none 0 0]), .slice none 0 0, .int .i64 0], []⟩ 8 (by kernel_rfl) (by kernel_rfl) (by kernel_rfl) (by kernel_rfl)) ?_
  intro W base args ds gs before hval0 hW hcnd _
  have hval : ∀ (j : Nat) t v, Try.f6.params[j]? = some t → args[j]? = some v → Value.okWide Try.prog W .any base t v := hval0
  have hW' := hW
  obtain ⟨p, q, hA0, hV, rfl, hfz, hnd⟩ := hW
  have hA : DataW.TrodAll enc Try.prog W 0 (fun _ => true) true Try.f6.params.toList args.toList ds p := hA0
  rw [Try.params6] at hA hval
  obtain ⟨v0, vs0, d0, ds0, p0, q0, hargs, rfl, rfl, h0, r0⟩ := trodAll_cons hA
  obtain ⟨v1, vs1, d1, ds1, p1, q1, rfl, rfl, rfl, h1, r1⟩ := trodAll_cons r0
  obtain ⟨v2, vs2, d2, ds2, p2, q2, rfl, rfl, rfl, h2, r2⟩ := trodAll_cons r1
  obtain ⟨rfl, rfl, rfl⟩ := trodAll_nil r2
  obtain rfl : args = #[v0, v1, v2] := by cases args; simp_all
  obtain ⟨rfl, rfl⟩ := trodVars_none hV
  have k0 := h0
  have lt0 : ∀ x ∈ p0, x.block < W.heap.size := by obtain ⟨m, hm⟩ := k0; exact DataW.trod_lt m _ _ _ hm
  obtain ⟨kb0, mb0, A0, n0, c0, fb0, rfl, hs0, hm0⟩ := open_box (hval 0 28 v0 rfl rfl) h0
  have k1 := h1
  have lt1 : ∀ x ∈ p1, x.block < W.heap.size := by obtain ⟨m, hm⟩ := k1; exact DataW.trod_lt m _ _ _ hm
  obtain ⟨A1, n1, c1, a1, rfl, hs1, hm1⟩ := open_sl Try.underlying26 Try.underlying5 (by kernel_rfl) (hval 1 26 v1 rfl rfl) h1
  obtain ⟨a2, rfl, rfl, rfl, w2⟩ := open_int Try.underlying3 (hval 2 3 v2 rfl rfl) h2
  clear hA0 hval0
  refine (walk kb0 mb0 fb0 n0 c0 A0 a1 n1 c1 A1 a2 W hs0 hm0 hs1 hm1 w2).mono fun e W' ⟨he, bel⟩ => ?_
  subst he
  exact ⟨_, rfl, _, _, _, [], _, [], hW', trodAll_mk1 (shut_bool Try.underlying4 _), (trodAll_cons_mk (Below.trod laidOut (by kernel_rfl) (of_decide_eq_true (by kernel_rfl)) k0 bel lt0) (trodAll_cons_mk (Below.trod laidOut (by kernel_rfl) (of_decide_eq_true (by kernel_rfl)) k1 bel lt1) (trodAll_cons_mk (shut_int Try.underlying3 w2) trodAll_mk0))), rfl, bel.frame _, fun h => by cases h⟩

theorem over : Rows.gcmBackRow.holds Try.pinned (OpenSpec.ofChange Rows.gcmBackSpec) :=
  OpenClaim.holds_of_wide 6 Try.f6 rfl rfl rfl rfl rfl rfl rfl ⟨rfl, rfl, rfl, rfl, rfl⟩ rfl rfl rfl rfl rfl (by kernel_rfl) Try.func6 (by kernel_rfl)
    (of_decide_eq_true (by kernel_rfl)) (by unfold Func.isWrapper; first | (rw [if_pos (by decide +kernel)]; kernel_rfl) | (rw [if_neg (by decide +kernel)]; exact ⟨rfl, rfl⟩))
    (fun os started H enc _ => lifted os started H enc)

theorem proved : Rows.GcmBackSaid := over
#print axioms proved
end Go.Proofs.Ytokhldihfbaeoaa.gcmBack
