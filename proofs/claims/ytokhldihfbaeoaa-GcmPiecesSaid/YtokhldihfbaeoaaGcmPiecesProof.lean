/- The statement GcmPieces: the law strongroomlaw04.GcmPieces answers true for every input, and leaves its arguments as they were. No further condition. -/
import Derived.Test.YtokhldihfbaeoaaRows
import Derived.Test.YtokhldihfbaeoaaOpen
import Derived.Test.YtokhldihfbaeoaaBox
import Derived.Test.YtokhldihfbaeoaaFlowF
namespace Go.Proofs.Ytokhldihfbaeoaa.gcmPieces
open Go.ChangeShapes Go.WideShapes Go.ChangeAt Go.RowKit
open Go.Proofs.Ytokhldihfbaeoaa.Oct
set_option linter.unusedVariables false

theorem own : ownKnob Try.prog.godebug = none := by kernel_rfl
theorem laidOut : laidOutB Try.prog = true := by kernel_rfl

theorem str_cat (n m : Nat) (p q : Bf) : Oct.strOf n p ++ Oct.strOf m q = Oct.strOf (n + m) (catF n p q) := by
  unfold Oct.strOf
  have h : ((List.range n).map fun i => UInt8.ofNat (p i).toNat) ++ ((List.range m).map fun i => UInt8.ofNat (q i).toNat) = (List.range (n + m)).map fun i => UInt8.ofNat (catF n p q i).toNat := by
    rw [List.range_add, List.map_append, List.map_map]
    congr 1
    · apply List.map_congr_left
      intro i hi
      have := List.mem_range.1 hi
      simp [catF, this]
    · apply List.map_congr_left
      intro i _
      simp only [Function.comp, catF]
      rw [if_neg (by omega), Nat.add_sub_cancel_left]
  rw [← h]
  apply ByteArray.ext
  simp
theorem xor_cut (k n : Bf) (a : Nat) (b : Bf) (L at_ kk : Nat) (h : at_ = min L (16 * kk)) (i : Nat) (hi : i < L) : catF at_ (xorS k n a b) (xorS k n ((a + kk) % 4294967296) (offF b at_)) i = xorS k n a b i := by
  unfold catF
  by_cases h1 : i < at_
  · rw [if_pos h1]
  · rw [if_neg h1]
    have e : at_ = 16 * kk := by omega
    subst e
    unfold xorS offF
    rw [show 16 * kk + (i - 16 * kk) = i by omega, show ((a + kk) % 4294967296 + (i - 16 * kk) / 16) % 4294967296 = (a + i / 16) % 4294967296 by omega, show (i - 16 * kk) % 16 = i % 16 by omega]
theorem str_cut (k n : Bf) (a : Nat) (b : Bf) {N at_ R kk : Nat} (hN : N = at_ + R) (hc : at_ = min N (16 * kk)) : Oct.strOf N (xorS k n a b) = Oct.strOf at_ (xorS k n a b) ++ Oct.strOf R (xorS k n ((a + kk) % 4294967296) (offF b at_)) := by
  rw [str_cat, ← hN]
  exact str_congr fun i hi => (xor_cut k n a b N at_ kk hc i hi).symm
theorem sl_upto {w : World} {B n c : Nat} {A : Option Addr} {b : Bf} (h : Sl w B A n c b) (k : Nat) (hk : k ≤ n) (w : World) : (Instr.slice 26 (.slice A n c) none (some (.int .i64 (k : Int))) none).run Try.prog w = .ok (.slice A k c) w := run_upto sli_u u8_i A n c k (by have := h.le; omega) w
theorem sl_cut {w : World} {B n c : Nat} {A : Option Addr} {b : Bf} (h : Sl w B A n c b) (k : Nat) (hk : k ≤ n) : ∃ R, n = k + R ∧ Sl w B (cutA A c k) R (c - k) (offF b k) ∧ ∀ w, (Instr.slice 26 (.slice A n c) (some (.int .i64 (k : Int))) none none).run Try.prog w = .ok (.slice (cutA A c k) R (c - k)) w :=
  ⟨n - k, by omega, h.from_ k hk, run_from sli_u u8_i A n c k hk⟩
set_option maxRecDepth 20000 in
set_option maxHeartbeats 1500000 in
theorem walk (k0 m0 f0 : Nat → BitVec 8) (n0 c0 : Nat) (A0 : Option Addr) (a1 : Int) (f2 : Nat → BitVec 8) (n2 c2 : Nat) (A2 : Option Addr) (x2 : Int) (w : World) (hs0 : Sl w w.heap.size A0 n0 c0 f0) (hm0 : c0 ≤ maxLen) (w1 : (Lit.int .u32 a1).wf = true) (hs2 : Sl w w.heap.size A2 n2 c2 f2) (hm2 : c2 ≤ maxLen) (hx2 : (Lit.int .i64 x2).wf = true) :
    Calls Try.prog 8 #[.agg (boxC k0 m0 (.slice A0 n0 c0)), .int .u32 a1, .agg #[.slice A2 n2 c2, .int .i64 x2]] w fun e w' => e = .returned (.bool true) ∧ Below w.heap.size w w' := by
  have B0 := Lib.hid (((Below.refl w.heap.size w).alloc (by simp) (.cells (boxC k0 m0 (.slice A0 n0 c0)) 28)).alloc (by simp) (.cells #[.slice A2 n2 c2, .int .i64 x2] 45))
  have q0 : row ((w.alloc (.cells (boxC k0 m0 (.slice A0 n0 c0)) 28)).alloc (.cells #[.slice A2 n2 c2, .int .i64 x2] 45)) w.heap.size = some (boxC k0 m0 (.slice A0 n0 c0)) := row_alloc (row_alloc_at _ _ _ _ rfl) _
  have q1 : row ((w.alloc (.cells (boxC k0 m0 (.slice A0 n0 c0)) 28)).alloc (.cells #[.slice A2 n2 c2, .int .i64 x2] 45)) (w.heap.size + 1) = some #[.slice A2 n2 c2, .int .i64 x2] := by
    simp [go_sem]
  have HS2 := Lib.hid hs2
  have hn2 := hs2.le
  have hw1 : 0 ≤ a1 ∧ a1 ≤ 4294967295 := bounds_u32 w1
  have hwx : -9223372036854775808 ≤ x2 ∧ x2 ≤ 9223372036854775807 := bounds_i64 hx2
  obtain ⟨fr, rfl⟩ : ∃ fr : Nat, a1 = (fr : Int) := ⟨a1.toNat, by omega⟩
  have hfr : fr < 4294967296 := by omega
  clear hs2 hs0 w1 hw1
  go_enter Try.func8, Try.ntmps8
  go_wp2_with fail
  refine (shown_any _).mono ?_
  rintro e w1 ⟨rfl, hb1⟩
  have r0 := carry hb1 q0
  have r1 := carry hb1 q1
  have B1 := Lib.hid (onto B0.out (by simp; omega) hb1)
  clear hb1 B0 q0 q1
  have hcB : w1.cell? ⟨w.heap.size + 1, 0, none⟩ = some (.slice A2 n2 c2) := by rw [cell_row r1]; rfl
  have hcA : w1.cell? ⟨w.heap.size + 1, 1, none⟩ = some (.int .i64 x2) := by rw [cell_row r1]; rfl
  go_wp2_with fail
  refine (few_any A2 n2 c2 hn2 hm2 _).mono ?_
  rintro e w2 ⟨rfl, rfl⟩
  obtain ⟨L, hL⟩ : ∃ L, L = min n2 1000 := ⟨_, rfl⟩
  rw [← hL]
  have HSL := Lib.hid (HS2.out.upto L (by omega))
  have hL0 : L ≤ 1000 := by omega
  have hLc : L ≤ c2 := by omega
  clear hL hn2 hm2 HS2
  by_cases hneg : x2 < 0
  · have hd : decide (x2 < 0) = true := by simp; omega
    go_wp2_with fail
    go_ret
    exact ⟨rfl, B1.out⟩
  · have hd : decide (x2 < 0) = false := by simp; omega
    obtain ⟨X, rfl⟩ : ∃ X : Nat, x2 = (X : Int) := ⟨x2.toNat, by omega⟩
    obtain ⟨kk, hkk⟩ : ∃ kk, kk = X % 64 := ⟨_, rfl⟩
    have hk64 : kk < 64 := by omega
    have hmod : (X : Int) % 64 = (kk : Int) := by omega
    obtain ⟨K16, hK16⟩ : ∃ K16, K16 = 16 * kk := ⟨_, rfl⟩
    have hmul : 16 * (kk : Int) = (K16 : Int) := by omega
    have HK16 := Lib.hid hK16
    have hK := box_ld_key r0
    have hN := box_ld_non r0
    have HR0 := Lib.hid r0
    clear hkk hneg r0 hK16
    obtain ⟨at_, hat⟩ : ∃ at_, at_ = min L K16 := ⟨_, rfl⟩
    have HAT := Lib.hid (show at_ = min L (16 * kk) by rw [hat, HK16.out])
    rcases Nat.lt_or_ge K16 L with hlt | hge
    case' inl =>
      obtain rfl : at_ = K16 := by omega
      have hif : min (L : Int) (at_ : Int) = (at_ : Int) := by omega
      have hif2 : decide ((L : Int) ≤ (at_ : Int)) = false := by simp; omega
      have HLA := Lib.hid (show at_ ≤ L by omega)
      have HLT := Lib.hid hlt
      clear hlt hat
    case' inr =>
      obtain rfl : at_ = L := by omega
      have hif : min (at_ : Int) (K16 : Int) = (at_ : Int) := by omega
      have hif2 : decide ((at_ : Int) ≤ (K16 : Int)) = true := by simp; omega
      have HLA := Lib.hid (show at_ ≤ at_ by omega)
      have HLT := Lib.hid (show ¬ K16 < at_ by omega)
      clear hge hat
    all_goals
      clear hif hif2
      go_wp2_with fail
    all_goals
      clear h hK hN hcB hcA r1
      have HSA := Lib.hid (HSL.out.upto at_ HLA.out)
      have hLa : at_ ≤ 1000 := by have := HLA.out; omega
      refine (gxor_any k0 m0 fr hfr f2 _ c2 A2 _ ((HSL.out.below B1.out).more B1.out.size) (by omega)).mono ?_
      rintro e w4 ⟨v11, rfl, ho, hb4⟩
      obtain ⟨A11, c11, rfl, h11, -, -⟩ := ho.sl
      have H11 := Lib.hid h11
      have B4 := Lib.hid (onto B1.out B1.out.size hb4)
      have r4 := carry hb4 HR0.out
      clear ho h11 hb4 HR0 B1
      have hup := sl_upto HSL.out at_ HLA.out
      obtain ⟨R, hR, hSB, hfrom⟩ := sl_cut HSL.out at_ HLA.out
      have HR := Lib.hid hR
      have HSB := Lib.hid hSB
      have hRk : R ≤ 1000 := by omega
      clear hR hSB
      obtain ⟨ff, hff⟩ : ∃ ff, ff = (fr + kk) % 4294967296 := ⟨_, rfl⟩
      have hadd : ((fr : Int) + (kk : Int)) % 4294967296 = (ff : Int) := by omega
      have hffb : ff < 4294967296 := by omega
      have HFF := Lib.hid hff
      clear hff
      go_wp2_with fail
      refine flow_seen [([0, 1, 2, 3, 4, 5, 6, 7], 8, false)] [9] (by kernel_rfl) (by kernel_rfl) (fun _ _ _ _ _ h => h) fun Z => ?_
      have t0 := carry Z.below r4
      have B5 := Lib.hid (onto B4.out B4.out.size Z.below)
      have HT11 := Lib.hid ((H11.out.below Z.below).more Z.below.size)
      clear r4 B4 H11
      generalize Z.val = w5 at t0 B5 HT11 ⊢
      clear Z
      have hK := fun x : After w5 => box_ld_key (After.row t0 x)
      have hN := fun x : After w5 => box_ld_non (After.row t0 x)
      simp only [wpFs, pk, List.getElem?_cons_zero, List.getElem?_cons_succ]
      repeat (go_big_quiet_step (fail))
      refine wpQuiet_nil ?_
      clear hK hN
      go_wp2_with fail
      refine (gxor_any k0 m0 fr hfr f2 at_ c2 A2 _ ((HSA.out.below B5.out).more B5.out.size) (by omega)).mono ?_
      rintro e w6 ⟨v12, rfl, ho, hb6⟩
      obtain ⟨A12, c12, rfl, h12, -, -⟩ := ho.sl
      have H12 := Lib.hid h12
      have B6 := Lib.hid (onto B5.out B5.out.size hb6)
      have HU11 := Lib.hid ((HT11.out.below hb6).more hb6.size)
      have r6 := carry hb6 t0
      go_wp2_with fail
      refine ⟨.inr hb6, ?_⟩
      clear ho h12 hb6 t0 B5 HT11
      show wpQuiet _ _ _ _ _ _
      repeat (go_big_quiet_step (fail))
      refine wpQuiet_nil ?_
      go_wp2_with fail
      refine flow_seen [([0, 1, 2, 3, 4, 5, 6, 7, 8, 9, 10], 11, false)] [12] (by kernel_rfl) (by kernel_rfl) (fun _ _ _ _ _ h => h) fun Z => ?_
      have t0 := carry Z.below r6
      have B7 := Lib.hid (onto B6.out B6.out.size Z.below)
      have HV11 := Lib.hid ((HU11.out.below Z.below).more Z.below.size)
      have HV12 := Lib.hid ((H12.out.below Z.below).more Z.below.size)
      clear r6 B6 HU11 H12
      generalize Z.val = w7 at t0 B7 HV11 HV12 ⊢
      clear Z
      have hK := fun x : After w7 => box_ld_key (After.row t0 x)
      have hN := fun x : After w7 => box_ld_non (After.row t0 x)
      simp only [wpFs, pk, List.getElem?_cons_zero, List.getElem?_cons_succ]
      repeat (go_big_quiet_step (fail))
      refine wpQuiet_nil ?_
      clear hK hN hup hfrom
      go_wp2_with fail
      rw [hadd]
      clear hadd
      refine (gxor_any k0 m0 ff hffb (offF f2 at_) R (c2 - at_) (cutA A2 c2 at_) _ ((HSB.out.below B7.out).more B7.out.size) (by omega)).mono ?_
      rintro e w8 ⟨v13, rfl, ho, hb8⟩
      obtain ⟨A13, c13, rfl, h13, -, -⟩ := ho.sl
      have B8 := Lib.hid (onto B7.out B7.out.size hb8)
      have cv11 := run_str (P := Try.prog) sli_u u8_u str_u ((HV11.out.below hb8).more hb8.size)
      have cv12 := run_str (P := Try.prog) sli_u u8_u str_u ((HV12.out.below hb8).more hb8.size)
      have cv13 := run_str (P := Try.prog) sli_u u8_u str_u h13
      rw [str_cut k0 m0 fr f2 HR.out HAT.out, ← HFF.out] at cv11
      have hsz : ¬ 9223372036854775807 < (Oct.strOf at_ (xorS k0 m0 fr f2)).size + (Oct.strOf R (xorS k0 m0 ff (offF f2 at_))).size := by rw [str_size, str_size]; omega
      generalize Oct.strOf at_ (xorS k0 m0 fr f2) = S12 at cv11 cv12 hsz
      generalize Oct.strOf R (xorS k0 m0 ff (offF f2 at_)) = S13 at cv11 cv13 hsz
      go_wp2_with fail
      refine ⟨.inr hb8, ?_⟩
      clear ho h13 hb8 t0 B7 HV11 HV12
      show wpQuiet _ _ _ _ _ _
      repeat (go_big_quiet_step (fail))
      refine wpQuiet_nil ?_
      go_wp2
      go_ret
      exact ⟨rfl, B8.out⟩

set_option maxRecDepth 100000 in
theorem lifted (os : Os) (started : os.Started) (H : Type) (enc : TypeId × Value → H) :
    ReturnsInHanded {} Try.checked os 8 .any (Rows.gcmPiecesSpec.pre6 enc Try.prog Try.f8 Rows.gcmPiecesRow.domain false) (Rows.gcmPiecesSpec.post enc Try.prog Try.f8 false true false false) := by
  refine returnsInHanded_of_change (C := Try.checked) own started (by kernel_rfl) Try.func8
    (ChangeSpec.witness6 (enc := enc) (C := Try.checked) false ⟨#[], #[.agg (Array.replicate 32 (.int .u8 0) ++ Array.replicate 12 (.int .u8 0) ++ #[.slice none 0 0]), .int .u32 0, .agg #[.slice none 0 0, .int .i64 0]], []⟩ 8 (by kernel_rfl) (by kernel_rfl) (by kernel_rfl) (by kernel_rfl)) ?_
  intro W base args ds gs before hval0 hW hcnd _
  have hval : ∀ (j : Nat) t v, Try.f8.params[j]? = some t → args[j]? = some v → Value.okWide Try.prog W .any base t v := hval0
  have hW' := hW
  obtain ⟨p, q, hA0, hV, rfl, hfz, hnd⟩ := hW
  have hA : DataW.TrodAll enc Try.prog W 0 (fun _ => true) true Try.f8.params.toList args.toList ds p := hA0
  rw [Try.params8] at hA hval
  obtain ⟨v0, vs0, d0, ds0, p0, q0, hargs, rfl, rfl, h0, r0⟩ := trodAll_cons hA
  obtain ⟨v1, vs1, d1, ds1, p1, q1, rfl, rfl, rfl, h1, r1⟩ := trodAll_cons r0
  obtain ⟨v2, vs2, d2, ds2, p2, q2, rfl, rfl, rfl, h2, r2⟩ := trodAll_cons r1
  obtain ⟨rfl, rfl, rfl⟩ := trodAll_nil r2
  obtain rfl : args = #[v0, v1, v2] := by cases args; simp_all
  obtain ⟨rfl, rfl⟩ := trodVars_none hV
  have k0 := h0
  have lt0 : ∀ x ∈ p0, x.block < W.heap.size := by obtain ⟨m, hm⟩ := k0; exact DataW.trod_lt m _ _ _ hm
  obtain ⟨kb0, mb0, A0, n0, c0, fb0, rfl, hs0, hm0⟩ := open_box (hval 0 28 v0 rfl rfl) h0
  obtain ⟨a1, rfl, rfl, rfl, w1⟩ := open_int Try.underlying29 (hval 1 29 v1 rfl rfl) h1
  have k2 := h2
  have lt2 : ∀ x ∈ p2, x.block < W.heap.size := by obtain ⟨m, hm⟩ := k2; exact DataW.trod_lt m _ _ _ hm
  obtain ⟨A2, n2, c2, f2, x2, rfl, hs2, hm2, hx2⟩ := open_cut (hval 2 45 v2 rfl rfl) h2
  clear hA0 hval0
  refine (walk kb0 mb0 fb0 n0 c0 A0 a1 f2 n2 c2 A2 x2 W hs0 hm0 w1 hs2 hm2 hx2).mono fun e W' ⟨he, bel⟩ => ?_
  subst he
  exact ⟨_, rfl, _, _, _, [], _, [], hW', trodAll_mk1 (shut_bool Try.underlying4 _), (trodAll_cons_mk (Below.trod laidOut (by kernel_rfl) (of_decide_eq_true (by kernel_rfl)) k0 bel lt0) (trodAll_cons_mk (shut_int Try.underlying29 w1) (trodAll_cons_mk (Below.trod laidOut (by kernel_rfl) (of_decide_eq_true (by kernel_rfl)) k2 bel lt2) trodAll_mk0))), rfl, bel.frame _, fun h => by cases h⟩

theorem over : Rows.gcmPiecesRow.holds Try.pinned (OpenSpec.ofChange Rows.gcmPiecesSpec) :=
  OpenClaim.holds_of_wide 8 Try.f8 rfl rfl rfl rfl rfl rfl rfl ⟨rfl, rfl, rfl, rfl, rfl⟩ rfl rfl rfl rfl rfl (by kernel_rfl) Try.func8 (by kernel_rfl)
    (of_decide_eq_true (by kernel_rfl)) (by unfold Func.isWrapper; first | (rw [if_pos (by decide +kernel)]; kernel_rfl) | (rw [if_neg (by decide +kernel)]; exact ⟨rfl, rfl⟩))
    (fun os started H enc _ => lifted os started H enc)

theorem proved : Rows.GcmPiecesSaid := over
#print axioms proved
end Go.Proofs.Ytokhldihfbaeoaa.gcmPieces
