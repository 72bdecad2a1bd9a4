/- Contracts of envelope's Blob, takeNumber, Read. -/
import Derived.Test.YtamemjldafoolaaGreatEvB
import Derived.Test.YtamemjldafoolaaGreatPkAll
import Derived.Test.YtamemjldafoolaaGreatConcat
namespace Go.Proofs.YtamemjldafoolaaGreat.Oct
open Go.ChangeShapes Go.WideShapes Go.ChangeAt Go.RowKit
set_option linter.unusedVariables false

set_option maxRecDepth 20000 in
set_option maxHeartbeats 2000000 in
theorem pbl_any (i v : Nat) (n : Bf) (b : Bf) (L c : Nat) (A : Option Addr) (w : World) (hi : i < 9223372036854775808) (hv : v < 9223372036854775808) (hb : Sl w w.heap.size A L c b) (hL : L ≤ 1099511627776) :
    Calls Tryz.prog 33 #[.int .i64 i, .int .i64 v, .agg (ba 12 n), .slice A L c] w fun e w' => ∃ r, e = .returned r ∧ Own w' w.heap.size 5 r (blL i v L) (blF i v n b) ∧ Below w.heap.size w w' := by
  obtain ⟨w0, hw0⟩ : ∃ w0, w0 = w.alloc (.cells (ba 12 n) 78) := ⟨_, rfl⟩
  have q0 : row w0 w.heap.size = some (ba 12 n) := by rw [hw0]; exact row_alloc_at _ _ _ _ rfl
  have B0 := Lib.hid (show Below w.heap.size w w0 by rw [hw0]; exact (Below.refl w.heap.size w).alloc (by simp) _)
  have HSB := Lib.hid hb
  have HW0 := Lib.hid hw0
  obtain ⟨G, hG⟩ : ∃ G, G = w.heap.size := ⟨_, rfl⟩
  have HG := Lib.hid hG
  rw [← hG] at q0
  clear hb hw0 hG
  go_enter Tryz.func33, Tryz.ntmps33
  go_wp2_with fail
  rw [← HW0.out, ← HG.out]
  refine (put_any i 0 0 none nF w0 (Sl.nothing _ _ _ _ _) (by omega) hi).mono ?_
  rintro e w1 ⟨v1, rfl, ho1, hb1⟩
  rw [catF_zero, Nat.zero_add] at ho1
  obtain ⟨A1, c1, rfl, h1, -, -⟩ := ho1.sl
  have q1 := carry hb1 q0
  have B1 := Lib.hid (onto B0.out B0.out.size hb1)
  have S1 := Lib.hid h1
  clear ho1 h1 hb1 q0 B0 HW0
  go_wp2_with fail
  have hle := encL_le i
  refine (put_any v (encL i) c1 A1 (encF i) w1 S1.out (by omega) hv).mono ?_
  rintro e w2 ⟨v2, rfl, ho2, hb2⟩
  obtain ⟨A2, c2, rfl, h2, -, -⟩ := ho2.sl
  have q2 := carry hb2 q1
  have B2 := Lib.hid (onto B1.out B1.out.size hb2)
  have S2 := Lib.hid (show Sl w2 w2.heap.size A2 (hdL i v) c2 (hdF i v) from h2)
  rw [show encL i + encL v = hdL i v from rfl]
  obtain ⟨N, hN⟩ : ∃ N, N = hdL i v := ⟨_, rfl⟩
  have hN18 : N ≤ 18 := by rw [hN]; exact (hdL_le i v).2
  rw [← hN] at S2 ⊢
  have HN := Lib.hid hN
  clear ho2 h2 hb2 q1 B1 S1 hle hN
  have sA := non_sl_a G w2
  go_wp2_with fail
  obtain ⟨w3, hw3⟩ : ∃ w3, w3 = w2.alloc (.cells #[.slice A2 N c2, .slice (some ⟨G, 0, none⟩) 12 12, .slice A L c] 33) := ⟨_, rfl⟩
  have b3 : Below w2.heap.size w2 w3 := by rw [hw3]; exact (Below.refl _ _).alloc (Nat.le_refl _) _
  have r3 : row w3 w2.heap.size = some #[.slice A2 N c2, .slice (some ⟨G, 0, none⟩) 12 12, .slice A L c] := by rw [hw3]; exact row_alloc_at _ _ _ _ rfl
  have q3 := carry b3 q2
  have B3 := Lib.hid (onto B2.out B2.out.size b3)
  have T3 := (S2.out.below b3).more b3.size
  have HB3 := (HSB.out.below B3.out).more B3.out.size
  rw [← hw3]
  clear hw3 q2 B2 S2 sA b3
  refine (concat3_any w2.heap.size 3 w3 r3 T3 (Sl.of_row q3 w3.heap.size (row_lt q3)) HB3 (by omega)).mono ?_
  rintro e w4 ⟨r, rfl, ho, hb4⟩
  have O4 := Lib.hid (show Own w4 w.heap.size 5 r (blL i v L) (blF i v n b) by
    have := ho.base B3.out.size
    rw [HN.out] at this
    unfold blF blL
    exact this)
  have B4 := Lib.hid (onto B3.out B3.out.size hb4)
  clear ho hb4 r3 q3 T3 HB3 B3
  go_wp2
  go_ret
  exact ⟨_, rfl, O4.out, B4.out⟩

/-- the number at the front, that must be one -/
def tnB (n : Nat) (f : Bf) : Bool := decide (tkE n f = 0 ∧ 1 ≤ tkV f)
def tnP (n : Nat) (f : Bf) (w : World) (e : Ending) (w' : World) : Prop :=
  (tnB n f = false ∧ e = .returned (.tuple #[.int .i64 0, .slice none 0 0, .int .i64 140]) ∧ Below w.heap.size w w') ∨
  (tnB n f = true ∧ ∃ A c, e = .returned (.tuple #[.int .i64 (tkV f : Nat), .slice A (n - tkL f) c, .int .i64 0]) ∧ Sl w' w'.heap.size A (n - tkL f) c (offF f (tkL f)) ∧ (∀ B, B < w.heap.size → Off B (n - tkL f) A) ∧ Below w.heap.size w w')
theorem tnB_iff {n : Nat} {f : Bf} : tnB n f = true ↔ tkE n f = 0 ∧ 1 ≤ tkV f := by unfold tnB; rw [decide_eq_true_eq]
theorem tnB_no {n : Nat} {f : Bf} : tnB n f = false ↔ ¬ (tkE n f = 0 ∧ 1 ≤ tkV f) := by unfold tnB; rw [decide_eq_false_iff_not]
set_option maxRecDepth 20000 in
set_option maxHeartbeats 2000000 in
theorem ptn_any (n c : Nat) (A : Option Addr) (f : Bf) (w : World) (hs : Sl w w.heap.size A n c f) (hn : n ≤ 140737488355328) :
    Calls Tryz.prog 78 #[.slice A n c] w (tnP n f w) := by
  have H0 := Lib.hid (take_num n c A f w hs hn)
  clear hs
  go_enter Tryz.func78, Tryz.ntmps78
  go_wp2_with fail
  refine H0.out.mono ?_
  rintro e w1 (⟨hz, rfl, hb⟩ | ⟨hz, v, rfl, ho, hb⟩)
  · have HZ := Lib.hid ((tnB_no (n := n) (f := f)).2 fun h => hz h.1)
    have HB := Lib.hid hb
    obtain ⟨E, hE⟩ : ∃ E, E = tkE n f := ⟨_, rfl⟩
    rw [← hE] at hz ⊢
    have hne : ((E : Int) != 0) = true := by simp; omega
    clear hb hE hz H0
    go_wp2_with fail
    exact bodyPost_ret (v := .tuple #[.int .i64 0, .slice none 0 0, .int .i64 140]) (by simp [results, Tryz.results78, go_sem]) rfl (.inl ⟨HZ.out, rfl, HB.out⟩)
  · obtain ⟨A1, c1, rfl, h1, -, -⟩ := ho.sl
    have S1 := Lib.hid h1
    have HF := Lib.hid (fun B (hB : B < w.heap.size) => Off.own ho hB)
    have HB := Lib.hid hb
    have HZ := Lib.hid hz
    obtain ⟨V, hV⟩ : ∃ V, V = tkV f := ⟨_, rfl⟩
    rw [← hV]
    have HV := Lib.hid hV
    clear hb hV hz H0 ho h1
    by_cases h1 : V < 1
    · have hd : decide ((V : Int) < 1) = true := by simp; omega
      have HN := Lib.hid ((tnB_no (n := n) (f := f)).2 fun h => by have := HV.out; have := h.2; omega)
      go_wp2_with fail
      exact bodyPost_ret (v := .tuple #[.int .i64 0, .slice none 0 0, .int .i64 140]) (by simp [results, Tryz.results78, go_sem]) rfl (.inl ⟨HN.out, rfl, HB.out⟩)
    · have hd : decide ((V : Int) < 1) = false := by simp; omega
      have HN := Lib.hid ((tnB_iff (n := n) (f := f)).2 ⟨HZ.out, by have := HV.out; omega⟩)
      go_wp2_with fail
      exact bodyPost_ret (v := .tuple #[.int .i64 V, .slice A1 (n - tkL f) c1, .int .i64 0]) (by simp [results, Tryz.results78, go_sem]) rfl (.inr ⟨HN.out, A1, c1, by rw [HV.out], S1.out, HF.out, HB.out⟩)

theorem res_rd {P : Program} {fn : Func} {p q r u v : Tmp} {ty : TypeId} (h : fn.results = #[.tmp p, .tmp q, .cell r ty, .tmp u, .tmp v]) (tmps : Array Value) (w : World) (b : Nat) (c : Array Value) (d : TypeDesc)
    (hp : tmps.getD r undef = .pointer (some ⟨b, 0, none⟩)) (hr : row w b = some c) (hu : P.underlying ty = some d) (hd : d.isRow = true) (hi : (P.info? ty).map (·.size) = some c.size) :
    (results fn tmps).run P w = .ok (.tuple #[tmps.getD p undef, tmps.getD q undef, .agg c, tmps.getD u undef, tmps.getD v undef]) w := by
  have hp2 : tmps[r]?.getD undef = .pointer (some ⟨b, 0, none⟩) := by simpa using hp
  simp only [results, h]
  simp [hp2, asAddr, ld_rowV hr hu hd hi]
theorem Off.cutK {B n c k : Nat} {A : Option Addr} (h : Off B n A) (hk : k < n) (hnc : n ≤ c) : Off B (n - k) (cutA A c k) := fun hn a ha => by
  unfold cutA at ha
  rw [if_neg (by omega)] at ha
  cases A with
  | none => cases ha
  | some x =>
    have := h (by omega) x rfl
    simp only [Option.map_some, Option.some.injEq] at ha
    subst ha
    cases x
    simp only [Addr.add] at this ⊢
    split <;> exact this
set_option maxRecDepth 20000 in
set_option maxHeartbeats 4000000 in
theorem prd_any (n c : Nat) (A : Option Addr) (f : Bf) (w : World) (hs : Sl w w.heap.size A n c f) (hn : n ≤ 140737488355328) :
    Calls Tryz.prog 54 #[.slice A n c] w fun e w' => ∃ A' c', e = .returned (.tuple #[.int .i64 (rdI n f), .int .i64 (rdV n f), .agg (ba 12 (rdN n f)), .slice A' (rdL n f) c', .int .i64 (rdE n f)]) ∧ Sl w' w'.heap.size A' (rdL n f) c' (rdF f) ∧ (∀ B, B < w.heap.size → Off B (rdL n f) A') ∧ Below w.heap.size w w' := by
  have hno : rdB n f = false → ∀ (tm : Array Value), tm.getD 2 undef = .int .i64 0 → tm.getD 3 undef = .int .i64 0 → tm.getD 4 undef = .pointer (some ⟨w.heap.size, 0, none⟩) → tm.getD 5 undef = .slice none 0 0 → tm.getD 6 undef = .int .i64 140 → ∀ (w2 : World), Below w.heap.size w w2 → row w2 w.heap.size = some (ba 12 fun _ => 0#8) →
      bodyPost Tryz.prog Tryz.f54 (fun e w' => ∃ A' c', e = .returned (.tuple #[.int .i64 (rdI n f), .int .i64 (rdV n f), .agg (ba 12 (rdN n f)), .slice A' (rdL n f) c', .int .i64 (rdE n f)]) ∧ Sl w' w'.heap.size A' (rdL n f) c' (rdF f) ∧ (∀ B, B < w.heap.size → Off B (rdL n f) A') ∧ Below w.heap.size w w') .ret { tmps := tm, defers := [] } w2 := by
    intro hB tm e2 e3 e4 e5 e6 w2 hb q2
    refine bodyPost_ret (v := .tuple #[.int .i64 0, .int .i64 0, .agg (ba 12 fun _ => 0#8), .slice none 0 0, .int .i64 140]) ?_ rfl ⟨none, 0, ?_, by rw [rdL_no hB]; exact Sl.nothing _ _ _ _ _, fun B _ => by rw [rdL_no hB]; exact Off.of_zero, hb⟩
    · have hr := res_rd (P := Tryz.prog) (fn := Tryz.f54) (p := 2) (q := 3) (r := 4) (u := 5) (v := 6) rfl tm w2 w.heap.size (ba 12 fun _ => 0#8) _ e4 q2 non_u rfl (by rw [ba_size]; exact non_i)
      rw [e2, e3, e5, e6] at hr
      exact hr
    · rw [rdI_no hB, rdV_no hB, rdN_no hB, rdL_no hB, rdE_no hB]
  have HNO := Lib.hid hno
  clear hno
  obtain ⟨w0, hw0⟩ : ∃ w0, w0 = w.alloc (.cells (ba 12 fun _ => 0#8) 78) := ⟨_, rfl⟩
  have q0 : row w0 w.heap.size = some (ba 12 fun _ => 0#8) := by rw [hw0]; exact row_alloc_at _ _ _ _ rfl
  have b0 : Below w.heap.size w w0 := by rw [hw0]; exact (Below.refl w.heap.size w).alloc (by simp) _
  have B0 := Lib.hid b0
  have H0 := Lib.hid (ptn_any n c A f w0 ((hs.below b0).more b0.size) hn)
  have HW0 := Lib.hid hw0
  clear hs hw0 b0
  go_enter Tryz.func54, Tryz.ntmps54
  go_wp2_with fail
  rw [← HW0.out]
  refine H0.out.mono ?_
  rintro e w1 (⟨hz, rfl, hb⟩ | ⟨hz, A1, c1, rfl, h1, ho, hb⟩)
  · have HZ := Lib.hid (show rdB n f = false by
      rw [Bool.eq_false_iff]; intro h; have := rdB_iff.1 h; exact tnB_no.1 hz ⟨this.1, this.2.1⟩)
    have q1 := carry hb q0
    have B1 := Lib.hid (onto B0.out B0.out.size hb)
    have HS1 := Lib.hid (setRow_self q1)
    clear H0 hz hb q0 B0 HW0
    go_wp2_with fail
    exact HNO.out HZ.out _ rfl rfl rfl rfl rfl _ (below_setRow B1.out (Nat.le_refl _) _) (row_setRow q1 _)
  · have HZ := Lib.hid hz
    have q1 := carry hb q0
    have B1 := Lib.hid (onto B0.out B0.out.size hb)
    obtain ⟨m, hm⟩ : ∃ m, m = n - tkL f := ⟨_, rfl⟩
    obtain ⟨g, hg⟩ : ∃ g, g = offF f (tkL f) := ⟨_, rfl⟩
    have hmn : m ≤ 140737488355328 := by omega
    rw [← hm, ← hg] at h1
    rw [← hm]
    have H1 := Lib.hid (ptn_any m c1 A1 g w1 h1 hmn)
    have HM := Lib.hid hm
    have HG := Lib.hid hg
    have HL := Lib.hid h1.le
    obtain ⟨V, hV⟩ : ∃ V, V = tkV f := ⟨_, rfl⟩
    rw [← hV]
    have HV := Lib.hid hV
    clear H0 hz hb q0 B0 HW0 h1 ho hm hg hV
    go_wp2_with fail
    refine H1.out.mono ?_
    rintro e w2 (⟨hz, rfl, hb⟩ | ⟨hz, A2, c2, rfl, h2, ho, hb⟩)
    · have HZ2 := Lib.hid (show rdB n f = false by
        rw [Bool.eq_false_iff]; intro h; have := rdB_iff.1 h
        refine tnB_no.1 hz ⟨?_, ?_⟩
        · rw [HM.out, HG.out]; exact this.2.2.1
        · rw [HG.out]; exact this.2.2.2.1)
      have q2 := carry hb q1
      have B2 := Lib.hid (onto B1.out B1.out.size hb)
      clear H1 hz hb q1 B1
      go_wp2_with fail
      exact HNO.out HZ2.out _ rfl rfl rfl rfl rfl _ (below_setRow B2.out (Nat.le_refl _) _) (row_setRow q2 _)
    · have q2 := carry hb q1
      have B2 := Lib.hid (onto B1.out B1.out.size hb)
      obtain ⟨k, hk⟩ : ∃ k, k = m - tkL g := ⟨_, rfl⟩
      obtain ⟨h, hh⟩ : ∃ h, h = offF g (tkL g) := ⟨_, rfl⟩
      rw [← hk, ← hh] at h2
      rw [← hk] at ho ⊢
      obtain ⟨U, hU⟩ : ∃ U, U = tkV g := ⟨_, rfl⟩
      rw [← hU]
      have HU := Lib.hid hU
      have HK := Lib.hid hk
      have HH := Lib.hid hh
      have S2 := Lib.hid h2
      have hsz := B1.out.size
      have HO := Lib.hid (show ∀ B, B < w.heap.size → Off B k A2 from fun B hB => ho B (by omega))
      have HO2 := Lib.hid (ho w.heap.size (row_lt q1))
      have HZ2 := Lib.hid hz
      have HB := Lib.hid (show rdB n f = decide (28 ≤ k ∧ k ≤ 92) by
        have h1 := tnB_iff.1 HZ.out
        have h2 := tnB_iff.1 HZ2.out
        rw [HM.out, HG.out] at h2
        have e : k = n - tkL f - tkL (rdR f) := by rw [HK.out, HM.out, HG.out]; rfl
        unfold rdB
        congr 1
        apply propext
        rw [e]
        exact ⟨fun h => h.2.2.2.2, fun h => ⟨h1.1, h1.2, h2.1, h2.2, h⟩⟩)
      have hkb : k ≤ 140737488355328 := by omega
      clear H1 hz hb q1 B1 h2 ho hk hh hU hsz HL
      by_cases hlo : k < 28
      · have HZ3 := Lib.hid (show rdB n f = false by rw [HB.out]; simp; omega)
        have hd : decide ((k : Int) - 12 < 16) = true := by simp; omega
        clear hlo
        go_wp2_with fail
        exact HNO.out HZ3.out _ rfl rfl rfl rfl rfl _ (below_setRow B2.out (Nat.le_refl _) _) (row_setRow q2 _)
      · have hd : decide ((k : Int) - 12 < 16) = false := by simp; omega
        by_cases hhi : 92 < k
        · have HZ3 := Lib.hid (show rdB n f = false by rw [HB.out]; simp; omega)
          have hd2 : decide ((80 : Int) < (k : Int) - 12) = true := by simp; omega
          clear hlo hhi
          go_wp2_with fail
          exact HNO.out HZ3.out _ rfl rfl rfl rfl rfl _ (below_setRow B2.out (Nat.le_refl _) _) (row_setRow q2 _)
        · have hd2 : decide ((80 : Int) < (k : Int) - 12) = false := by simp; omega
          have HZ3 := Lib.hid (show rdB n f = true by rw [HB.out]; simp; omega)
          have h28 : 28 ≤ k := by omega
          clear hlo hhi
          have sA := non_sl_a w.heap.size w2
          go_wp2_with (refine wpl_copy rfl (.tmp 40) (.tmp 41) 33 33 5 rfl sli_u u8_i q2 S2.out (show 12 = min k 12 by omega) rfl rfl ?_)
          have eN : ba 12 (putF (fun _ => 0#8) 0 12 h) = ba 12 (rdN n f) := ba_ext fun i hi => by
            rw [rdN_ok HZ3.out, HH.out, HG.out, offF_offF]
            unfold putF rdO rdR
            rw [if_pos (by omega), Nat.sub_zero]
          have eF : offF h 12 = rdF f := by
            rw [HH.out, HG.out, offF_offF, offF_offF]; unfold rdF rdO rdR; rfl
          have eL : k - 12 = rdL n f := by rw [rdL_ok HZ3.out, HK.out, HM.out, HG.out]; rfl
          have q3 := row_setRow q2 (ba 12 (putF (fun _ => 0#8) 0 12 h))
          have ch : Chg w.heap.size w2 (w2.setRow w.heap.size (ba 12 (putF (fun _ => 0#8) 0 12 h))) := ⟨rfl, rfl, rfl, by simp, fun i _ hB => setRow_other w2 _ i _ hB⟩
          have S3 := ch.sl_up S2.out HO2.out
          have B3 := Lib.hid (below_setRow B2.out (Nat.le_refl w.heap.size) (ba 12 (putF (fun _ => 0#8) 0 12 h)))
          rw [eN] at q3 S3 B3 ⊢
          have T3 := Lib.hid (S3.from_ 12 (by omega))
          have HOC := Lib.hid (show ∀ B, B < w.heap.size → Off B (k - 12) (cutA A2 c2 12) from fun B hB => (HO.out B hB).cutK (by omega) S2.out.le)
          rw [eF] at T3
          have fr := run_from sli_u u8_i A2 k c2 12 (by omega : 12 ≤ k)
          rw [show ((12 : Nat) : Int) = 12 from rfl] at fr
          rw [eL] at T3 HOC fr
          have HF := Lib.hid fr
          clear S2 S3 q2 B2 ch eN eF eL sA hkb hd hd2 h28 hmn fr
          generalize w2.setRow w.heap.size (ba 12 (rdN n f)) = w3 at q3 B3 T3 ⊢
          obtain ⟨AC, hAC⟩ : ∃ a, a = cutA A2 c2 12 := ⟨_, rfl⟩
          obtain ⟨L, hL⟩ : ∃ a, a = rdL n f := ⟨_, rfl⟩
          obtain ⟨N, hN⟩ : ∃ a, a = rdN n f := ⟨_, rfl⟩
          rw [← hAC, ← hL] at T3 HOC HF
          rw [← hN] at q3
          have HL := Lib.hid hL
          have HN := Lib.hid hN
          clear hAC hL hN
          have frr := HF.out
          simp only [Act.put, List.setIfInBounds_toArray, List.set_cons_succ, List.set_cons_zero]
          refine flow_seen [([0, 1, 2, 3, 4, 5, 6], 7, false)] [8, 9] (by kernel_rfl) (by kernel_rfl) (fun _ _ _ _ _ h => h) fun X => ?_
          have q4 := After.row q3 X
          have B4 := Lib.hid (onto B3.out B3.out.size X.below)
          have T4 := Lib.hid ((T3.out.below X.below).more X.below.size)
          clear q3 B3 T3
          generalize X.val = w4 at q4 B4 T4 ⊢
          clear X
          have k4 := After.row q4
          simp only [wpFs, pk, List.getElem?_cons_zero, List.getElem?_cons_succ]
          repeat (go_big_quiet_step (fail))
          refine wpQuiet_nil ?_
          clear k4
          have e4 : w4.setRow w.heap.size (ba 12 N) = w4 := setRow_self q4
          go_wp2_with fail
          clear e4
          refine ⟨.inr (Below.refl _ _), ?_⟩
          show wpQuiet _ _ _ _ _ _
          repeat (go_big_quiet_step (fail))
          refine wpQuiet_nil ?_
          go_wp2
          have e1 : (V : Int) = rdI n f := by rw [rdI_ok HZ3.out, HV.out]
          have e2 : (U : Int) = rdV n f := by rw [rdV_ok HZ3.out, HU.out, HG.out]; rfl
          refine bodyPost_ret (v := .tuple #[.int .i64 V, .int .i64 U, .agg (ba 12 N), .slice AC L (c2 - 12), .int .i64 0]) ?_ rfl ⟨AC, c2 - 12, ?_, ?_, ?_, B4.out⟩
          · exact res_rd (P := Tryz.prog) (fn := Tryz.f54) (p := 2) (q := 3) (r := 4) (u := 5) (v := 6) rfl _ w4 w.heap.size (ba 12 N) _ rfl q4 non_u rfl (by rw [ba_size]; exact non_i)
          · rw [e1, e2, HN.out, HL.out, rdE_ok HZ3.out]
          · rw [← HL.out]; exact T4.out
          · rw [← HL.out]; exact HOC.out
end Go.Proofs.YtamemjldafoolaaGreat.Oct
