/- Contract of the reference's Xor. -/
import Derived.Test.YtokhldihfbaeoaaGcmC
import Derived.IntWalk
namespace Go.Proofs.Ytokhldihfbaeoaa.Oct
open Go.ChangeShapes Go.WideShapes Go.ChangeAt Go.RowKit
set_option linter.unusedVariables false

/-- what is known of the world on the way through the reference's Xor -/
structure XsInv (w : World) (k ct : Bf) (E X C base : Nat) (wr : World) (v : Value) (n : Nat) (F : Bf) : Prop where
  below : Below w.heap.size w wr
  e : row wr E = some (ba 240 (expF k))
  x : row wr X = some (ba 256 boxF)
  c : row wr C = some (ba 16 ct)
  own : Own wr base 5 v n F
  ne : v.ownBlock ≠ some C
  hE : w.heap.size ≤ E ∧ E < base
  hX : w.heap.size ≤ X ∧ X < base
  hC : base ≤ C
theorem XsInv.lt {w : World} {k ct : Bf} {E X C base : Nat} {wr : World} {v : Value} {n : Nat} {F : Bf} (h : XsInv w k ct E X C base wr v n F) : C < wr.heap.size := row_lt h.c
theorem XsInv.call {w : World} {k ct : Bf} {E X C base : Nat} {wr w' : World} {v : Value} {n : Nat} {F : Bf} (h : XsInv w k ct E X C base wr v n F) (hb : Below wr.heap.size wr w') : XsInv w k ct E X C base w' v n F :=
  ⟨onto h.below h.below.size hb, carry hb h.e, carry hb h.x, carry hb h.c, h.own.below hb (Nat.le_refl _), h.ne, h.hE, h.hX, h.hC⟩
theorem XsInv.put {w : World} {k ct : Bf} {E X C base : Nat} {wr : World} {v : Value} {n : Nat} {F : Bf} (h : XsInv w k ct E X C base wr v n F) (ct' : Bf) : XsInv w k ct' E X C base (wr.setRow C (ba 16 ct')) v n F :=
  have hC := h.hC
  have hE := h.hE
  have hX := h.hX
  ⟨below_setRow h.below (by omega) _, by rw [row_setRow_other _ _ _ _ (by omega)]; exact h.e, by rw [row_setRow_other _ _ _ _ (by omega)]; exact h.x, row_setRow h.c _, h.own.setRow C h.ne _, h.ne, h.hE, h.hX, h.hC⟩
theorem XsInv.grown {w : World} {k ct : Bf} {E X C base : Nat} {wr w' : World} {v v' : Value} {n n' : Nat} {F F' : Bf} (h : XsInv w k ct E X C base wr v n F) (hg : wr.grownBy w' v.ownBlock) (ho : Own w' base 5 v' n' F') (ht : v'.ownBlock = v.ownBlock ∨ v'.ownBlock = some wr.heap.size) : XsInv w k ct E X C base w' v' n' F' :=
  have hE := h.hE
  have hX := h.hX
  have low : ∀ b, b < base → v.ownBlock ≠ some b := fun b hb e => by
    have := h.own
    unfold Own at this
    have := (World.ownsRow.lt this b e).1
    omega
  ⟨h.own.after hg h.below h.below.size (by omega), grown_row hg h.e (low E hE.2), grown_row hg h.x (low X hX.2), grown_row hg h.c h.ne, ho, by
    rcases ht with e | e
    · rw [e]; exact h.ne
    · rw [e]; have := h.lt; simp; omega, h.hE, h.hX, h.hC⟩

set_option maxRecDepth 20000 in
set_option maxHeartbeats 4000000 in
theorem rgxor_any (k n : Bf) (a : Nat) (ha : a < 4294967296) (b : Bf) (L c : Nat) (A : Option Addr) (w : World) (hs : Sl w w.heap.size A L c b) (hL : L ≤ 1099511627776) :
    Calls Try.prog 13 #[.agg (ba 32 k), .agg (ba 12 n), .int .u32 a, .slice A L c] w fun e w' => ∃ v, e = .returned v ∧ Own w' w.heap.size 5 v L (xorS k n a b) ∧ Below w.heap.size w w' := by
  have B0 := ((Below.refl w.heap.size w).alloc (by simp) (.cells (ba 32 k) 23)).alloc (by simp) (.cells (ba 12 n) 25)
  have HS := Lib.hid (hs.below B0)
  have HB0 := Lib.hid B0
  have q0 : row ((w.alloc (.cells (ba 32 k) 23)).alloc (.cells (ba 12 n) 25)) w.heap.size = some (ba 32 k) := by simp [go_sem]
  have q1 : row ((w.alloc (.cells (ba 32 k) 23)).alloc (.cells (ba 12 n) 25)) (w.heap.size + 1) = some (ba 12 n) := by simp [go_sem]
  have s0 : ((w.alloc (.cells (ba 32 k) 23)).alloc (.cells (ba 12 n) 25)).heap.size = w.heap.size + 2 := by simp
  clear hs B0
  go_enter Try.func13, Try.ntmps13
  go_wp2_with fail
  generalize (w.alloc (.cells (ba 32 k) 23)).alloc (.cells (ba 12 n) 25) = w0 at HS HB0 q0 q1 s0 ⊢
  refine (refexpand_any k _).mono ?_
  rintro e w1 ⟨rfl, hb1⟩
  have HS1 := Lib.hid (HS.out.below (hb1.mono (by omega)))
  have HB1 := Lib.hid (onto HB0.out HB0.out.size hb1)
  have t1 := row_alloc (carry hb1 q1) (.cells (ba 240 (expF k)) 51)
  have te : row (w1.alloc (.cells (ba 240 (expF k)) 51)) w1.heap.size = some (ba 240 (expF k)) := row_alloc_at _ _ _ _ rfl
  have hw1 : w.heap.size + 2 ≤ w1.heap.size := by have := hb1.size; omega
  clear q0 q1 HS HB0 hb1 s0
  go_wp2_with fail
  have HS1' := Lib.hid (HS1.out.below ((Below.refl w.heap.size w1).alloc (by omega) (.cells (ba 240 (expF k)) 51)))
  have HB1' := Lib.hid (HB1.out.alloc (by omega) (.cells (ba 240 (expF k)) 51))
  have hE : w.heap.size ≤ w1.heap.size := by omega
  have s1 : (w1.alloc (.cells (ba 240 (expF k)) 51)).heap.size = w1.heap.size + 1 := by simp
  clear HS1 HB1
  generalize w1.alloc (.cells (ba 240 (expF k)) 51) = wa at HS1' HB1' t1 te s1 ⊢
  generalize w1.heap.size = E at te s1 hw1 hE ⊢
  refine (rboxes_any _).mono ?_
  rintro e w2 ⟨rfl, hb2⟩
  have HS2 := Lib.hid (HS1'.out.below (hb2.mono (by omega)))
  have HB2 := Lib.hid (onto HB1'.out HB1'.out.size hb2)
  have t1' := row_alloc (carry hb2 t1) (.cells (ba 256 boxF) 53)
  have te' := row_alloc (carry hb2 te) (.cells (ba 256 boxF) 53)
  have tx' : row (w2.alloc (.cells (ba 256 boxF) 53)) w2.heap.size = some (ba 256 boxF) := row_alloc_at _ _ _ _ rfl
  have hw2 : E < w2.heap.size := by have := hb2.size; omega
  have p1 := row_alloc t1' (.cells #[] 5)
  have pe := row_alloc te' (.cells #[] 5)
  have px := row_alloc tx' (.cells #[] 5)
  have B3 := ((HB2.out.alloc (by omega) (.cells (ba 256 boxF) 53)).alloc (by simp; omega) (.cells #[] 5))
  have HS3 := Lib.hid ((HS2.out.below ((Below.refl w.heap.size w2).alloc (by omega) (.cells (ba 256 boxF) 53))).below ((Below.refl w.heap.size _).alloc (by simp; omega) (.cells #[] 5)))
  have HO3 := Own.empty (w2.alloc (.cells (ba 256 boxF) 53)) (w2.heap.size + 1) 5 (xorS k n a b) (by simp)
  have s3 : ((w2.alloc (.cells (ba 256 boxF) 53)).alloc (.cells #[] 5)).heap.size = w2.heap.size + 2 := by simp
  rw [show (w2.alloc (.cells (ba 256 boxF) 53)).heap.size = w2.heap.size + 1 by simp] at HO3
  have HB3 := Lib.hid B3
  have HO3' := Lib.hid HO3
  clear t1 te t1' te' tx' HS1' HB1' hb2 s1 B3 HO3 HS2 HB2
  go_wp2_with fail
  generalize (w2.alloc (.cells (ba 256 boxF) 53)).alloc (.cells #[] 5) = w3 at p1 pe px HS3 HO3' s3 HB3 ⊢
  generalize w2.heap.size = X at px HO3' s3 hw2 ⊢
  refine (rctr_any n a ha _).mono ?_
  rintro e w4 ⟨rfl, hb4⟩
  have hX4 : XsInv w k (ctrF n a) E X w4.heap.size (X + 1) (w4.alloc (.cells (ba 16 (ctrF n a)) 35)) (.slice (some ⟨X + 1, 0, none⟩) 0 0) 0 (xorS k n a b) :=
    ⟨(onto HB3.out HB3.out.size hb4).alloc (by have := hb4.size; omega) _, row_alloc (carry hb4 pe) _, row_alloc (carry hb4 px) _, row_alloc_at _ _ _ _ rfl, (HO3'.out.below hb4 (Nat.le_refl _)).alloc _,
      by have := hb4.size; simp [Value.ownBlock]; omega, by omega, by omega, by have := hb4.size; omega⟩
  have HX4 := Lib.hid hX4
  have HS4 := Lib.hid ((HS3.out.below (hb4.mono (by omega))).below ((Below.refl w.heap.size w4).alloc (by have := hb4.size; omega) (.cells (ba 16 (ctrF n a)) 35)))
  have HA := Lib.hid ha
  clear hX4 hb4 HS3 HO3' HB3 p1 pe px s3 ha hw1 hw2 hE
  go_wp2_with fail
  generalize w4.heap.size = C at HX4 ⊢
  generalize w4.alloc (.cells (ba 16 (ctrF n a)) 35) = w5 at HX4 HS4 ⊢
  go_loopw [11, 13] (fun v i wr => ∃ j : Nat, 16 * j < L + 16 ∧ i = .int .i64 ((16 * j : Nat) : Int) ∧ XsInv w k (ctrF n ((a + j) % 4294967296)) E X C (X + 1) wr v (min L (16 * j)) (xorS k n a b)) (fun _ i _ => L + 16 - (intOf i).toNat)
  case atStart => exact ⟨0, by omega, rfl, by rw [Nat.mul_zero, Nat.min_zero, Nat.add_zero, Nat.mod_eq_of_lt HA.out]; exact HX4.out⟩
  case round =>
    obtain ⟨j, hj, rfl, hI⟩ := hrel
    obtain ⟨wo, rfl⟩ : ∃ wo : World, wo = wr := ⟨_, rfl⟩
    have HS := Lib.hid ((HS4.out.keep (w' := w) (fun g o hg => (HX4.out.below.cell (p := ⟨g, o, none⟩) hg).symm)))
    clear HX4 HS4
    have HI := Lib.hid hI
    clear hI
    obtain ⟨q, hq⟩ : ∃ q, q = 16 * j := ⟨_, rfl⟩
    rw [← hq]
    rw [← hq] at hj
    have HQ := Lib.hid hq
    clear hq
    by_cases hlt : q < L
    · have hd : decide ((q : Int) < (L : Int)) = true := by simp; omega
      obtain ⟨ct, hct⟩ : ∃ ct, ct = ctrF n ((a + j) % 4294967296) := ⟨_, rfl⟩
      have hI0 := HI.out
      rw [← hct] at hI0
      have HCT := Lib.hid hct
      have re := hI0.e
      have rx := hI0.x
      have rc := hI0.c
      clear hct
      have hmin : min L (16 * j) = q := by have := HQ.out; omega
      rw [hmin] at hI0
      clear HI hmin
      go_wp2_with fail
      refine (encrypts_any k ct _).mono ?_
      rintro e w6 ⟨rfl, hb6⟩
      obtain ⟨g, hg⟩ : ∃ g, g = encF k ct := ⟨_, rfl⟩
      rw [← hg]
      have HG := Lib.hid hg
      have hI6 := (hI0.call hb6).call ((Below.refl w6.heap.size w6).alloc (Nat.le_refl _) (.cells (ba 16 g) 35))
      have rg : row (w6.alloc (.cells (ba 16 g) 35)) w6.heap.size = some (ba 16 g) := row_alloc_at _ _ _ _ rfl
      have hne : u11.ownBlock ≠ some w6.heap.size := by
        intro e
        have := (hI0.call hb6).own
        unfold Own at this
        have := (World.ownsRow.lt this _ e).2
        omega
      have HI6 := Lib.hid hI6
      have HN6 := Lib.hid hne
      have HR6 := Lib.hid rg
      clear re rx rc hI0 hb6 hg hI6 hne rg
      go_wp2_with fail
      generalize w6.heap.size = G at HN6 HR6 ⊢
      generalize w6.alloc (.cells (ba 16 g) 35) = w7 at HI6 HR6 ⊢
      obtain ⟨gb, o, hA, hgb, hcell⟩ := HS.out.at_ (by omega)
      subst hA
      have HC := Lib.hid hcell
      clear HS hcell
      go_loopw [11, 15] (fun v i wr => ∃ m : Nat, m ≤ 16 ∧ q + m ≤ L ∧ i = .int .i64 m ∧ XsInv w k ct E X C (X + 1) wr v (q + m) (xorS k n a b) ∧ row wr G = some (ba 16 g) ∧ v.ownBlock ≠ some G) (fun _ i _ => 16 - (intOf i).toNat)
      case atStart => exact ⟨0, by omega, by omega, rfl, HI6.out, HR6.out, HN6.out⟩
      case round =>
        clear HI6 HR6 HN6
        obtain ⟨m, hm, hqm, rfl, hI, rg, hne⟩ := hrel
        obtain ⟨wo, rfl⟩ : ∃ wo : World, wo = wr := ⟨_, rfl⟩
        by_cases hin : m < 16 ∧ q + m < L
        · obtain ⟨hm16, hqm'⟩ := hin
          have d1 : decide ((m : Int) < 16) = true := by simp; omega
          have d2 : decide ((q : Int) + (m : Int) < (L : Int)) = true := by simp; omega
          have hc := HC.out (q + m) hqm'
          rw [← hI.below.cell (p := ⟨gb, o + (q + m), none⟩) hgb] at hc
          go_wp2_with fail
          refine flow_seen [([0, 1, 2, 3, 4, 5, 6, 7, 8, 9, 10], 11, false), ([], 12, true)] [13] (by kernel_rfl) (by kernel_rfl) (fun _ _ _ _ _ h => h) fun Z => ?_
          have hbz := Z.below
          have HI1 := Lib.hid (hI.call hbz)
          have rg1 := carry hbz rg
          have hc1 := (hbz.cell (p := ⟨gb, o + (q + m), none⟩) (show gb < wo.heap.size by have := hI.below.size; omega)).trans hc
          have HNE := Lib.hid hne
          clear hc hI rg hne
          generalize Z.val = w8 at hbz HI1 rg1 hc1 ⊢
          clear Z
          have Q1 : ∀ x : After w8, x.val.cell? ⟨G, m, none⟩ = some (.int .u8 (I (g m))) := fun x => by rw [After.cell rg1 x, ba_get _ _ _ hm16]
          have Q2 : ∀ x : After w8, x.val.cell? ⟨gb, o + (q + m), none⟩ = some (.int .u8 (I (b (q + m)))) := fun x => (x.below.cell (p := ⟨gb, o + (q + m), none⟩) (show gb < w8.heap.size by have := HI1.out.below.size; omega)).trans hc1
          have e0 : (0 : Int) ≤ (q : Int) + (m : Int) := by omega
          have e2 : ((q : Int) + (m : Int)).toNat = q + m := by omega
          have e3 : (q : Int) + (m : Int) < (L : Int) := by omega
          have e4 : IntKind.i64.wrap ((q : Int) + (m : Int)) = (q : Int) + (m : Int) := IntWalk.i64_in _ (by omega)
          simp only [wpFs, pk, List.getElem?_cons_zero, List.getElem?_cons_succ]
          repeat (go_big_quiet_step (fail))
          refine wpQuiet_nil ?_
          clear Q1 Q2 e0 e2 e3 e4 hc1
          go_wp2_with fail
          refine ⟨.inr ((Below.refl _ _).alloc (Nat.le_refl _) _), ?_⟩
          have HI2 := Lib.hid (HI1.out.call ((Below.refl _ _).alloc (Nat.le_refl _) (.cells #[.int .u8 (I (b (q + m) ^^^ g m))] 5)))
          have rg2 := row_alloc rg1 (.cells #[.int .u8 (I (b (q + m) ^^^ g m))] 5)
          have HS2 := Sl.one w8 5 (b (q + m) ^^^ g m) (w8.heap.size + 1) (by omega)
          have hsz : X + 1 ≤ (w8.alloc (.cells #[.int .u8 (I (b (q + m) ^^^ g m))] 5)).heap.size := by have := HI1.out.lt; have := HI1.out.hC; simp; omega
          show wpQuiet _ _ _ _ _ _
          refine wpQuiet_nil ?_
          go_wp2_with (at_builtin; refine wpl_appB rfl (.tmp 45) (.tmp 56) rfl sli_u u8_info HI2.out.own HS2 (by omega) hsz rfl rfl ?_; intro v' w9 ho hg ht)
          have HI3 := Lib.hid (HI2.out.grown hg (ho.congr (f' := xorS k n a b) fun i hi => by
            unfold catF
            by_cases h : i < q + m
            · rw [if_pos h]
            · rw [if_neg h]
              have := HQ.out
              unfold xorS
              rw [show i = q + m by omega, HG.out, HCT.out, show (q + m) / 16 = j by omega, show (q + m) % 16 = m by omega]) ht)
          have HR3 := Lib.hid (grown_row hg rg2 HNE.out)
          have HN3 := Lib.hid (show v'.ownBlock ≠ some G by
            rcases ht with e | e
            · rw [e]; exact HNE.out
            · rw [e]; have := row_lt rg2; simp only [ne_eq, Option.some.injEq]; omega)
          clear ho hg ht HS2 rg2 HI2 hsz
          show wpQuiet _ _ _ _ _ _
          repeat (go_big_quiet_step (fail))
          refine wpQuiet_nil ?_
          go_wp2_with fail
          go_roundw
          case rel => exact ⟨m + 1, by omega, by omega, by go_num, HI3.out, HR3.out, HN3.out⟩
          case measure => simp [intOf]; omega
        · have hcases : (decide ((m : Int) < 16) = false) ∨ (decide ((m : Int) < 16) = true ∧ decide ((q : Int) + (m : Int) < (L : Int)) = false) := by
            simp only [decide_eq_false_iff_not, decide_eq_true_eq]; omega
          have HI := Lib.hid hI
          have hrc := hI.c
          have HQM := Lib.hid (show q + m = min L (16 * (j + 1)) by have := HQ.out; omega)
          clear hin rg hne hI
          rcases hcases with d1 | ⟨d1, d2⟩
          all_goals
            go_wp2_with fail
            refine (rbnext_any ct _).mono ?_
            rintro e wn ⟨rfl, hbn⟩
            have hrn := carry hbn hrc
            have HIN := Lib.hid ((HI.out.call hbn).put (ctrF n ((a + (j + 1)) % 4294967296)))
            have HNX := Lib.hid (show ba 16 (nextF ct) = ba 16 (ctrF n ((a + (j + 1)) % 4294967296)) by rw [HCT.out, ctr_next_ba, cnt_step])
            have HQJ := Lib.hid (show q + 16 = 16 * (j + 1) by have := HQ.out; omega)
            have HQL := Lib.hid (show 16 * (j + 1) < L + 16 by have := HQ.out; omega)
            clear hbn HI
            go_wp2_with fail
            rw [HNX.out]
            go_roundw
            case rel =>
              have e := HIN.out
              rw [HQM.out] at e
              exact ⟨j + 1, HQL.out, by rw [← HQJ.out]; go_num, e⟩
            case measure => simp [intOf]; omega
    · have hd : decide ((q : Int) < (L : Int)) = false := by simp; omega
      go_wp2_with fail
      have HIO := HI.out.own.base (b' := w.heap.size) (by have := HI.out.hX; omega)
      have HIB := HI.out.below
      rw [show min L (16 * j) = L by have := HQ.out; omega] at HIO
      go_ret
      exact ⟨_, rfl, HIO, HIB⟩
end Go.Proofs.Ytokhldihfbaeoaa.Oct
