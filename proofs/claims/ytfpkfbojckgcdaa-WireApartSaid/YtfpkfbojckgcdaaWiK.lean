/- Contract: wire.Entry. -/
import Derived.Test.YtfpkfbojckgcdaaWiJ
namespace Go.Proofs.Ytfpkfbojckgcdaa.Oct
open Go.ChangeShapes Go.WideShapes Go.ChangeAt Go.RowKit
set_option linter.unusedVariables false

/-- an entry's writing -/
def entL (t k : Int) (x : Nat → Int) (T n : Nat) : Nat := nuL (th2 t k) 2 + txL T + lsL (natS x) n n
def entF (t k : Int) (x : Nat → Int) (T n : Nat) (f : Bf) : Bf := catF (nuL (th2 t k) 2 + txL T) (catF (nuL (th2 t k) 2) (nuF (th2 t k) 2) (txF T f)) (lsF (natS x) n n)
/-- what such a writer ends in -/
def cmP (E L : Nat) (F : Bf) (w : World) (e : Ending) (w' : World) : Prop :=
  (E ≠ 0 ∧ e = .returned (.tuple #[.slice none 0 0, .int .i64 (E : Nat)]) ∧ Below w.heap.size w w') ∨
  (E = 0 ∧ ∃ v, e = .returned (.tuple #[v, .int .i64 0]) ∧ Own w' w.heap.size 5 v L F ∧ Below w.heap.size w w')
set_option maxRecDepth 20000 in
set_option maxHeartbeats 8000000 in
theorem entry_any (t k : Int) (x : Nat → Int) (T n c c' : Nat) (A A' : Option Addr) (f : Bf) (w : World) (hf : Sl w w.heap.size A T c f) (hg : SlG w w.heap.size A' n c' (iV x)) (hb : ∀ j, -9223372036854775808 ≤ th2 t k j ∧ th2 t k j < 9223372036854775808)
    (hx : ∀ i, i < n → -9223372036854775808 ≤ x i ∧ x i < 9223372036854775808) (hn : n ≤ 9223372036854775807) :
    Calls Try.prog 23 #[entV t k (.slice A T c) (.slice A' n c')] w (cmP (enE t k x T n) (entL t k x T n) (entF t k x T n f) w) := by
  have R0 := Lib.hid (show row (w.alloc (.cells #[.int .i64 t, .int .i64 k, .slice A T c, .slice A' n c'] 43)) w.heap.size = some #[.int .i64 t, .int .i64 k, .slice A T c, .slice A' n c'] from row_alloc_at _ _ _ _ rfl)
  have B0 := Lib.hid (show Below w.heap.size w (w.alloc (.cells #[.int .i64 t, .int .i64 k, .slice A T c, .slice A' n c'] 43)) from (Below.refl _ _).alloc (by simp) _)
  have hz0 : w.heap.size ≤ (w.alloc (.cells #[.int .i64 t, .int .i64 k, .slice A T c, .slice A' n c'] 43)).heap.size := by simp
  have HF := Lib.hid hf
  have HG := Lib.hid hg
  have HB := Lib.hid hb
  have HX := Lib.hid hx
  obtain ⟨E, hE⟩ : ∃ E, E = enE t k x T n := ⟨_, rfl⟩
  have HE := Lib.hid hE
  have HC := Lib.hid (chent_any t k x T n c c' A A' _ ((hg.below B0.out).more hz0) hn)
  rw [← hE] at HC ⊢
  clear hf hg hb hE hx hn
  go_enter Try.func23, Try.ntmps23
  go_wp2_with fail
  refine HC.out.mono ?_
  rintro e w1 ⟨rfl, hb1⟩
  have B1 := Lib.hid (onto B0.out hz0 hb1)
  have R1 := Lib.hid (carry hb1 R0.out)
  clear hb1 R0 B0 hz0 HC
  by_cases h0 : E = 0
  · have HZ := Lib.hid (show enE t k x T n = 0 by rw [← HE.out]; exact h0)
    obtain ⟨p0, p1, p2, pT, pU⟩ := ent_ok HZ.out
    subst h0
    have F1 := Lib.hid ((HF.out.below B1.out).more B1.out.size)
    have G1 := Lib.hid ((HG.out.below B1.out).more B1.out.size)
    clear HF HG
    go_wp2_with fail
    refine flow_seen [([0, 1, 2, 3, 6, 7, 9, 10], 4, false), ([], 5, false), ([], 8, false), ([], 11, true), ([], 12, true), ([], 13, true)] [14, 15, 16, 17] (by kernel_rfl) (by kernel_rfl) (fun _ _ _ _ _ h => h) fun Z => ?_
    have R2 := carry Z.below R1.out
    have B2 := Lib.hid (onto B1.out B1.out.size Z.below)
    have F2 := Lib.hid ((F1.out.below Z.below).more Z.below.size)
    have G2 := Lib.hid ((G1.out.below Z.below).more Z.below.size)
    clear R1 B1 F1 G1
    obtain ⟨w2, hw2⟩ : ∃ w2, w2 = Z.val := ⟨_, rfl⟩
    rw [← hw2] at R2 B2 F2 G2 ⊢
    clear hw2 Z
    have cc := fun x : After w2 => cells4 (After.row R2 x)
    simp only [wpFs, pk, List.getElem?_cons_zero, List.getElem?_cons_succ]
    repeat (go_big_quiet_step (fail))
    refine wpQuiet_nil ?_
    clear cc R2
    go_wp2_with fail
    have bx := (Below.refl w2.heap.size w2).alloc (Nat.le_refl _) (.cells #[.int .i64 t, .int .i64 k] 3)
    refine ⟨.inr bx, ?_⟩
    have r3 : row (w2.alloc (.cells #[.int .i64 t, .int .i64 k] 3)) w2.heap.size = some #[.int .i64 t, .int .i64 k] := row_alloc_at _ _ _ _ rfl
    have hz3 : (w2.alloc (.cells #[.int .i64 t, .int .i64 k] 3)).heap.size = w2.heap.size + 1 := by simp
    have F3 := Lib.hid ((F2.out.below bx).more (by omega : w2.heap.size ≤ (w2.alloc (.cells #[.int .i64 t, .int .i64 k] 3)).heap.size))
    have G3 := Lib.hid ((G2.out.below bx).more (by omega : w2.heap.size ≤ (w2.alloc (.cells #[.int .i64 t, .int .i64 k] 3)).heap.size))
    have B3 := Lib.hid (onto B2.out B2.out.size bx)
    obtain ⟨w3, hw3⟩ : ∃ w3, w3 = w2.alloc (.cells #[.int .i64 t, .int .i64 k] 3) := ⟨_, rfl⟩
    rw [← hw3] at r3 hz3 F3 G3 B3 ⊢
    have H3 := Lib.hid (mknums_any 2 2 (some ⟨w2.heap.size, 0, none⟩) (th2 t k) w3 (slG_row r3 (by omega) (Nat.le_refl _) fun j hj => by
      have : j = 0 ∨ j = 1 := by omega
      rcases this with rfl | rfl <;> rfl) (fun j _ => HB.out j) (by omega) (by omega))
    clear hw3 bx r3 hz3 F2 G2 B2
    show wpQuiet _ _ _ _ _ _
    refine wpQuiet_nil ?_
    go_wp2_with fail
    refine H3.out.mono ?_
    rintro e w4 ⟨v1, rfl, -, hp1, hb4⟩
    obtain ⟨g1, q1, hv1⟩ := hp1.shape
    subst hv1
    have P1 := Lib.hid hp1
    have F4 := Lib.hid ((F3.out.below hb4).more hb4.size)
    have G4 := Lib.hid ((G3.out.below hb4).more hb4.size)
    have B4 := Lib.hid (onto B3.out B3.out.size hb4)
    go_wp2_with fail
    refine ⟨.inr hb4, ?_⟩
    clear hp1 hb4 H3 F3 G3 B3
    have H4 := Lib.hid (mktext_any T c A f w4 F4.out)
    show wpQuiet _ _ _ _ _ _
    refine wpQuiet_nil ?_
    go_wp2_with fail
    refine H4.out.mono ?_
    rintro e w5 ⟨v2, rfl, -, hp2, hb5⟩
    obtain ⟨g2, q2, hv2⟩ := hp2.shape
    subst hv2
    have P2 := Lib.hid hp2
    have P1' := Lib.hid (P1.out.below hb5)
    have G5 := Lib.hid ((G4.out.below hb5).more hb5.size)
    have B5 := Lib.hid (onto B4.out B4.out.size hb5)
    go_wp2_with fail
    refine ⟨.inr hb5, ?_⟩
    clear hp2 hb5 H4 F4 G4 B4 P1
    have H5 := Lib.hid (mklist_any n c' A' x w5 G5.out HX.out (by omega))
    show wpQuiet _ _ _ _ _ _
    refine wpQuiet_nil ?_
    go_wp2_with fail
    refine H5.out.mono ?_
    rintro e w6 ⟨v3, rfl, -, hp3, hb6⟩
    obtain ⟨g3, q3, hv3⟩ := hp3.shape
    subst hv3
    have P3 := Lib.hid hp3
    have P2' := Lib.hid (P2.out.below hb6)
    have P1 := Lib.hid (P1'.out.below hb6)
    have B6 := Lib.hid (onto B5.out B5.out.size hb6)
    go_wp2_with fail
    refine ⟨.inl trivial, ?_⟩
    show wpQuiet _ _ _ _ _ _
    refine wpQuiet_nil ?_
    go_wp2_with fail
    have bx := (Below.refl w6.heap.size w6).alloc (Nat.le_refl _) (.cells #[.func (.func g1) #[] #[q1], .func (.func g2) #[] #[q2], .func (.func g3) #[] #[q3]] 54)
    refine ⟨.inl trivial, ?_⟩
    have r7 : row (w6.alloc (.cells #[.func (.func g1) #[] #[q1], .func (.func g2) #[] #[q2], .func (.func g3) #[] #[q3]] 54)) w6.heap.size = some #[.func (.func g1) #[] #[q1], .func (.func g2) #[] #[q2], .func (.func g3) #[] #[q3]] := row_alloc_at _ _ _ _ rfl
    have hz7 : (w6.alloc (.cells #[.func (.func g1) #[] #[q1], .func (.func g2) #[] #[q2], .func (.func g3) #[] #[q3]] 54)).heap.size = w6.heap.size + 1 := by simp
    have P1x := P1.out.below bx
    have P2x := P2'.out.below bx
    have P3x := P3.out.below bx
    have B7 := Lib.hid (onto B6.out B6.out.size bx)
    obtain ⟨w7, hw7⟩ : ∃ w7, w7 = w6.alloc (.cells #[.func (.func g1) #[] #[q1], .func (.func g2) #[] #[q2], .func (.func g3) #[] #[q3]] 54) := ⟨_, rfl⟩
    rw [← hw7] at r7 hz7 P1x P2x P3x B7 ⊢
    have hL9 := nuL_le (th2 t k) 2
    have hT9 := txL_le T
    have hU9 := lsL_le (natS x) n n
    have H7 := encode_any 3 3 (some ⟨w6.heap.size, 0, none⟩) (th3 (.func (.func g1) #[] #[q1]) (.func (.func g2) #[] #[q2]) (.func (.func g3) #[] #[q3])) (th3 (nuE (th2 t k) 2) (txE T) (nuE x n)) (th3 (nuL (th2 t k) 2) (txL T) (lsL (natS x) n n)) (th3 (nuF (th2 t k) 2) (txF T f) (lsF (natS x) n n)) w7
      (slG_row r7 (by omega) (Nat.le_refl _) fun j hj => by
        have : j = 0 ∨ j = 1 ∨ j = 2 := by omega
        rcases this with rfl | rfl | rfl <;> rfl)
      (fun j hj => by
        have : j = 0 ∨ j = 1 ∨ j = 2 := by omega
        rcases this with rfl | rfl | rfl
        · exact P1x
        · exact P2x
        · exact P3x)
      (fun j hj _ => by
        have h := cu_mono (th3 (nuL (th2 t k) 2) (txL T) (lsL (natS x) n n)) j (3 - j)
        rw [show j + (3 - j) = 3 by omega, (cu_th3 _ _ _ nF nF nF).1] at h
        omega) (by omega)
    have hE0 : fiE (th3 (nuE (th2 t k) 2) (txE T) (nuE x n)) 3 = 0 := fi_zero fun j hj => by
      have : j = 0 ∨ j = 1 ∨ j = 2 := by omega
      rcases this with rfl | rfl | rfl
      · exact nuE_of_pos fun m hm => by
          have : m = 0 ∨ m = 1 := by omega
          rcases this with rfl | rfl
          · exact p0
          · exact p1
      · show txE T = 0
        unfold txE; rw [if_neg (by omega)]
      · exact p2
    obtain ⟨eL, eF⟩ := cu_th3 (nuL (th2 t k) 2) (txL T) (lsL (natS x) n n) (nuF (th2 t k) 2) (txF T f) (lsF (natS x) n n)
    rw [hE0, eL, eF] at H7
    have H7' := Lib.hid H7
    clear hw7 bx r7 hz7 P1x P2x P3x P1 P2' P3 B6 H7 hE0 eL eF hL9 hT9 hU9
    show wpQuiet _ _ _ _ _ _
    refine wpQuiet_nil ?_
    go_wp2_with fail
    refine H7'.out.mono ?_
    rintro e w8 (⟨hz, _⟩ | ⟨-, v8, rfl, ho, hb8⟩)
    · exact absurd rfl hz
    rw [Nat.zero_add, catF_zero] at ho
    have O8 := Lib.hid ho
    have B8 := Lib.hid (onto B7.out B7.out.size hb8)
    go_wp2_with fail
    refine ⟨.inl trivial, ?_⟩
    clear ho hb8 H7'
    show wpQuiet _ _ _ _ _ _
    repeat (go_big_quiet_step (fail))
    refine wpQuiet_nil ?_
    go_wp2_with fail
    exact bodyPost_ret (v := .tuple #[v8, .int .i64 0]) (by simp [results, Try.results23, go_sem]) rfl (.inr ⟨rfl, _, rfl, O8.out.base B7.out.size, B8.out⟩)
  · have hne : ((E : Int) != 0) = true := by simp; omega
    have H0 := Lib.hid h0
    clear h0 HF HG
    go_wp2_with fail
    exact bodyPost_ret (v := .tuple #[.slice none 0 0, .int .i64 E]) (by simp [results, Try.results23, go_sem]) rfl (.inl ⟨H0.out, rfl, B1.out⟩)
end Go.Proofs.Ytfpkfbojckgcdaa.Oct
