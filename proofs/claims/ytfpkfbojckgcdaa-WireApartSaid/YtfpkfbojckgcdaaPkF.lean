/- Contracts: Take, TakeText; the reference's. -/
import Derived.Test.YtfpkfbojckgcdaaPkE
namespace Go.Proofs.Ytfpkfbojckgcdaa.Oct
open Go.ChangeShapes Go.WideShapes Go.ChangeAt Go.RowKit
set_option linter.unusedVariables false

/-- what Take answers, and leaves -/
def taP (n : Nat) (f : Bf) (w : World) (e : Ending) (w' : World) : Prop :=
  (tkE n f ≠ 0 ∧ e = .returned (.tuple #[.int .i64 0, .slice none 0 0, .int .i64 (tkE n f : Nat)]) ∧ Below w.heap.size w w') ∨
  (tkE n f = 0 ∧ ∃ v, e = .returned (.tuple #[.int .i64 (tkV f : Nat), v, .int .i64 0]) ∧ Own w' w.heap.size 5 v (n - tkL f) (offF f (tkL f)) ∧ Below w.heap.size w w')

set_option maxHeartbeats 2000000 in
theorem take_num (n c : Nat) (A : Option Addr) (f : Bf) (w : World) (hs : Sl w w.heap.size A n c f) (hn : n ≤ 140737488355328) :
    Calls Try.prog 55 #[.slice A n c] w (taP n f w) := by
  have H0 := Lib.hid (reader_any n c A w)
  have HS := Lib.hid hs
  clear hs
  go_enter Try.func55, Try.ntmps55
  go_wp2_with fail
  refine H0.out.mono ?_
  rintro e w1 ⟨rfl, hw1⟩
  have r1 : row w1 w.heap.size = some #[.slice A n c] := by rw [hw1]; exact row_alloc_at _ _ _ _ rfl
  have B1 : Below w.heap.size w w1 := by rw [hw1]; exact (Below.refl _ _).alloc (Nat.le_refl _) _
  clear hw1 H0
  have hX := row_lt r1
  have H1 := Lib.hid (number_any w.heap.size w.heap.size n c A f w1 r1 (HS.out.below B1) (Nat.le_refl _))
  have HB1 := Lib.hid B1
  have R1 := Lib.hid r1
  clear r1 B1
  go_wp2_with fail
  refine H1.out.mono ?_
  rintro e w2 (⟨hz, rfl, hb⟩ | ⟨hz, rfl, A', c', hp, hs'⟩)
  · have HZ := Lib.hid hz
    have HB := Lib.hid (HB1.out.trans hb)
    clear H1 hb hz
    obtain ⟨E, hE⟩ : ∃ E, E = tkE n f := ⟨_, rfl⟩
    have hne : ((E : Int) == 0) = false := by have := HZ.out; rw [← hE] at this; simp; omega
    rw [← hE]
    have HE := Lib.hid hE
    clear hE
    go_wp2_with fail
    exact bodyPost_ret (v := .tuple #[.int .i64 0, .slice none 0 0, .int .i64 E]) (by simp [results, Try.results55, go_sem]) rfl (.inl ⟨HZ.out, by rw [HE.out], HB.out⟩)
  · have HB := Lib.hid (HB1.out.trans (hp.low (Nat.le_refl _) (by omega)))
    have HZ := Lib.hid hz
    have R2 := hp.row R1.out
    have hX2 := row_lt R2
    have H2 := Lib.hid (left_any w.heap.size (n - tkL f) c' A' (offF f (tkL f)) w2 R2 (hs'.more (Nat.le_of_lt hX2)) (by omega))
    clear H1 hp hs' hz R2
    go_wp2_with fail
    refine H2.out.mono ?_
    rintro e w3 ⟨v3, rfl, ho3, hb3⟩
    have O3 := Lib.hid (ho3.base (Nat.le_of_lt hX2))
    have B3 := Lib.hid (onto HB.out (Nat.le_of_lt hX2) hb3)
    clear H2 ho3 hb3
    go_wp2_with fail
    exact bodyPost_ret (v := .tuple #[.int .i64 (tkV f : Nat), v3, .int .i64 0]) (by simp [results, Try.results55, go_sem]) rfl (.inr ⟨HZ.out, _, rfl, O3.out, B3.out⟩)

/-- the error of a text, and what TakeText answers, and leaves -/
def ttE (n : Nat) (m : Int) (f : Bf) : Nat := if tkE n f ≠ 0 then tkE n f else if m < tkV f then 2 else if n - tkL f < tkV f then 3 else 0
def ttP (n : Nat) (m : Int) (f : Bf) (w : World) (e : Ending) (w' : World) : Prop :=
  (ttE n m f ≠ 0 ∧ e = .returned (.tuple #[.slice none 0 0, .slice none 0 0, .int .i64 (ttE n m f : Nat)]) ∧ Below w.heap.size w w') ∨
  (ttE n m f = 0 ∧ ∃ u v, e = .returned (.tuple #[u, v, .int .i64 0]) ∧ Own w' w.heap.size 5 u (tkV f) (offF f (tkL f)) ∧ Own w' w.heap.size 5 v (n - tkL f - tkV f) (offF f (tkL f + tkV f)) ∧ Below w.heap.size w w')
theorem offF_offF (f : Bf) (a b : Nat) : offF (offF f a) b = offF f (a + b) := by funext i; unfold offF; rw [Nat.add_assoc]

set_option maxHeartbeats 4000000 in
theorem taket_any (n c : Nat) (m : Int) (A : Option Addr) (f : Bf) (w : World) (hs : Sl w w.heap.size A n c f) (hn : n ≤ 140737488355328) :
    Calls Try.prog 57 #[.slice A n c, .int .i64 m] w (ttP n m f w) := by
  have H0 := Lib.hid (reader_any n c A w)
  have HS := Lib.hid hs
  clear hs
  go_enter Try.func57, Try.ntmps57
  go_wp2_with fail
  refine H0.out.mono ?_
  rintro e w1 ⟨rfl, hw1⟩
  have r1 : row w1 w.heap.size = some #[.slice A n c] := by rw [hw1]; exact row_alloc_at _ _ _ _ rfl
  have B1 : Below w.heap.size w w1 := by rw [hw1]; exact (Below.refl _ _).alloc (Nat.le_refl _) _
  clear hw1 H0
  have hX := row_lt r1
  have H1 := Lib.hid (upto_any w.heap.size w.heap.size n c m A f w1 r1 (HS.out.below B1) (Nat.le_refl _))
  have HB1 := Lib.hid B1
  have R1 := Lib.hid r1
  clear r1 B1
  go_wp2_with fail
  refine H1.out.mono ?_
  rintro e w2 (⟨hz, rfl, hb⟩ | ⟨hz, hm, rfl, hb⟩ | ⟨hz, hm, rfl, A', c', hp, hs'⟩)
  · have HE := Lib.hid (show ttE n m f = tkE n f by unfold ttE; rw [if_pos hz])
    have HZ := Lib.hid hz
    have HB := Lib.hid (HB1.out.trans hb)
    clear H1 hb hz
    obtain ⟨E, hE⟩ : ∃ E, E = tkE n f := ⟨_, rfl⟩
    have hne : ((E : Int) == 0) = false := by have := HZ.out; rw [← hE] at this; simp; omega
    rw [← hE]
    have HE2 := Lib.hid hE
    clear hE
    go_wp2_with fail
    exact bodyPost_ret (v := .tuple #[.slice none 0 0, .slice none 0 0, .int .i64 E]) (by simp [results, Try.results57, go_sem]) rfl (.inl ⟨by rw [HE.out]; exact HZ.out, by rw [HE.out, HE2.out], HB.out⟩)
  · have HE := Lib.hid (show ttE n m f = 2 by unfold ttE; rw [if_neg (fun h => h hz), if_pos hm])
    have HB := Lib.hid (HB1.out.trans hb)
    clear H1 hb hz hm
    go_wp2_with fail
    exact bodyPost_ret (v := .tuple #[.slice none 0 0, .slice none 0 0, .int .i64 2]) (by simp [results, Try.results57, go_sem]) rfl (.inl ⟨by rw [HE.out]; omega, by rw [HE.out]; rfl, HB.out⟩)
  · have HB := Lib.hid (HB1.out.trans (hp.low (Nat.le_refl _) (by omega)))
    have HZ := Lib.hid hz
    have HM := Lib.hid hm
    have R2 := Lib.hid (hp.row R1.out)
    have hX2 := row_lt R2.out
    have S2 := Lib.hid hs'
    have hnc := hs'.le
    obtain ⟨V, hV⟩ : ∃ V, V = tkV f := ⟨_, rfl⟩
    rw [← hV]
    have HV := Lib.hid hV
    clear H1 hp hs' hz hm hV
    by_cases hsh : n - tkL f < V
    · have HE := Lib.hid (show ttE n m f = 3 by unfold ttE; rw [if_neg (fun h => h HZ.out), if_neg HM.out, if_pos (by rw [← HV.out]; exact hsh)])
      have H2 := Lib.hid (take_short w.heap.size (n - tkL f) c' V A' w2 R2.out hsh)
      go_wp2_with fail
      refine H2.out.mono ?_
      rintro e w3 ⟨rfl, rfl⟩
      clear H2
      go_wp2_with fail
      exact bodyPost_ret (v := .tuple #[.slice none 0 0, .slice none 0 0, .int .i64 3]) (by simp [results, Try.results57, go_sem]) rfl (.inl ⟨by rw [HE.out]; omega, by rw [HE.out]; rfl, HB.out⟩)
    · have HE := Lib.hid (show ttE n m f = 0 by unfold ttE; rw [if_neg (fun h => h HZ.out), if_neg HM.out, if_neg (by rw [← HV.out]; exact hsh)])
      have H2 := Lib.hid (take_any w.heap.size (n - tkL f) c' V A' w2 R2.out (by omega) hnc)
      go_wp2_with fail
      refine H2.out.mono ?_
      rintro e w3 ⟨rfl, hw3⟩
      have hp3 : Put w.heap.size #[.slice (cutA A' c' V) (n - tkL f - V) (c' - V)] w2 w3 := by rw [hw3]; exact Put.of (Below.refl _ _) hX2 _
      have R3 := Lib.hid (hp3.row R2.out)
      have hX3 := row_lt R3.out
      have S3 := Lib.hid (sl_put hp3 S2.out (Nat.le_refl _) hX2)
      have B3 := Lib.hid (HB.out.trans (hp3.low (Nat.le_refl _) (Nat.le_of_lt hX2)))
      clear H2 hw3 hp3
      have H3 := Lib.hid (clone_any V c' A' (offF f (tkL f)) w3 ((S3.out.upto V (by omega)).more (Nat.le_of_lt hX3)) (by omega))
      go_wp2_with fail
      refine H3.out.mono ?_
      rintro e w4 ⟨v4, rfl, ho4, hb4⟩
      have O4 := Lib.hid ho4
      have B4 := Lib.hid (onto B3.out (Nat.le_of_lt hX3) hb4)
      have R4 := Lib.hid (carry hb4 R3.out)
      have hX4 := row_lt R4.out
      have S4 := Lib.hid (((S3.out.from_ V (by omega)).more (Nat.le_of_lt hX3)).below hb4)
      have hz4 := hb4.size
      clear H3 ho4 hb4
      have H4 := Lib.hid (left_any w.heap.size (n - tkL f - V) (c' - V) _ _ w4 R4.out (S4.out.more hz4) (by omega))
      go_wp2_with fail
      refine H4.out.mono ?_
      rintro e w5 ⟨v5, rfl, ho5, hb5⟩
      have O5 := Lib.hid (ho5.base (Nat.le_of_lt hX4))
      have O45 := Lib.hid ((O4.out.base (Nat.le_of_lt hX3)).below hb5 (Nat.le_refl _))
      have B5 := Lib.hid (onto B4.out (Nat.le_of_lt hX4) hb5)
      clear H4 ho5 hb5
      go_wp2_with fail
      exact bodyPost_ret (v := .tuple #[v4, v5, .int .i64 0]) (by simp [results, Try.results57, go_sem]) rfl (.inr ⟨HE.out, _, _, rfl, by rw [← HV.out]; exact O45.out, by rw [← HV.out, ← offF_offF]; exact O5.out, B5.out⟩)

/- the reference -/
set_option maxHeartbeats 4000000 in
theorem rtake_num (n c : Nat) (A : Option Addr) (f : Bf) (w : World) (hs : Sl w w.heap.size A n c f) (hn : n ≤ 140737488355328) :
    Calls Try.prog 36 #[.slice A n c] w (taP n f w) := by
  have HS := Lib.hid hs
  have hnc := hs.le
  by_cases h0 : n = 0
  · subst h0
    have HE := Lib.hid (show tkE 0 f = 3 from rfl)
    clear hs
    go_enter Try.func36, Try.ntmps36
    go_wp2_with fail
    exact bodyPost_ret (v := .tuple #[.int .i64 0, .slice none 0 0, .int .i64 3]) (by simp [results, Try.results36, go_sem]) rfl (.inl ⟨by rw [HE.out]; omega, by rw [HE.out]; rfl, Below.refl _ _⟩)
  · obtain ⟨g, o, rfl, hg, hcl⟩ := hs.at_ (by omega)
    have hc0 := hcl 0 (by omega)
    rw [Nat.add_zero] at hc0
    have HC := Lib.hid hcl
    obtain ⟨F, hF⟩ : ∃ F, F = f 0 := ⟨_, rfl⟩
    rw [← hF] at hc0
    have hIF : I F = (F.toNat : Int) := rfl
    rw [hIF] at hc0
    have HF := Lib.hid hF
    have hlt := F.isLt
    have hne : ((n : Int) == 0) = false := by simp; omega
    clear hs hcl hF hIF
    obtain ⟨K, hK⟩ : ∃ K, K = F.toNat := ⟨_, rfl⟩
    rw [← hK] at hc0 hlt
    have HK := Lib.hid (show (f 0).toNat = K by rw [hK, HF.out])
    clear hK HF
    by_cases h8 : 8 < K
    · have hd8 : decide (8 < (K : Int)) = true := by simp; omega
      have HE := Lib.hid (show tkE n f = 80 by unfold tkE; rw [if_neg h0, if_pos (by rw [HK.out]; exact h8)])
      go_enter Try.func36, Try.ntmps36
      go_wp2_with fail
      exact bodyPost_ret (v := .tuple #[.int .i64 0, .slice none 0 0, .int .i64 80]) (by simp [results, Try.results36, go_sem]) rfl (.inl ⟨by rw [HE.out]; omega, by rw [HE.out]; rfl, Below.refl _ _⟩)
    · have hd8 : decide (8 < (K : Int)) = false := by simp; omega
      by_cases hk : n ≤ K
      · have hdk : decide ((n : Int) ≤ (K : Int)) = true := by simp; omega
        have HE := Lib.hid (show tkE n f = 3 by unfold tkE; rw [if_neg h0, if_neg (by rw [HK.out]; exact h8), if_pos (by rw [HK.out]; exact hk)])
        go_enter Try.func36, Try.ntmps36
        go_wp2_with fail
        exact bodyPost_ret (v := .tuple #[.int .i64 0, .slice none 0 0, .int .i64 3]) (by simp [results, Try.results36, go_sem]) rfl (.inl ⟨by rw [HE.out]; omega, by rw [HE.out]; rfl, Below.refl _ _⟩)
      · have hdk : decide ((n : Int) ≤ (K : Int)) = false := by simp; omega
        have HE := Lib.hid (show tkE n f = vaE K (offF f 1) by rw [← HK.out]; exact tk_va (by omega) (by rw [HK.out]; omega) (by rw [HK.out]; omega))
        have HV := Lib.hid (show tkV f = val (offF f 1) K by unfold tkV; rw [HK.out])
        have HL := Lib.hid (show tkL f = K + 1 by unfold tkL; rw [HK.out])
        by_cases hK0 : K = 0
        · subst hK0
          have B1 := Lib.hid ((Below.refl w.heap.size w).alloc (Nat.le_refl _) (.cells #[] 5))
          have O1 := Lib.hid (show Own (w.alloc (.cells #[] 5)) w.heap.size 5 (.slice (some ⟨w.heap.size, 0, none⟩) 0 0) 0 f from Own.empty w w.heap.size 5 _ (Nat.le_refl _))
          have S1 := Lib.hid ((HS.out.from_ 1 (by omega)).below B1.out)
          have hz1 : w.heap.size ≤ (w.alloc (.cells #[] 5)).heap.size := by simp
          have hfr := run_from sli_u u8_i (some (⟨g, o, none⟩ : Addr)) n c 1 (by omega)
          rw [show ((1 : Nat) : Int) = 1 from rfl] at hfr
          have hk8 : ((0 : Nat) : Int) + 1 = 1 := rfl
          go_enter Try.func36, Try.ntmps36
          go_wp2_with fail
          refine wp_loop_rounds 1 ?_
          rw [rounds_succ]
          go_wp2_with (at_builtin; refine wpl_appB rfl (.tmp 53) (.tmp 57) rfl sli_u u8_info O1.out S1.out (by omega) hz1 rfl rfl ?_; intro v2 w2 ho2 hg2 ht2)
          rw [Nat.zero_add, catF_zero] at ho2
          have B2 := O1.out.after hg2 B1.out hz1 (Nat.le_refl _)
          exact bodyPost_ret (v := .tuple #[.int .i64 0, v2, .int .i64 0]) (by simp [results, Try.results36, go_sem]) rfl (.inr ⟨by rw [HE.out]; rfl, v2, by rw [HV.out]; rfl, by rw [HL.out]; exact ho2, B2⟩)
        · have hc1 := HC.out 1 (by omega)
          have hdp : decide ((0 : Int) < (K : Int)) = true := by simp; omega
          obtain ⟨D1, hD1⟩ : ∃ D1, D1 = f 1 := ⟨_, rfl⟩
          rw [← hD1] at hc1
          have hID : I D1 = (D1.toNat : Int) := rfl
          rw [hID] at hc1
          have hDlt := D1.isLt
          have H1 := Lib.hid hD1
          clear hD1 hID
          by_cases hz : D1.toNat = 0
          · have HE2 := Lib.hid (show tkE n f = 80 by
              rw [HE.out]; unfold vaE
              rw [if_pos ⟨by omega, by unfold offF; rw [show 1 + 0 = 1 from rfl, ← H1.out]; exact BitVec.eq_of_toNat_eq hz⟩])
            rw [hz] at hc1
            go_enter Try.func36, Try.ntmps36
            go_wp2_with fail
            exact bodyPost_ret (v := .tuple #[.int .i64 0, .slice none 0 0, .int .i64 80]) (by simp [results, Try.results36, go_sem]) rfl (.inl ⟨by rw [HE2.out]; omega, by rw [HE2.out]; rfl, Below.refl _ _⟩)
          · have hz0 : ((D1.toNat : Int) == 0) = false := by simp; omega
            have HE1 := Lib.hid (show tkE n f = if 9223372036854775808 ≤ val (offF f 1) K then 80 else 0 by
              rw [HE.out]; unfold vaE
              rw [if_neg (fun h => hz (by rw [H1.out]; have := h.2; unfold offF at this; rw [show 1 + 0 = 1 from rfl] at this; rw [this]; rfl))])
            by_cases h9 : K = 8 ∧ 127 < D1.toNat
            · obtain ⟨rfl, h127⟩ := h9
              have hd9 : decide (127 < (D1.toNat : Int)) = true := by simp; omega
              have HE2 := Lib.hid (show tkE n f = 80 by
                have h1 := val_cut (offF f 1) 1 7
                have h2 : val (offF f 1) 1 = D1.toNat := by simp only [val]; unfold offF; rw [show 1 + 0 = 1 from rfl, ← H1.out]; omega
                rw [h2, show (256 : Nat) ^ 7 = 72057594037927936 from by decide] at h1
                rw [HE1.out, if_pos (by show 9223372036854775808 ≤ val (offF f 1) (1 + 7); omega)])
              go_enter Try.func36, Try.ntmps36
              go_wp2_with fail
              exact bodyPost_ret (v := .tuple #[.int .i64 0, .slice none 0 0, .int .i64 80]) (by simp [results, Try.results36, go_sem]) rfl (.inl ⟨by rw [HE2.out]; omega, by rw [HE2.out]; rfl, Below.refl _ _⟩)
            · have HSM := Lib.hid (show val (offF f 1) K < 9223372036854775808 by
                by_cases hK8 : K = 8
                · subst hK8
                  have h1 := val_cut (offF f 1) 1 7
                  have h2 : val (offF f 1) 1 = D1.toNat := by simp only [val]; unfold offF; rw [show 1 + 0 = 1 from rfl, ← H1.out]; omega
                  rw [h2, show (256 : Nat) ^ 7 = 72057594037927936 from by decide] at h1
                  show val (offF f 1) (1 + 7) < 9223372036854775808
                  omega
                · have := val_u56 (offF f 1) K (by omega)
                  omega)
              have HE2 := Lib.hid (show tkE n f = 0 by rw [HE1.out, if_neg (by have := HSM.out; omega)])
              go_enter Try.func36, Try.ntmps36
              by_cases hK8 : K = 8
              · subst hK8
                have hd9 : decide (127 < (D1.toNat : Int)) = false := by simp; omega
                go_wp2_with fail
                have B1 := Lib.hid ((Below.refl w.heap.size w).alloc (Nat.le_refl _) (.cells #[] 5))
                have O1 := Lib.hid (show Own (w.alloc (.cells #[] 5)) w.heap.size 5 (.slice (some ⟨w.heap.size, 0, none⟩) 0 0) 0 f from Own.empty w w.heap.size 5 _ (Nat.le_refl _))
                have S1 := Lib.hid ((HS.out.from_ (8 + 1) (by omega)).below B1.out)
                have hz1 : w.heap.size ≤ (w.alloc (.cells #[] 5)).heap.size := by simp
                have HFR := Lib.hid (run_from sli_u u8_i (some (⟨g, o, none⟩ : Addr)) n c (8 + 1) (by omega))
                clear hc1 hz0 hDlt hdp hne hd8 hdk hc0 h9
                go_loopw [6, 7] (fun nv iv wr => ∃ j : Nat, j ≤ 8 ∧ nv = .int .i64 (sg (val (offF f 1) j)) ∧ iv = .int .i64 ((j + 1 : Nat) : Int) ∧ wr = w) (fun _ iv _ => 8 + 1 - (intOf iv).toNat)
                case atStart => exact ⟨0, by omega, rfl, rfl, rfl⟩
                case round =>
                  obtain ⟨j, hj, rfl, rfl, rfl⟩ := hrel
                  by_cases hlt2 : j < 8
                  · have hd : decide (((j + 1 : Nat) : Int) ≤ 8) = true := by simp; omega
                    have hcj := HC.out (j + 1) (by omega)
                    have hv56 := val_u56 (offF f 1) j (by omega)
                    have hst := or_step (val (offF f 1) j) (offF f 1 j).toNat hv56 (offF f 1 j).isLt
                    rw [sg_small (show val (offF f 1) j < 9223372036854775808 by omega)]
                    rw [show f (j + 1) = offF f 1 j by unfold offF; rw [Nat.add_comm]] at hcj
                    obtain ⟨V, hV⟩ : ∃ V, V = val (offF f 1) j := ⟨_, rfl⟩
                    rw [← hV] at hv56 hst ⊢
                    obtain ⟨D, hD⟩ : ∃ D, D = offF f 1 j := ⟨_, rfl⟩
                    rw [← hD] at hcj hst
                    have HV2 := Lib.hid (show V * 256 + D.toNat = val (offF f 1) (j + 1) by rw [hV, hD]; rfl)
                    clear hV hD
                    have hsh : wrap64 ((V : Int) * 256) = sg (V * 256) := by rw [← sg_wrap (V * 256) (by omega), IntWalk.i64_left]; rfl
                    have hsd : wrap64 (I D) = (D.toNat : Int) := by obtain ⟨b1, b2⟩ := I_bd D; rw [IntWalk.wrap64_in _ (by omega)]; rfl
                    have HR := Lib.hid (show bits BinOp.or IntKind.i64 (wrap64 ((V : Int) * 256)) (wrap64 (I D)) = sg (val (offF f 1) (j + 1)) by rw [hsh, hsd, hst, HV2.out])
                    clear hsh hsd hst
                    go_wp2_with fail
                    go_roundw
                    case rel => exact ⟨j + 1, by omega, by rw [HR.out], rfl, trivial⟩
                    case measure => simp [intOf]; omega
                  · have hjk : j = 8 := by omega
                    subst hjk
                    have hd : decide (((8 + 1 : Nat) : Int) ≤ 8) = false := by decide
                    rw [sg_small HSM.out]
                    have HVV := Lib.hid HV.out
                    obtain ⟨V, hV⟩ : ∃ V, V = val (offF f 1) 8 := ⟨_, rfl⟩
                    rw [← hV]
                    have HV3 := Lib.hid (show tkV f = V by rw [HVV.out, hV])
                    clear hV
                    have hfr := HFR.out
                    rw [show ((8 + 1 : Nat) : Int) = 9 from rfl] at hfr
                    go_wp2_with (at_builtin; refine wpl_appB rfl (.tmp 53) (.tmp 57) rfl sli_u u8_info O1.out S1.out (by omega) hz1 rfl rfl ?_; intro v2 w2 ho2 hg2 ht2)
                    rw [Nat.zero_add, catF_zero] at ho2
                    have B2 := O1.out.after hg2 B1.out hz1 (Nat.le_refl _)
                    exact bodyPost_ret (v := .tuple #[.int .i64 V, v2, .int .i64 0]) (by simp [results, Try.results36, go_sem]) rfl (.inr ⟨HE2.out, v2, by rw [HV3.out], by rw [HL.out]; exact ho2, B2⟩)
              · have hq8 : ((K : Int) == 8) = false := by simp; omega
                go_wp2_with fail
                have B1 := Lib.hid ((Below.refl w.heap.size w).alloc (Nat.le_refl _) (.cells #[] 5))
                have O1 := Lib.hid (show Own (w.alloc (.cells #[] 5)) w.heap.size 5 (.slice (some ⟨w.heap.size, 0, none⟩) 0 0) 0 f from Own.empty w w.heap.size 5 _ (Nat.le_refl _))
                have S1 := Lib.hid ((HS.out.from_ (K + 1) (by omega)).below B1.out)
                have hz1 : w.heap.size ≤ (w.alloc (.cells #[] 5)).heap.size := by simp
                have HFR := Lib.hid (run_from sli_u u8_i (some (⟨g, o, none⟩ : Addr)) n c (K + 1) (by omega))
                clear hc1 hz0 hDlt hdp hne hd8 hdk hc0 h9
                go_loopw [6, 7] (fun nv iv wr => ∃ j : Nat, j ≤ K ∧ nv = .int .i64 (sg (val (offF f 1) j)) ∧ iv = .int .i64 ((j + 1 : Nat) : Int) ∧ wr = w) (fun _ iv _ => K + 1 - (intOf iv).toNat)
                case atStart => exact ⟨0, by omega, rfl, rfl, rfl⟩
                case round =>
                  obtain ⟨j, hj, rfl, rfl, rfl⟩ := hrel
                  by_cases hlt2 : j < K
                  · have hd : decide (((j + 1 : Nat) : Int) ≤ (K : Int)) = true := by simp; omega
                    have hcj := HC.out (j + 1) (by omega)
                    have hv56 := val_u56 (offF f 1) j (by omega)
                    have hst := or_step (val (offF f 1) j) (offF f 1 j).toNat hv56 (offF f 1 j).isLt
                    rw [sg_small (show val (offF f 1) j < 9223372036854775808 by omega)]
                    rw [show f (j + 1) = offF f 1 j by unfold offF; rw [Nat.add_comm]] at hcj
                    obtain ⟨V, hV⟩ : ∃ V, V = val (offF f 1) j := ⟨_, rfl⟩
                    rw [← hV] at hv56 hst ⊢
                    obtain ⟨D, hD⟩ : ∃ D, D = offF f 1 j := ⟨_, rfl⟩
                    rw [← hD] at hcj hst
                    have HV2 := Lib.hid (show V * 256 + D.toNat = val (offF f 1) (j + 1) by rw [hV, hD]; rfl)
                    clear hV hD
                    have hsh : wrap64 ((V : Int) * 256) = sg (V * 256) := by rw [← sg_wrap (V * 256) (by omega), IntWalk.i64_left]; rfl
                    have hsd : wrap64 (I D) = (D.toNat : Int) := by obtain ⟨b1, b2⟩ := I_bd D; rw [IntWalk.wrap64_in _ (by omega)]; rfl
                    have HR := Lib.hid (show bits BinOp.or IntKind.i64 (wrap64 ((V : Int) * 256)) (wrap64 (I D)) = sg (val (offF f 1) (j + 1)) by rw [hsh, hsd, hst, HV2.out])
                    clear hsh hsd hst
                    go_wp2_with fail
                    go_roundw
                    case rel => exact ⟨j + 1, by omega, by rw [HR.out], rfl, trivial⟩
                    case measure => simp [intOf]; omega
                  · have hjk : j = K := by omega
                    subst hjk
                    have hd : decide (((j + 1 : Nat) : Int) ≤ (j : Int)) = false := by simp; omega
                    rw [sg_small HSM.out]
                    have HVV := Lib.hid HV.out
                    obtain ⟨V, hV⟩ : ∃ V, V = val (offF f 1) j := ⟨_, rfl⟩
                    rw [← hV]
                    have HV3 := Lib.hid (show tkV f = V by rw [HVV.out, hV])
                    clear hV
                    have hfr := HFR.out
                    rw [show ((j + 1 : Nat) : Int) = (j : Int) + 1 from rfl] at hfr
                    go_wp2_with (at_builtin; refine wpl_appB rfl (.tmp 53) (.tmp 57) rfl sli_u u8_info O1.out S1.out (by omega) hz1 rfl rfl ?_; intro v2 w2 ho2 hg2 ht2)
                    rw [Nat.zero_add, catF_zero] at ho2
                    have B2 := O1.out.after hg2 B1.out hz1 (Nat.le_refl _)
                    exact bodyPost_ret (v := .tuple #[.int .i64 V, v2, .int .i64 0]) (by simp [results, Try.results36, go_sem]) rfl (.inr ⟨HE2.out, v2, by rw [HV3.out], by rw [HL.out]; exact ho2, B2⟩)
end Go.Proofs.Ytfpkfbojckgcdaa.Oct
