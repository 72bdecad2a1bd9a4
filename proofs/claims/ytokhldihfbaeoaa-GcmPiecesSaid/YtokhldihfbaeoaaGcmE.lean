/- Contract of gcm.Tag. -/
import Derived.Test.YtokhldihfbaeoaaGcmD
import Derived.Test.YtokhldihfbaeoaaConcat
namespace Go.Proofs.Ytokhldihfbaeoaa.Oct
open Go.ChangeShapes Go.WideShapes Go.ChangeAt Go.RowKit
set_option linter.unusedVariables false

def three {α : Type} (x y z : α) : Nat → α
  | 0 => x
  | 1 => y
  | _ => z
theorem three_lt {i : Nat} (h : i < 3) : i = 0 ∨ i = 1 ∨ i = 2 := by omega
theorem three_len (a b c : Nat) : lenL (three a b c) 3 = a + b + c := by simp [lenL, three]
theorem all_cats (s b : Bf) (ns nb : Nat) : ∀ i, i < up16 ns + up16 nb + 16 → catsF (three (up16 ns) (up16 nb) 16) (three (padF s ns) (padF b nb) (catF 8 (beN 8 (8 * ns)) (beN 8 (8 * nb)))) 3 i = allF s ns b nb i := fun i _ => by
  simp only [catsF, lenL, three, Nat.zero_add, catF_zero]
  unfold catF allF
  by_cases h1 : i < up16 ns
  · rw [if_pos (by omega), if_pos h1, if_pos h1]
  · by_cases h2 : i < up16 ns + up16 nb
    · rw [if_pos h2, if_neg h1, if_neg h1, if_pos h2]
    · rw [if_neg h2, if_neg h1, if_neg h2]
      by_cases h3 : i < up16 ns + up16 nb + 8
      · rw [if_pos (by omega), if_pos h3]
      · rw [if_neg (by omega), if_neg h3, show i - (up16 ns + up16 nb) - 8 = i - (up16 ns + up16 nb + 8) by omega]

set_option maxRecDepth 20000 in
set_option maxHeartbeats 4000000 in
theorem gtag_any (k n : Bf) (s : Bf) (ns cs : Nat) (As : Option Addr) (b : Bf) (nb cb : Nat) (Ab : Option Addr) (w : World) (hs : Sl w w.heap.size As ns cs s) (hb : Sl w w.heap.size Ab nb cb b) (hns : ns ≤ 1099511627776) (hnb : nb ≤ 1099511627776) :
    Calls Try.prog 14 #[.agg (ba 32 k), .agg (ba 12 n), .slice As ns cs, .slice Ab nb cb] w fun e w' => e = .returned (.agg (ba 16 (tagF k n s ns b nb))) ∧ Below w.heap.size w w' := by
  have B0 := (((Below.refl w.heap.size w).alloc (by simp) (.cells (ba 32 k) 23)).alloc (by simp) (.cells (ba 12 n) 25)).alloc (by simp; omega) (.cells (ba 16 fun _ => 0#8) 35)
  have HS := Lib.hid (hs.below B0)
  have HB := Lib.hid (hb.below B0)
  have HB0 := Lib.hid B0
  have q0 : row (((w.alloc (.cells (ba 32 k) 23)).alloc (.cells (ba 12 n) 25)).alloc (.cells (ba 16 fun _ => 0#8) 35)) w.heap.size = some (ba 32 k) := by simp [go_sem]
  have q1 : row (((w.alloc (.cells (ba 32 k) 23)).alloc (.cells (ba 12 n) 25)).alloc (.cells (ba 16 fun _ => 0#8) 35)) (w.heap.size + 1) = some (ba 12 n) := by simp [go_sem]
  have q2 : row (((w.alloc (.cells (ba 32 k) 23)).alloc (.cells (ba 12 n) 25)).alloc (.cells (ba 16 fun _ => 0#8) 35)) (w.heap.size + 1 + 1) = some (ba 16 fun _ => 0#8) := by simp [go_sem]
  clear hs hb B0
  go_enter Try.func14, Try.ntmps14
  go_wp2_with fail
  generalize ((w.alloc (.cells (ba 32 k) 23)).alloc (.cells (ba 12 n) 25)).alloc (.cells (ba 16 fun _ => 0#8) 35) = w0 at HS HB HB0 q0 q1 q2 ⊢
  refine (lens_any ns cs nb cb As Ab hns hnb _).mono ?_
  rintro e w1 ⟨rfl, hb1⟩
  obtain ⟨z, hz⟩ : ∃ z, z = catF 8 (beN 8 (8 * ns)) (beN 8 (8 * nb)) := ⟨_, rfl⟩
  rw [← hz]
  have HZ := Lib.hid hz
  have hbz := HB0.out.size
  have HS1 := Lib.hid ((HS.out.below (hb1.mono hbz)).below ((Below.refl w.heap.size w1).alloc (by have := hb1.size; omega) (.cells (ba 16 z) 35)))
  have HB1 := Lib.hid ((HB.out.below (hb1.mono hbz)).below ((Below.refl w.heap.size w1).alloc (by have := hb1.size; omega) (.cells (ba 16 z) 35)))
  have HBB := Lib.hid ((onto HB0.out hbz hb1).alloc (by have := hb1.size; omega) (.cells (ba 16 z) 35))
  have t0 := row_alloc (carry hb1 q0) (.cells (ba 16 z) 35)
  have t1 := row_alloc (carry hb1 q1) (.cells (ba 16 z) 35)
  have t2 := row_alloc (carry hb1 q2) (.cells (ba 16 z) 35)
  have tz : row (w1.alloc (.cells (ba 16 z) 35)) w1.heap.size = some (ba 16 z) := row_alloc_at _ _ _ _ rfl
  clear hz hbz hb1 q0 q1 q2 HS HB HB0
  go_wp2_with fail
  generalize w1.heap.size = Z at tz ⊢
  generalize w1.alloc (.cells (ba 16 z) 35) = w2 at HS1 HB1 HBB t0 t1 t2 tz ⊢
  refine flow_seen [([0, 2, 4], 1, false), ([], 3, false), ([], 5, false), ([], 6, false)] [7] (by kernel_rfl) (by kernel_rfl) (fun _ _ _ _ _ h => h) fun Y => ?_
  have hby := Y.below
  have HS2 := Lib.hid (HS1.out.below (hby.mono HBB.out.size))
  have HB2 := Lib.hid (HB1.out.below (hby.mono HBB.out.size))
  have HBC := Lib.hid (onto HBB.out HBB.out.size hby)
  have r0 := carry hby t0
  have r1 := carry hby t1
  have r2 := carry hby t2
  have rz := carry hby tz
  clear t0 t1 t2 tz HS1 HB1 HBB hby
  generalize Y.val = w3 at HS2 HB2 HBC r0 r1 r2 rz ⊢
  clear Y
  simp only [wpFs, pk, List.getElem?_cons_zero, List.getElem?_cons_succ]
  repeat (go_big_quiet_step (fail))
  refine wpQuiet_nil ?_
  go_wp2_with fail
  refine (padded_any ns cs As s _ (HS2.out.more HBC.out.size) hns).mono ?_
  rintro e w4 ⟨A1, c1, rfl, h1, hc1, hb4⟩
  go_wp2_with fail
  refine ⟨.inr hb4, ?_⟩
  have HP1 := Lib.hid h1
  have HB4 := Lib.hid (HB2.out.below (hb4.mono HBC.out.size))
  have HBD := Lib.hid (onto HBC.out HBC.out.size hb4)
  have t0 := carry hb4 r0
  have t1 := carry hb4 r1
  have t2 := carry hb4 r2
  have tz := carry hb4 rz
  clear r0 r1 r2 rz h1 hc1 hb4 HS2 HB2 HBC
  show wpQuiet _ _ _ _ _ _
  refine wpQuiet_nil ?_
  go_wp2_with fail
  refine (padded_any nb cb Ab b _ (HB4.out.more HBD.out.size) hnb).mono ?_
  rintro e w5 ⟨A2, c2, rfl, h2, hc2, hb5⟩
  go_wp2_with fail
  refine ⟨.inr hb5, ?_⟩
  have HP1' := Lib.hid (HP1.out.below hb5)
  have HP2 := Lib.hid h2
  have HBE := Lib.hid (onto HBD.out HBD.out.size hb5)
  have HSZ := Lib.hid hb5.size
  have r0 := carry hb5 t0
  have r1 := carry hb5 t1
  have r2 := carry hb5 t2
  have rz := carry hb5 tz
  clear t0 t1 t2 tz h2 hc2 hb5 HB4 HBD HP1
  show wpQuiet _ _ _ _ _ _
  refine wpQuiet_nil ?_
  go_wp2_with fail
  refine ⟨.inr ((Below.refl _ _).alloc (Nat.le_refl _) _), ?_⟩
  have hb6 : Below w5.heap.size w5 (w5.alloc (.cells #[.slice A1 (up16 ns) c1, .slice A2 (up16 nb) c2, .slice (some ⟨Z, 0, none⟩) 16 16] 26)) := (Below.refl _ _).alloc (Nat.le_refl _) _
  have hrow : row (w5.alloc (.cells #[.slice A1 (up16 ns) c1, .slice A2 (up16 nb) c2, .slice (some ⟨Z, 0, none⟩) 16 16] 26)) w5.heap.size = some #[.slice A1 (up16 ns) c1, .slice A2 (up16 nb) c2, .slice (some ⟨Z, 0, none⟩) 16 16] := row_alloc_at _ _ _ _ rfl
  have HQ1 := Lib.hid (HP1'.out.below (hb6.mono HSZ.out))
  have HQ2 := Lib.hid (HP2.out.below hb6)
  have HBF := Lib.hid (onto HBE.out HBE.out.size hb6)
  have t0 := carry hb6 r0
  have t1 := carry hb6 r1
  have t2 := carry hb6 r2
  have tz := carry hb6 rz
  have hZ5 : Z < w5.heap.size := row_lt rz
  clear r0 r1 r2 rz HP1' HP2 HBE
  have hs6 : (w5.alloc (.cells #[.slice A1 (up16 ns) c1, .slice A2 (up16 nb) c2, .slice (some ⟨Z, 0, none⟩) 16 16] 26)).heap.size = w5.heap.size + 1 := by simp
  have HS45 := Lib.hid HSZ.out
  clear HSZ hb6
  generalize w5.alloc (.cells #[.slice A1 (up16 ns) c1, .slice A2 (up16 nb) c2, .slice (some ⟨Z, 0, none⟩) 16 16] 26) = w6 at HQ1 HQ2 HBF t0 t1 t2 tz hrow hs6 ⊢
  show wpQuiet _ _ _ _ _ _
  refine wpQuiet_nil ?_
  go_wp2_with fail
  have hu1 := up16_le ns
  have hu2 := up16_le nb
  refine (concat_any 3 w5.heap.size 3 (three A1 A2 (some ⟨Z, 0, none⟩)) (three (up16 ns) (up16 nb) 16) (three c1 c2 16) (three (padF s ns) (padF b nb) z) w6 (fun i hi => by
      rw [cell_row hrow]; rcases three_lt hi with rfl | rfl | rfl <;> rfl) (by omega) (fun i hi => by
      rcases three_lt hi with rfl | rfl | rfl
      · exact HQ1.out.more (by have := HS45.out; omega)
      · exact HQ2.out.more (by omega)
      · exact Sl.of_row tz _ (row_lt tz)) (by omega) (by rw [three_len]; omega)).mono ?_
  rintro e w7 ⟨v, rfl, ho, hb7⟩
  rw [three_len, HZ.out] at ho
  obtain ⟨A7, c7, rfl, h7, hc7, -⟩ := ho.sl
  go_wp2_with fail
  refine ⟨.inr hb7, ?_⟩
  have H7 := Lib.hid (h7.congr (all_cats s b ns nb))
  have HBG := Lib.hid (onto HBF.out HBF.out.size hb7)
  have r0 := carry hb7 t0
  have r1 := carry hb7 t1
  have r2 := carry hb7 t2
  clear t0 t1 t2 tz ho h7 hc7 hb7 HQ1 HQ2 HBF hrow hs6 hZ5 HS45 hu1 hu2
  show wpQuiet _ _ _ _ _ _
  repeat (go_big_quiet_step (fail))
  refine wpQuiet_nil ?_
  go_wp2_with fail
  refine (encrypt_any k (fun _ => 0#8) _).mono ?_
  rintro e w8 ⟨rfl, hb8⟩
  obtain ⟨hk, hhk⟩ : ∃ hk, hk = encF k nF := ⟨_, rfl⟩
  rw [show (encF k fun _ => 0#8) = hk from hhk.symm]
  have HHK := Lib.hid hhk
  obtain ⟨al, hal⟩ : ∃ al, al = allF s ns b nb := ⟨_, rfl⟩
  have HAL := Lib.hid hal
  obtain ⟨N, hN⟩ : ∃ N, N = up16 ns + up16 nb + 16 := ⟨_, rfl⟩
  have HN := Lib.hid hN
  have h7 := H7.out
  rw [← hal, ← hN] at h7
  rw [← hN]
  have H8 := Lib.hid (((h7.below hb8).below ((Below.refl _ w8).alloc hb8.size (.cells (ba 16 hk) 35))).more (by have := hb8.size; simp; omega : _ ≤ (w8.alloc (.cells (ba 16 hk) 35)).heap.size))
  have HBH := Lib.hid ((onto HBG.out HBG.out.size hb8).alloc (by have := hb8.size; have := HBG.out.size; omega) (.cells (ba 16 hk) 35))
  have t0 := row_alloc (carry hb8 r0) (.cells (ba 16 hk) 35)
  have t1 := row_alloc (carry hb8 r1) (.cells (ba 16 hk) 35)
  have t2 := row_alloc (carry hb8 r2) (.cells (ba 16 hk) 35)
  have th : row (w8.alloc (.cells (ba 16 hk) 35)) w8.heap.size = some (ba 16 hk) := row_alloc_at _ _ _ _ rfl
  clear r0 r1 r2 hb8 h7 H7 HBG hhk hal hN
  go_wp2_with fail
  generalize w8.heap.size = HH at th ⊢
  generalize w8.alloc (.cells (ba 16 hk) 35) = w9 at H8 HBH t0 t1 t2 th ⊢
  obtain ⟨ct, hct⟩ : ∃ ct, ct = ctrF n 1 := ⟨_, rfl⟩
  have HCT := Lib.hid hct
  have cC := cblk_any n 1 (by decide)
  rw [← hct] at cC
  have HC := Lib.hid cC
  have hs9 : ∀ x : After w9, Sl x.val x.val.heap.size A7 N c7 al := fun x => After.sl H8.out x
  have HS9 := Lib.hid hs9
  have q0 := After.row t0
  have q1 := After.row t1
  have qh := After.row th
  clear hct cC hs9 t0 t1 th
  refine seen_tail 0 8 (by kernel_rfl) (by kernel_rfl) (fun _ _ _ _ _ h => h) ?_
  simp only [List.take_succ_cons, List.take_zero, List.drop_succ_cons, List.drop_zero]
  repeat (go_big_quiet_step ((first | (go_at_call 20; refine After.call _ (HC.out _)) | (go_at_call 22; refine After.call _ (encrypt_any k ct _)) | (go_at_call 32; refine After.call _ (bhash_any hk al N c7 A7 _ (HS9.out _))) | (go_at_call 21; refine After.call _ (bxor_any (encF k ct) (hshF hk al N) _)))))
  refine wpQuiet_nil ?_
  rintro _ ⟨x, rfl⟩
  have r2 := carry x.below t2
  have HBJ := Lib.hid (onto HBH.out HBH.out.size x.below)
  have HT := Lib.hid (show xorF (encF k ct) (hshF hk al N) = tagF k n s ns b nb by rw [HCT.out, HHK.out, HAL.out, HN.out]; rfl)
  clear q0 q1 qh t2 H8 HBH
  go_wp2_with fail
  rw [HT.out]
  refine bodyPost_ret (v := .agg (ba 16 (tagF k n s ns b nb))) (res_row rfl _ _ (w.heap.size + 1 + 1) _ _ _ rfl (row_setRow r2 _) blk_u (by rw [ba_size]; exact blk_i)) rfl ⟨rfl, ?_⟩
  exact below_setRow HBJ.out (by omega) _
end Go.Proofs.Ytokhldihfbaeoaa.Oct
