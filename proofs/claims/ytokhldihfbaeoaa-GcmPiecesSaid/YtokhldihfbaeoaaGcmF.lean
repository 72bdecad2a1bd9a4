/- Contract of the reference's Tag. -/
import Derived.Test.YtokhldihfbaeoaaGcmE
namespace Go.Proofs.Ytokhldihfbaeoaa.Oct
open Go.ChangeShapes Go.WideShapes Go.ChangeAt Go.RowKit
set_option linter.unusedVariables false

/-- what is known of the world on the way through the reference's Tag -/
structure RtInv (w : World) (k n hk : Bf) (E X H base : Nat) (wr : World) : Prop where
  below : Below w.heap.size w wr
  r1 : row wr (w.heap.size + 1) = some (ba 12 n)
  r2 : row wr (w.heap.size + 1 + 1) = some (ba 16 fun _ => 0#8)
  e : row wr E = some (ba 240 (expF k))
  x : row wr X = some (ba 256 boxF)
  h : row wr H = some (ba 16 hk)
  hb : w.heap.size + 3 ≤ base ∧ E < base ∧ X < base ∧ H < base ∧ base ≤ wr.heap.size
theorem RtInv.call {w : World} {k n hk : Bf} {E X H base : Nat} {wr w' : World} (h : RtInv w k n hk E X H base wr) (hb : Below wr.heap.size wr w') : RtInv w k n hk E X H base w' :=
  ⟨onto h.below h.below.size hb, carry hb h.r1, carry hb h.r2, carry hb h.e, carry hb h.x, carry hb h.h, h.hb.1, h.hb.2.1, h.hb.2.2.1, h.hb.2.2.2.1, Nat.le_trans h.hb.2.2.2.2 hb.size⟩
theorem RtInv.grown {w : World} {k n hk : Bf} {E X H base : Nat} {wr w' : World} {v : Value} {m : Nat} {F : Bf} (h : RtInv w k n hk E X H base wr) (ho : Own wr base 5 v m F) (hg : wr.grownBy w' v.ownBlock) : RtInv w k n hk E X H base w' :=
  have hb := h.hb
  have low : ∀ b, b < base → v.ownBlock ≠ some b := fun b hb e => by
    unfold Own at ho
    have := (World.ownsRow.lt ho b e).1
    omega
  ⟨ho.after hg h.below h.below.size (by omega), grown_row hg h.r1 (low _ (by omega)), grown_row hg h.r2 (low _ (by omega)), grown_row hg h.e (low _ (by omega)), grown_row hg h.x (low _ (by omega)), grown_row hg h.h (low _ (by omega)), hb.1, hb.2.1, hb.2.2.1, hb.2.2.2.1, Nat.le_trans hb.2.2.2.2 hg.size⟩

theorem all_cats2 (s b : Bf) (ns nb : Nat) : ∀ i, i < up16 ns + up16 nb + 8 + 8 → catF (up16 ns + up16 nb + 8) (catF (up16 ns + up16 nb) (catF (up16 ns) (padF s ns) (padF b nb)) (beN 8 (8 * ns))) (beN 8 (8 * nb)) i = allF s ns b nb i := fun i _ => by
  unfold catF allF
  by_cases h1 : i < up16 ns
  · rw [if_pos (by omega), if_pos (by omega), if_pos h1, if_pos h1]
  · by_cases h2 : i < up16 ns + up16 nb
    · rw [if_pos (by omega), if_pos h2, if_neg h1, if_neg h1, if_pos h2]
    · by_cases h3 : i < up16 ns + up16 nb + 8
      · rw [if_pos h3, if_neg h2, if_neg h1, if_neg h2, if_pos h3]
      · rw [if_neg h3, if_neg h1, if_neg h2, if_neg h3]

set_option maxRecDepth 20000 in
set_option maxHeartbeats 4000000 in
theorem rgtag_any (k n : Bf) (s : Bf) (ns cs : Nat) (As : Option Addr) (b : Bf) (nb cb : Nat) (Ab : Option Addr) (w : World) (hs : Sl w w.heap.size As ns cs s) (hb : Sl w w.heap.size Ab nb cb b) (hns : ns ≤ 1099511627776) (hnb : nb ≤ 1099511627776) :
    Calls Try.prog 15 #[.agg (ba 32 k), .agg (ba 12 n), .slice As ns cs, .slice Ab nb cb] w fun e w' => e = .returned (.agg (ba 16 (tagF k n s ns b nb))) ∧ Below w.heap.size w w' := by
  have B0 := (((Below.refl w.heap.size w).alloc (by simp) (.cells (ba 32 k) 23)).alloc (by simp) (.cells (ba 12 n) 25)).alloc (by simp; omega) (.cells (ba 16 fun _ => 0#8) 35)
  have HSS := Lib.hid hs
  have HSB := Lib.hid hb
  have HB0 := Lib.hid B0
  have q0 : row (((w.alloc (.cells (ba 32 k) 23)).alloc (.cells (ba 12 n) 25)).alloc (.cells (ba 16 fun _ => 0#8) 35)) w.heap.size = some (ba 32 k) := by simp [go_sem]
  have q1 : row (((w.alloc (.cells (ba 32 k) 23)).alloc (.cells (ba 12 n) 25)).alloc (.cells (ba 16 fun _ => 0#8) 35)) (w.heap.size + 1) = some (ba 12 n) := by simp [go_sem]
  have q2 : row (((w.alloc (.cells (ba 32 k) 23)).alloc (.cells (ba 12 n) 25)).alloc (.cells (ba 16 fun _ => 0#8) 35)) (w.heap.size + 1 + 1) = some (ba 16 fun _ => 0#8) := by simp [go_sem]
  have s0 : (((w.alloc (.cells (ba 32 k) 23)).alloc (.cells (ba 12 n) 25)).alloc (.cells (ba 16 fun _ => 0#8) 35)).heap.size = w.heap.size + 3 := by simp
  have hus := up16_le ns
  have hub := up16_le nb
  clear hs hb B0
  go_enter Try.func15, Try.ntmps15
  go_wp2_with fail
  generalize ((w.alloc (.cells (ba 32 k) 23)).alloc (.cells (ba 12 n) 25)).alloc (.cells (ba 16 fun _ => 0#8) 35) = w0 at HB0 q0 q1 q2 s0 ⊢
  refine (refexpand_any k _).mono ?_
  rintro e w1 ⟨rfl, hb1⟩
  have HB1 := Lib.hid ((onto HB0.out HB0.out.size hb1).alloc (by have := hb1.size; omega) (.cells (ba 240 (expF k)) 51))
  have t1 := row_alloc (carry hb1 q1) (.cells (ba 240 (expF k)) 51)
  have t2 := row_alloc (carry hb1 q2) (.cells (ba 240 (expF k)) 51)
  have te : row (w1.alloc (.cells (ba 240 (expF k)) 51)) w1.heap.size = some (ba 240 (expF k)) := row_alloc_at _ _ _ _ rfl
  have s1 : (w1.alloc (.cells (ba 240 (expF k)) 51)).heap.size = w1.heap.size + 1 := by simp
  have s1' : w.heap.size + 3 ≤ w1.heap.size := by have := hb1.size; omega
  clear q0 q1 q2 s0 HB0 hb1
  go_wp2_with fail
  generalize w1.heap.size = E at te s1 s1' ⊢
  generalize w1.alloc (.cells (ba 240 (expF k)) 51) = w2 at HB1 t1 t2 te s1 ⊢
  refine (rboxes_any _).mono ?_
  rintro e w3 ⟨rfl, hb3⟩
  have HB3 := Lib.hid ((onto HB1.out HB1.out.size hb3).alloc (by have := hb3.size; omega) (.cells (ba 256 boxF) 53))
  have r1 := row_alloc (carry hb3 t1) (.cells (ba 256 boxF) 53)
  have r2 := row_alloc (carry hb3 t2) (.cells (ba 256 boxF) 53)
  have re := row_alloc (carry hb3 te) (.cells (ba 256 boxF) 53)
  have rx : row (w3.alloc (.cells (ba 256 boxF) 53)) w3.heap.size = some (ba 256 boxF) := row_alloc_at _ _ _ _ rfl
  have s3 : (w3.alloc (.cells (ba 256 boxF) 53)).heap.size = w3.heap.size + 1 := by simp
  have s3' : E < w3.heap.size := by have := hb3.size; omega
  clear t1 t2 te HB1 hb3
  go_wp2_with fail
  generalize w3.heap.size = X at rx s3 s3' ⊢
  generalize w3.alloc (.cells (ba 256 boxF) 53) = w4 at HB3 r1 r2 re rx s3 ⊢
  refine (encrypts_any k (fun _ => 0#8) _).mono ?_
  rintro e w5 ⟨rfl, hb5⟩
  obtain ⟨hk, hhk⟩ : ∃ hk, hk = encF k nF := ⟨_, rfl⟩
  rw [show (encF k fun _ => 0#8) = hk from hhk.symm]
  have HHK := Lib.hid hhk
  have hI : RtInv w k n hk E X w5.heap.size (w5.heap.size + 1) (w5.alloc (.cells (ba 16 hk) 35)) :=
    ⟨(onto HB3.out HB3.out.size hb5).alloc (by have := hb5.size; omega) _, row_alloc (carry hb5 r1) _, row_alloc (carry hb5 r2) _, row_alloc (carry hb5 re) _, row_alloc (carry hb5 rx) _, row_alloc_at _ _ _ _ rfl,
      by have := hb5.size; omega, by have := hb5.size; omega, by have := hb5.size; omega, by omega, by simp⟩
  have HI5 := Lib.hid hI
  clear r1 r2 re rx s1 s1' s3 s3' HB3 hhk hI hb5
  go_wp2_with fail
  generalize w5.heap.size = H at HI5 ⊢
  generalize w5.alloc (.cells (ba 16 hk) 35) = w6 at HI5 ⊢
  have hbase := HI5.out.hb.2.2.2.2
  refine (whole_any ns cs As s _ ((HSS.out.below HI5.out.below).more HI5.out.below.size) hns).mono ?_
  rintro e w7 ⟨v1, rfl, ho1, hb7⟩
  have HI7 := Lib.hid (HI5.out.call hb7)
  have HO7 := Lib.hid (ho1.base hbase)
  clear ho1 hb7 HI5 hbase
  go_wp2_with fail
  refine (whole_any nb cb Ab b _ ((HSB.out.below HI7.out.below).more HI7.out.below.size) hnb).mono ?_
  rintro e w8 ⟨v2, rfl, ho2, hb8⟩
  have HI8 := Lib.hid (HI7.out.call hb8)
  have HO8 := HO7.out.below hb8 (Nat.le_refl _)
  obtain ⟨A2, c2, rfl, h2, hc2, -⟩ := ho2.sl
  have hbase := HI8.out.hb.2.2.2.2
  clear hb8 HI7 HO7 ho2
  go_wp2_with (at_builtin; refine wpl_appB rfl (.tmp 21) (.tmp 23) rfl sli_u u8_info HO8 h2 (by omega) hbase rfl rfl ?_; intro v3 w9 ho hg ht)
  have HI9 := Lib.hid (HI8.out.grown HO8 hg)
  have HO9 := Lib.hid ho
  clear ho hg ht h2 hc2 HO8 HI8 hbase
  refine (rbits_any ns (by omega) _).mono ?_
  rintro e w10 ⟨v4, rfl, ho4, hb10⟩
  have HI10 := Lib.hid (HI9.out.call hb10)
  have HO10 := HO9.out.below hb10 (Nat.le_refl _)
  obtain ⟨A4, c4, rfl, h4, hc4, -⟩ := ho4.sl
  have hbase := HI10.out.hb.2.2.2.2
  clear hb10 HI9 HO9 ho4
  go_wp2_with (at_builtin; refine wpl_appB rfl (.tmp 25) (.tmp 28) rfl sli_u u8_info HO10 h4 (by omega) hbase rfl rfl ?_; intro v5 w11 ho hg ht)
  have HI11 := Lib.hid (HI10.out.grown HO10 hg)
  have HO11 := Lib.hid ho
  clear ho hg ht h4 hc4 HO10 HI10 hbase
  refine (rbits_any nb (by omega) _).mono ?_
  rintro e w12 ⟨v6, rfl, ho6, hb12⟩
  have HI12 := Lib.hid (HI11.out.call hb12)
  have HO12 := HO11.out.below hb12 (Nat.le_refl _)
  obtain ⟨A6, c6, rfl, h6, hc6, -⟩ := ho6.sl
  have hbase := HI12.out.hb.2.2.2.2
  clear hb12 HI11 HO11 ho6
  go_wp2_with (at_builtin; refine wpl_appB rfl (.tmp 29) (.tmp 32) rfl sli_u u8_info HO12 h6 (by omega) hbase rfl rfl ?_; intro v7 w13 ho hg ht)
  have HI13 := Lib.hid (HI12.out.grown HO12 hg)
  obtain ⟨A7, c7, rfl, h7, hc7, -⟩ := (ho.congr (all_cats2 s b ns nb)).sl
  obtain ⟨al, hal⟩ : ∃ al, al = allF s ns b nb := ⟨_, rfl⟩
  have HAL := Lib.hid hal
  obtain ⟨N, hN⟩ : ∃ N, N = up16 ns + up16 nb + 8 + 8 := ⟨_, rfl⟩
  have HN := Lib.hid hN
  rw [← hal, ← hN] at h7
  rw [← hN]
  have hNb : N ≤ 140737488355328 := by omega
  obtain ⟨ct, hct⟩ : ∃ ct, ct = ctrF n 1 := ⟨_, rfl⟩
  have HCT := Lib.hid hct
  have cC := rctr_any n 1 (by decide)
  rw [← hct] at cC
  have HC := Lib.hid cC
  have hs13 : ∀ x : After w13, Sl x.val x.val.heap.size A7 N c7 al := fun x => After.sl h7 x
  have HS13 := Lib.hid hs13
  have q1 := After.row HI13.out.r1
  have qe := After.row HI13.out.e
  have qx := After.row HI13.out.x
  have qh := After.row HI13.out.h
  clear hct cC hs13 hal hN ho hg ht h7 hc7 h6 hc6 HO12 HI12 hbase
  refine seen_tail 0 9 (by kernel_rfl) (by kernel_rfl) (fun _ _ _ _ _ h => h) ?_
  simp only [List.take_succ_cons, List.take_zero, List.drop_succ_cons, List.drop_zero]
  repeat (go_big_quiet_step ((first | (go_at_call 26; refine After.call _ (HC.out _)) | (go_at_call 27; refine After.call _ (encrypts_any k ct _)) | (go_at_call 36; refine After.call _ (rbhash_any hk al N c7 A7 _ (HS13.out _) hNb)) | (go_at_call 35; refine After.call _ (rbxor_any (hshF hk al N) (encF k ct) _)))))
  refine wpQuiet_nil ?_
  rintro _ ⟨x, rfl⟩
  have r2 := carry x.below HI13.out.r2
  have HBJ := Lib.hid (onto HI13.out.below HI13.out.below.size x.below)
  have HT := Lib.hid (show xorF (hshF hk al N) (encF k ct) = tagF k n s ns b nb by rw [HCT.out, HHK.out, HAL.out, HN.out, xorF_comm']; rfl)
  clear q1 qe qx qh HI13
  go_wp2_with fail
  rw [HT.out]
  refine bodyPost_ret (v := .agg (ba 16 (tagF k n s ns b nb))) (res_row rfl _ _ (w.heap.size + 1 + 1) _ _ _ rfl (row_setRow r2 _) blk_u (by rw [ba_size]; exact blk_i)) rfl ⟨rfl, ?_⟩
  exact below_setRow HBJ.out (by omega) _
end Go.Proofs.Ytokhldihfbaeoaa.Oct
