/- Contracts of gcm.Xor and of the reference's. -/
import Derived.Test.YtokhldihfbaeoaaGcmB
import Derived.Test.YtokhldihfbaeoaaAesE
import Derived.Test.YtokhldihfbaeoaaAesT
import Derived.Test.YtokhldihfbaeoaaAesX
namespace Go.Proofs.Ytokhldihfbaeoaa.Oct
open Go.ChangeShapes Go.WideShapes Go.ChangeAt Go.RowKit
set_option linter.unusedVariables false

theorem Own.base {w : World} {b b' : Nat} {u : TypeId} {v : Value} {n : Nat} {f : Bf} (h : Own w b u v n f) (hb : b' ≤ b) : Own w b' u v n f := by
  unfold Own at h ⊢
  refine ⟨h.1, ?_⟩
  rcases h.2 with hn | ⟨g, cap, cur, e, hbg, rest⟩
  · exact .inl hn
  · exact .inr ⟨g, cap, cur, e, by omega, rest⟩
theorem Own.setRow {w : World} {b : Nat} {u : TypeId} {v : Value} {n : Nat} {f : Bf} (h : Own w b u v n f) (C : Nat) (hC : v.ownBlock ≠ some C) (c : Array Value) : Own (w.setRow C c) b u v n f := by
  unfold Own at h ⊢
  refine ⟨h.1, ?_⟩
  rcases h.2 with hn | ⟨g, cap, cur, e, hbg, hg, rest⟩
  · exact .inl hn
  · refine .inr ⟨g, cap, cur, e, hbg, ?_, rest⟩
    rw [setRow_other w C g c (fun e2 => hC (by rw [e, e2]; rfl))]
    exact hg
theorem grown_row {w w' : World} {r : Option Nat} (h : w.grownBy w' r) {k : Nat} {c : Array Value} (hr : row w k = some c) (hk : r ≠ some k) : row w' k = some c := by
  rw [row_heap (h.block k (row_lt hr) (fun e => hk e.symm)), hr]

/-- a group, laid over -/
theorem xor_grp (k n : Bf) (a : Nat) (b : Bf) (j m : Nat) (hm : m ≤ 16) (i : Nat) (hi : i < 16 * j + m) :
    catF (16 * j) (xorS k n a b) (xorF (putF (fun _ => 0#8) 0 m (offF b (16 * j))) (encF k (ctrF n ((a + j) % 4294967296)))) i = xorS k n a b i := by
  unfold catF
  by_cases h : i < 16 * j
  · rw [if_pos h]
  · rw [if_neg h]
    unfold xorF putF offF xorS
    rw [if_pos (by omega), Nat.sub_zero, show 16 * j + (i - 16 * j) = i by omega, show i / 16 = j by omega, show i % 16 = i - 16 * j by omega]

/-- what is known of the world on the way through Xor: the counter lies in block C -/
structure XrInv (w : World) (k ct : Bf) (C : Nat) (wr : World) : Prop where
  below : Below w.heap.size w wr
  key : row wr w.heap.size = some (ba 32 k)
  ctr : row wr C = some (ba 16 ct)
  hC : w.heap.size + 2 ≤ C
theorem XrInv.lt {w : World} {k ct : Bf} {C : Nat} {wr : World} (h : XrInv w k ct C wr) : C < wr.heap.size := row_lt h.ctr
theorem XrInv.call {w : World} {k ct : Bf} {C : Nat} {wr w' : World} (h : XrInv w k ct C wr) (hb : Below wr.heap.size wr w') : XrInv w k ct C w' :=
  ⟨onto h.below h.below.size hb, carry hb h.key, carry hb h.ctr, h.hC⟩
theorem XrInv.grown {w : World} {k ct : Bf} {C : Nat} {wr w' : World} {base : Nat} {u : TypeId} {v : Value} {n : Nat} {f : Bf} (h : XrInv w k ct C wr) (ho : Own wr base u v n f) (hg : wr.grownBy w' v.ownBlock) (hbase : w.heap.size + 1 ≤ base) (hv : v.ownBlock ≠ some C) : XrInv w k ct C w' :=
  ⟨ho.after hg h.below h.below.size (by omega), grown_row hg h.key (fun e => by
    unfold Own at ho
    rcases ho.2 with ⟨rfl, _⟩ | ⟨g, cap, cur, rfl, hb, _⟩
    · cases e
    · simp only [Value.ownBlock, Option.some.injEq] at e
      omega), grown_row hg h.ctr hv, h.hC⟩
theorem XrInv.put {w : World} {k ct : Bf} {C : Nat} {wr : World} (h : XrInv w k ct C wr) (ct' : Bf) : XrInv w k ct' C (wr.setRow C (ba 16 ct')) :=
  ⟨below_setRow h.below (by have := h.hC; omega) _, by rw [row_setRow_other _ _ _ _ (by have := h.hC; omega)]; exact h.key, row_setRow h.ctr _, h.hC⟩

set_option maxRecDepth 20000 in
set_option maxHeartbeats 4000000 in
theorem gxor_any (k n : Bf) (a : Nat) (ha : a < 4294967296) (b : Bf) (L c : Nat) (A : Option Addr) (w : World) (hs : Sl w w.heap.size A L c b) (hL : L ≤ 1099511627776) :
    Calls Try.prog 12 #[.agg (ba 32 k), .agg (ba 12 n), .int .u32 a, .slice A L c] w fun e w' => ∃ v, e = .returned v ∧ Own w' w.heap.size 5 v L (xorS k n a b) ∧ Below w.heap.size w w' := by
  obtain ⟨iu, hiu, z0, z1, z2⟩ := info_parts (P := Try.prog) u8_info
  have B0 := ((Below.refl w.heap.size w).alloc (by simp) (.cells (ba 32 k) 23)).alloc (by simp) (.cells (ba 12 n) 25)
  have HS := Lib.hid (hs.below B0)
  have HB0 := Lib.hid B0
  have q0 : row ((w.alloc (.cells (ba 32 k) 23)).alloc (.cells (ba 12 n) 25)) w.heap.size = some (ba 32 k) := by simp [go_sem]
  have q1 : row ((w.alloc (.cells (ba 32 k) 23)).alloc (.cells (ba 12 n) 25)) (w.heap.size + 1) = some (ba 12 n) := by simp [go_sem]
  clear hs B0
  go_enter Try.func12, Try.ntmps12
  go_wp2_with (at_make; refine wpList_make_own _ rfl (.const (.int .i64 0)) (.tmp 14) _ rfl (w.heap.size + 2) 5 iu (.int .u8 0) 1 sli_u hiu z0 z1 .i64 .i64 _ L rfl rfl rfl (by rw [z2]; omega) (by unfold maxLen; omega) (by simp) ?_; intro w2 ho hg; have hb2 := Below.of_grown hg; have r0 := carry hb2 q0; have r1 := carry hb2 q1)
  have HO := Lib.hid (Own.of_zero ho (xorS k n a b))
  have HB2 := Lib.hid (onto HB0.out (by simp; omega) hb2)
  have HS2 := Lib.hid (HS.out.below (hb2.mono (by simp; omega)))
  have s2 : w.heap.size + 3 ≤ w2.heap.size := by
    rcases ho.2 with ⟨h, _⟩ | ⟨g, cap, cur, h, hb, hh, _⟩
    · cases h
    · have := (Array.getElem?_eq_some_iff.1 hh).1
      simp only [Value.slice.injEq, Option.some.injEq, Addr.mk.injEq] at h
      obtain ⟨⟨h, _⟩, _⟩ := h
      simp at h; omega
  clear ho hg hb2 q0 q1 HS HB0 z0 z1 z2 hiu
  refine (cblk_any n a ha _).mono ?_
  rintro e w3 ⟨rfl, hb3⟩
  have t0 := carry hb3 r0
  have t1 := carry hb3 r1
  have hO3 : Own (w3.alloc (.cells (ba 16 (ctrF n a)) 35)) (w.heap.size + 2) 5 (.slice (some ⟨w.heap.size + 1 + 1, 0, none⟩) 0 L) 0 (xorS k n a b) := by
    have := (HO.out.below hb3 (Nat.le_refl _)).alloc (.cells (ba 16 (ctrF n a)) 35)
    simpa using this
  have hX : XrInv w k (ctrF n a) w3.heap.size (w3.alloc (.cells (ba 16 (ctrF n a)) 35)) :=
    ⟨(onto HB2.out HB2.out.size hb3).alloc (by have := hb3.size; omega) _, row_alloc t0 _, row_alloc_at _ _ _ _ rfl, by have := hb3.size; omega⟩
  have hS3 : Sl (w3.alloc (.cells (ba 16 (ctrF n a)) 35)) w.heap.size A L c b := (HS2.out.below (hb3.mono (by omega))).below ((Below.refl _ _).alloc (by have := hb3.size; omega) _)
  have hne : (Value.slice (some ⟨w.heap.size + 1 + 1, 0, none⟩) 0 L).ownBlock ≠ some w3.heap.size := by
    have := hb3.size
    simp [Value.ownBlock]; omega
  have HO3 := Lib.hid hO3
  have HX := Lib.hid hX
  have HS3 := Lib.hid hS3
  have HNE := Lib.hid hne
  have HA := Lib.hid ha
  clear hO3 hX hS3 hne HO HS2 HB2 hb3 r0 r1 t0 t1 s2 ha
  go_wp2_with fail
  generalize w3.heap.size = C at HX HNE ⊢
  generalize w3.alloc (.cells (ba 16 (ctrF n a)) 35) = w4 at HO3 HX HS3 ⊢
  go_loopw [3, 9] (fun v s wr => ∃ j : Nat, ∃ A' : Option Addr, ∃ c' : Nat, 16 * j < L + 16 ∧ v = .slice A' (L - 16 * j) c' ∧ Sl wr w.heap.size A' (L - 16 * j) c' (offF b (16 * j)) ∧ Own wr (w.heap.size + 2) 5 s (min L (16 * j)) (xorS k n a b) ∧ s.ownBlock ≠ some C ∧ XrInv w k (ctrF n ((a + j) % 4294967296)) C wr) (fun v _ _ => slLen v)
  case atStart => exact ⟨0, A, c, by omega, rfl, by rw [Nat.mul_zero, offF_zero]; exact HS3.out, by rw [Nat.mul_zero, Nat.min_zero]; exact HO3.out, HNE.out, by rw [Nat.add_zero, Nat.mod_eq_of_lt HA.out]; exact HX.out⟩
  case round =>
    clear HO3 HX HS3 HNE
    obtain ⟨j, A', c', hj, rfl, hs, ho, hne, hI⟩ := hrel
    obtain ⟨wo, rfl⟩ : ∃ wo : World, wo = wr := ⟨_, rfl⟩
    obtain ⟨r, hr⟩ : ∃ r, r = L - 16 * j := ⟨_, rfl⟩
    rw [← hr] at hs ⊢
    have HR := Lib.hid hr
    have HS := Lib.hid hs
    have HO := Lib.hid ho
    have HNE := Lib.hid hne
    have HI := Lib.hid hI
    have HJ := Lib.hid hj
    clear hr hs ho hne hI hj
    rcases Nat.eq_zero_or_pos r with rfl | hpos
    · have hd : decide ((0 : Int) < 0) = false := by decide
      go_wp2_with fail
      go_ret
      refine ⟨_, rfl, ?_, HI.out.below⟩
      have := HO.out.base (b' := w.heap.size) (by omega)
      rw [show min L (16 * j) = L by have := HR.out; omega] at this
      exact this
    · have hd : decide ((0 : Int) < (r : Int)) = true := by simp; omega
      obtain ⟨m, hm⟩ : ∃ m, m = min r 16 := ⟨_, rfl⟩
      have HM := Lib.hid hm
      have hfrom := run_from sli_u u8_i A' r c' m (by omega)
      have hm16 : m ≤ 16 := by omega
      have hmp : 0 < m := by omega
      clear hm
      go_wp2_with (refine wpl_copy rfl (.tmp 22) (.tmp 23) 26 26 5 rfl sli_u u8_i (row_alloc_at _ _ _ _ rfl) (HS.out.below ((Below.refl _ _).alloc (by have := HI.out.below.size; omega) _)) HM.out rfl rfl ?_)
      obtain ⟨f, hf⟩ : ∃ f, f = putF (fun _ => 0#8) 0 m (offF b (16 * j)) := ⟨_, rfl⟩
      obtain ⟨ct, hct⟩ : ∃ ct, ct = ctrF n ((a + j) % 4294967296) := ⟨_, rfl⟩
      have hI0 := HI.out
      rw [← hf]
      rw [← hct] at hI0
      have HF := Lib.hid hf
      have HCT := Lib.hid hct
      clear hf hct
      have rg : row (wo.alloc (.cells (ba 16 f) 35)) wo.heap.size = some (ba 16 f) := row_alloc_at _ _ _ _ rfl
      have hB1 : Below wo.heap.size wo (wo.alloc (.cells (ba 16 f) 35)) := (Below.refl _ _).alloc (Nat.le_refl _) _
      have HI1 := Lib.hid (hI0.call hB1)
      have HS1 := Lib.hid (HS.out.below (hB1.mono HI.out.below.size))
      have HO1 := Lib.hid (HO.out.below hB1 (Nat.le_refl _))
      have HCG := Lib.hid (show C < wo.heap.size from hI0.lt)
      have HWG := Lib.hid (show w.heap.size ≤ wo.heap.size from hI0.below.size)
      have HOG := Lib.hid (show u9.ownBlock ≠ some wo.heap.size by
        intro e
        have := HO.out
        unfold Own at this
        have := (World.ownsRow.lt this _ e).2
        omega)
      have hsl := blk_sl_h wo.heap.size m hm16
      clear HS HO HI hI0 hB1
      generalize wo.heap.size = G at rg HCG HWG HOG hsl ⊢
      generalize wo.alloc (.cells (ba 16 f) 35) = w1 at rg HI1 HS1 HO1 ⊢
      have q0 := After.row HI1.out.key
      have q1 := After.row HI1.out.ctr
      have qg := After.row rg
      refine seen_tail 0 5 (by kernel_rfl) (by kernel_rfl) (fun _ _ _ _ _ h => h) ?_
      simp only [List.take_succ_cons, List.take_zero, List.drop_succ_cons, List.drop_zero]
      repeat (go_big_quiet_step ((first | (go_at_call 22; refine After.call _ (encrypt_any k ct _)) | (go_at_call 21; refine After.call _ (bxor_any f (encF k ct) _)))))
      refine wpQuiet_nil ?_
      rintro _ ⟨z, rfl⟩
      have hbz := z.below
      have HI2 := Lib.hid (HI1.out.call hbz)
      have HS2 := Lib.hid (HS1.out.below (hbz.mono HI1.out.below.size))
      have HO2 := Lib.hid (HO1.out.below hbz (Nat.le_refl _))
      have rg2 := carry hbz rg
      clear q0 q1 qg rg hbz HI1 HS1 HO1
      generalize z.val = w2 at HI2 HS2 HO2 rg2 ⊢
      have rg3 := row_setRow rg2 (ba 16 (xorF f (encF k ct)))
      have HI3 := Lib.hid (show XrInv w k ct C (w2.setRow G (ba 16 (xorF f (encF k ct)))) from
        ⟨below_setRow HI2.out.below HWG.out _, by rw [row_setRow_other _ _ _ _ (by have := HI2.out.hC; have := HCG.out; omega)]; exact HI2.out.key, by rw [row_setRow_other _ _ _ _ (by have := HCG.out; omega)]; exact HI2.out.ctr, HI2.out.hC⟩)
      have HO3 := Lib.hid (HO2.out.setRow G HOG.out (ba 16 (xorF f (encF k ct))))
      have HS3 := Lib.hid (HS2.out.below (below_setRow (Below.refl w.heap.size w2) HWG.out (ba 16 (xorF f (encF k ct)))))
      have hG : G < w2.heap.size := row_lt rg2
      clear HI2 HS2 HO2
      have hb : (w2.setRow G (ba 16 (xorF f (encF k ct)))).heap.size = w2.heap.size := by simp
      rw [← hb] at hG
      clear hb
      have HSG := (Sl.of_row rg3 (w2.setRow G (ba 16 (xorF f (encF k ct)))).heap.size hG).upto m hm16
      rw [show min L (16 * j) = 16 * j by have := HR.out; omega] at HO3
      clear rg3 hG
      have hbs : w.heap.size + 2 ≤ (w2.setRow G (ba 16 (xorF f (encF k ct)))).heap.size := by have := HI3.out.hC; have := HI3.out.lt; omega
      go_wp2_with (at_builtin; refine wpl_appB rfl (.tmp 30) (.tmp 32) rfl sli_u u8_info HO3.out HSG (by have := HR.out; omega) hbs rfl rfl ?_; intro v' w6 ho hg ht; have rc := (HI3.out.grown HO3.out hg (by omega) HNE.out).ctr)
      have HI6 := Lib.hid (HI3.out.grown HO3.out hg (by omega) HNE.out)
      have HO6 := Lib.hid (ho.congr (f' := xorS k n a b) fun i hi => by
        have := xor_grp k n a b j m hm16 i hi
        rw [HF.out, HCT.out]; exact this)
      have HS6 := Lib.hid (HS3.out.below (HO3.out.after hg (Below.refl w.heap.size _) HI3.out.below.size (by omega)))
      have HN6 := Lib.hid (show v'.ownBlock ≠ some C by
        rcases ht with e | e
        · rw [e]; exact HNE.out
        · rw [e]; have := HI3.out.lt; simp at this ⊢; omega)
      clear ho hg ht HO3 HS3 HSG hbs
      refine (bnext_any ct _).mono ?_
      rintro e w7 ⟨rfl, hb7⟩
      have r7 := carry hb7 rc
      have HI7 := Lib.hid ((HI6.out.call hb7).put (ctrF n ((a + (j + 1)) % 4294967296)))
      have HO7 := Lib.hid ((HO6.out.below hb7 (Nat.le_refl _)).setRow C HN6.out (ba 16 (ctrF n ((a + (j + 1)) % 4294967296))))
      have HS7 := Lib.hid ((HS6.out.below (hb7.mono HI6.out.below.size)).below (below_setRow (Below.refl w.heap.size w7) (show w.heap.size ≤ C by have := HI6.out.hC; omega) (ba 16 (ctrF n ((a + (j + 1)) % 4294967296)))))
      have HNX := Lib.hid (show ba 16 (nextF ct) = ba 16 (ctrF n ((a + (j + 1)) % 4294967296)) by rw [HCT.out, ctr_next_ba, cnt_step])
      have HLE := Lib.hid (show r - m = L - 16 * (j + 1) by have := HR.out; have := HM.out; omega)
      have HLM := Lib.hid (show 16 * j + m = min L (16 * (j + 1)) by have := HR.out; have := HM.out; omega)
      have HJ1 := Lib.hid (show 16 * (j + 1) < L + 16 by have := HR.out; omega)
      have HFF := Lib.hid ((HS7.out.from_ m (by have := HM.out; omega)).congr (b' := offF b (16 * (j + 1))) fun i hi => by
        have := HR.out; have := HM.out
        unfold offF; congr 1; omega)
      clear rc hb7 HS6 HO6 HI6
      go_wp2_with fail
      rw [HNX.out]
      go_roundw
      case rel =>
        rw [HLE.out] at HFF ⊢
        rw [HLM.out] at HO7
        exact ⟨j + 1, _, _, HJ1.out, rfl, HFF.out, HO7.out, HN6.out, HI7.out⟩
      case measure => simp only [slLen]; omega
end Go.Proofs.Ytokhldihfbaeoaa.Oct
