/- Contracts of gcm.Seal, gcm.Open, and of the reference's. -/
import Derived.Test.YtokhldihfbaeoaaGcmF
namespace Go.Proofs.Ytokhldihfbaeoaa.Oct
open Go.ChangeShapes Go.WideShapes Go.ChangeAt Go.RowKit
set_option linter.unusedVariables false

/-- a whole array out of cells, wherever they lie -/
theorem ldR_cells {P : Program} (t n : Nat) (e : TypeId) (hu : P.underlying t = some (.array n e)) (m : Nat) (hi : (P.info? t).map (·.size) = some m) (w : World) (g o : Nat) (f : Bf) (hc : ∀ i, i < m → w.cell? ⟨g, o + i, none⟩ = some (.int .u8 (I (f i)))) :
    ldR P t m w g o (row w g) = .ok (.agg (ba m f)) w := by
  rw [← ld_rule t n e hu m hi w g o]
  have h := run_loadAt_mid (P := P) w g o t (ba m f).toList _ (fun j v hv => by
    rw [Array.getElem?_toList] at hv
    by_cases hj : j < m
    · rw [ba_get m f j hj] at hv; rw [hc j hj, hv]
    · rw [ba_none m f j hj] at hv; cases hv) hu rfl (by rw [hi, Array.length_toList, ba_size])
  rw [Array.toArray_toList] at h
  exact h
theorem blk_at (a : Option Addr) (cap : Nat) (w : World) : (Instr.arrayAt 35 (.slice a 16 cap)).run Try.prog w = .ok (.pointer a) w := by
  simp [Instr.arrayAt, run_underlying blk_u]

def sealF (k n s : Bf) (ns : Nat) (b : Bf) (L : Nat) : Bf := catF L (xorS k n 2 b) (tagF k n s ns (xorS k n 2 b) L)
/-- what Open says -/
def opC (k n s : Bf) (ns : Nat) (b : Bf) (L : Nat) : Int := if L < 16 then 3 else if eqB 16 (tagF k n s ns b (L - 16)) (offF b (L - 16)) = true then 0 else 40
def opL (k n s : Bf) (ns : Nat) (b : Bf) (L : Nat) : Nat := if opC k n s ns b L = 0 then L - 16 else 0

set_option maxRecDepth 20000 in
set_option maxHeartbeats 2000000 in
theorem gseal_any (k n : Bf) (s : Bf) (ns cs : Nat) (As : Option Addr) (b : Bf) (L c : Nat) (A : Option Addr) (w : World) (hs : Sl w w.heap.size As ns cs s) (hb : Sl w w.heap.size A L c b) (hns : ns ≤ 1099511627776) (hL : L ≤ 1099511627776) :
    Calls Try.prog 16 #[.agg (ba 32 k), .agg (ba 12 n), .slice As ns cs, .slice A L c] w fun e w' => ∃ v, e = .returned v ∧ Own w' w.heap.size 5 v (L + 16) (sealF k n s ns b L) ∧ Below w.heap.size w w' := by
  have B0 := ((Below.refl w.heap.size w).alloc (by simp) (.cells (ba 32 k) 23)).alloc (by simp) (.cells (ba 12 n) 25)
  have HSS := Lib.hid hs
  have HSB := Lib.hid hb
  have HB0 := Lib.hid B0
  have q0 : row ((w.alloc (.cells (ba 32 k) 23)).alloc (.cells (ba 12 n) 25)) w.heap.size = some (ba 32 k) := by simp [go_sem]
  have q1 : row ((w.alloc (.cells (ba 32 k) 23)).alloc (.cells (ba 12 n) 25)) (w.heap.size + 1) = some (ba 12 n) := by simp [go_sem]
  clear hs hb B0
  go_enter Try.func16, Try.ntmps16
  go_wp2_with fail
  generalize (w.alloc (.cells (ba 32 k) 23)).alloc (.cells (ba 12 n) 25) = w0 at HB0 q0 q1 ⊢
  refine (gxor_any k n 2 (by decide) b L c A _ ((HSB.out.below HB0.out).more HB0.out.size) hL).mono ?_
  rintro e w1 ⟨v1, rfl, ho1, hb1⟩
  have HB1 := Lib.hid (onto HB0.out HB0.out.size hb1)
  have HO1 := Lib.hid (ho1.base HB0.out.size)
  obtain ⟨A1, c1, rfl, h1, hc1, -⟩ := ho1.sl
  have t0 := carry hb1 q0
  have t1 := carry hb1 q1
  clear q0 q1 ho1 hb1 HB0
  go_wp2_with fail
  refine (gtag_any k n s ns cs As (xorS k n 2 b) L c1 A1 _ ((HSS.out.below HB1.out).more HB1.out.size) h1 hns hL).mono ?_
  rintro e w2 ⟨rfl, hb2⟩
  obtain ⟨tg, htg⟩ : ∃ tg, tg = tagF k n s ns (xorS k n 2 b) L := ⟨_, rfl⟩
  rw [← htg]
  have HTG := Lib.hid htg
  have hs2 := hb2.size
  have hsz := HB1.out.size
  have HB2 := Lib.hid ((onto HB1.out HB1.out.size hb2).alloc (by omega) (.cells (ba 16 tg) 35))
  have HO2 := (HO1.out.below hb2 (Nat.le_refl _)).alloc (.cells (ba 16 tg) 35)
  have rt : row (w2.alloc (.cells (ba 16 tg) 35)) w2.heap.size = some (ba 16 tg) := row_alloc_at _ _ _ _ rfl
  have HST := Sl.of_row rt (w2.heap.size + 1) (by omega)
  have hb3 : w.heap.size ≤ (w2.alloc (.cells (ba 16 tg) 35)).heap.size := by simp; omega
  clear t0 t1 h1 hc1 hb2 htg HB1 HO1
  go_wp2_with (at_builtin; refine wpl_appB rfl (.tmp 20) (.tmp 21) rfl sli_u u8_info HO2 HST (by omega) hb3 rfl rfl ?_; intro v3 w3 ho hg ht)
  have HF := Lib.hid (ho.congr (f' := sealF k n s ns b L) fun i _ => by unfold sealF; rw [HTG.out])
  have HB3 := Lib.hid (HO2.after hg HB2.out hb3 (Nat.le_refl _))
  clear ho hg ht
  go_ret
  exact ⟨_, rfl, HF.out, HB3.out⟩

set_option maxRecDepth 20000 in
set_option maxHeartbeats 2000000 in
theorem rgseal_any (k n : Bf) (s : Bf) (ns cs : Nat) (As : Option Addr) (b : Bf) (L c : Nat) (A : Option Addr) (w : World) (hs : Sl w w.heap.size As ns cs s) (hb : Sl w w.heap.size A L c b) (hns : ns ≤ 1099511627776) (hL : L ≤ 1099511627776) :
    Calls Try.prog 19 #[.agg (ba 32 k), .agg (ba 12 n), .slice As ns cs, .slice A L c] w fun e w' => ∃ v, e = .returned v ∧ Own w' w.heap.size 5 v (L + 16) (sealF k n s ns b L) ∧ Below w.heap.size w w' := by
  have B0 := ((Below.refl w.heap.size w).alloc (by simp) (.cells (ba 32 k) 23)).alloc (by simp) (.cells (ba 12 n) 25)
  have HSS := Lib.hid hs
  have HSB := Lib.hid hb
  have HB0 := Lib.hid B0
  have q0 : row ((w.alloc (.cells (ba 32 k) 23)).alloc (.cells (ba 12 n) 25)) w.heap.size = some (ba 32 k) := by simp [go_sem]
  have q1 : row ((w.alloc (.cells (ba 32 k) 23)).alloc (.cells (ba 12 n) 25)) (w.heap.size + 1) = some (ba 12 n) := by simp [go_sem]
  clear hs hb B0
  go_enter Try.func19, Try.ntmps19
  go_wp2_with fail
  generalize (w.alloc (.cells (ba 32 k) 23)).alloc (.cells (ba 12 n) 25) = w0 at HB0 q0 q1 ⊢
  refine (rgxor_any k n 2 (by decide) b L c A _ ((HSB.out.below HB0.out).more HB0.out.size) hL).mono ?_
  rintro e w1 ⟨v1, rfl, ho1, hb1⟩
  have HB1 := Lib.hid (onto HB0.out HB0.out.size hb1)
  have HO1 := Lib.hid (ho1.base HB0.out.size)
  obtain ⟨A1, c1, rfl, h1, hc1, -⟩ := ho1.sl
  have t0 := carry hb1 q0
  have t1 := carry hb1 q1
  clear q0 q1 ho1 hb1 HB0
  go_wp2_with fail
  refine (rgtag_any k n s ns cs As (xorS k n 2 b) L c1 A1 _ ((HSS.out.below HB1.out).more HB1.out.size) h1 hns hL).mono ?_
  rintro e w2 ⟨rfl, hb2⟩
  obtain ⟨tg, htg⟩ : ∃ tg, tg = tagF k n s ns (xorS k n 2 b) L := ⟨_, rfl⟩
  rw [← htg]
  have HTG := Lib.hid htg
  have hs2 := hb2.size
  have hsz := HB1.out.size
  have HB2 := Lib.hid ((onto HB1.out HB1.out.size hb2).alloc (by omega) (.cells (ba 16 tg) 35))
  have HO2 := (HO1.out.below hb2 (Nat.le_refl _)).alloc (.cells (ba 16 tg) 35)
  have rt : row (w2.alloc (.cells (ba 16 tg) 35)) w2.heap.size = some (ba 16 tg) := row_alloc_at _ _ _ _ rfl
  have HST := Sl.of_row rt (w2.heap.size + 1) (by omega)
  have hb3 : w.heap.size ≤ (w2.alloc (.cells (ba 16 tg) 35)).heap.size := by simp; omega
  clear t0 t1 h1 hc1 hb2 htg HB1 HO1
  go_wp2_with (at_builtin; refine wpl_appB rfl (.tmp 20) (.tmp 21) rfl sli_u u8_info HO2 HST (by omega) hb3 rfl rfl ?_; intro v3 w3 ho hg ht)
  have HF := Lib.hid (ho.congr (f' := sealF k n s ns b L) fun i _ => by unfold sealF; rw [HTG.out])
  have HB3 := Lib.hid (HO2.after hg HB2.out hb3 (Nat.le_refl _))
  clear ho hg ht
  go_ret
  exact ⟨_, rfl, HF.out, HB3.out⟩

set_option maxRecDepth 20000 in
set_option maxHeartbeats 4000000 in
theorem gopen_any (k n : Bf) (s : Bf) (ns cs : Nat) (As : Option Addr) (b : Bf) (L c : Nat) (A : Option Addr) (w : World) (hs : Sl w w.heap.size As ns cs s) (hb : Sl w w.heap.size A L c b) (hns : ns ≤ 1099511627776) (hL : L ≤ 1099511627776) :
    Calls Try.prog 17 #[.agg (ba 32 k), .agg (ba 12 n), .slice As ns cs, .slice A L c] w fun e w' => ∃ v, e = .returned (.tuple #[v, .int .i64 (opC k n s ns b L)]) ∧ Own w' w.heap.size 5 v (opL k n s ns b L) (xorS k n 2 b) ∧ Below w.heap.size w w' := by
  have B0 := ((Below.refl w.heap.size w).alloc (by simp) (.cells (ba 32 k) 23)).alloc (by simp) (.cells (ba 12 n) 25)
  have HSS := Lib.hid hs
  have HSB := Lib.hid hb
  have HB0 := Lib.hid B0
  have q0 : row ((w.alloc (.cells (ba 32 k) 23)).alloc (.cells (ba 12 n) 25)) w.heap.size = some (ba 32 k) := by simp [go_sem]
  have q1 : row ((w.alloc (.cells (ba 32 k) 23)).alloc (.cells (ba 12 n) 25)) (w.heap.size + 1) = some (ba 12 n) := by simp [go_sem]
  have hcap := hb.le
  clear hs hb B0
  by_cases hlt : L < 16
  · have hd : decide ((L : Int) < 16) = true := by simp; omega
    have HCO := Lib.hid (show opC k n s ns b L = 3 by unfold opC; rw [if_pos hlt])
    go_enter Try.func17, Try.ntmps17
    go_wp2_with fail
    rw [show opL k n s ns b L = 0 by unfold opL; rw [HCO.out]; rfl, HCO.out]
    exact bodyPost_ret (v := .tuple #[.slice none 0 0, .int .i64 3]) (by simp [results, Try.results17, go_sem]) rfl ⟨_, rfl, Own.nil _ _ _ _, HB0.out⟩
  · have hd : decide ((L : Int) < 16) = false := by simp; omega
    obtain ⟨m, hm⟩ : ∃ m, m = L - 16 := ⟨_, rfl⟩
    have hmL : m + 16 = L := by omega
    have hmi : (L : Int) - 16 = (m : Int) := by omega
    obtain ⟨g, o, hA, hg, hcell⟩ := HSB.out.at_ (by omega)
    subst hA
    have hup := run_upto sli_u u8_i (some ⟨g, o, none⟩) L c m (by omega)
    have hfrom := run_from sli_u u8_i (some ⟨g, o, none⟩) L c m (by omega)
    rw [show cutA (some ⟨g, o, none⟩) c m = some ⟨g, o + m, none⟩ by unfold cutA; rw [if_neg (by omega)]; simp only [Option.map_some]; rw [add_mid], show L - m = 16 by omega] at hfrom
    have hat := blk_at (some ⟨g, o + m, none⟩) (c - m)
    have HC := Lib.hid hcell
    clear hcell hm
    go_enter Try.func17, Try.ntmps17
    go_wp2_with fail
    refine flow_seen [([0, 1, 2, 3, 4, 5, 6, 7], 8, false), ([9], 10, true)] [] (by kernel_rfl) (by kernel_rfl) (fun _ _ _ _ _ h => h) fun X => ?_
    have hbx := X.below
    have HB1 := Lib.hid (onto HB0.out HB0.out.size hbx)
    have t0 := carry hbx q0
    have t1 := carry hbx q1
    clear q0 q1 HB0 hbx
    generalize X.val = w1 at HB1 t0 t1 ⊢
    clear X
    obtain ⟨f, hf⟩ : ∃ f, f = offF b m := ⟨_, rfl⟩
    have HF := Lib.hid hf
    have hld : ∀ x : After w1, ldR Try.prog 35 16 x.val g (o + m) (row x.val g) = .ok (.agg (ba 16 f)) x.val := fun x => ldR_cells _ 16 _ blk_u 16 blk_i x.val g (o + m) f fun i hi => by
      rw [show o + m + i = o + (m + i) by omega, (onto HB1.out HB1.out.size x.below).cell (p := ⟨g, o + (m + i), none⟩) hg, HC.out (m + i) (by omega), hf]; rfl
    clear hf
    simp only [wpFs, pk, List.getElem?_cons_zero, List.getElem?_cons_succ]
    repeat (go_big_quiet_step (fail))
    refine wpQuiet_nil ?_
    clear hld hup hfrom hat
    go_wp2_with fail
    have hb2 : Below w1.heap.size w1 (w1.alloc (.cells (ba 16 fun _ => 0#8) 35)) := (Below.refl _ _).alloc (Nat.le_refl _) _
    have rz : row (w1.alloc (.cells (ba 16 fun _ => 0#8) 35)) w1.heap.size = some (ba 16 fun _ => 0#8) := row_alloc_at _ _ _ _ rfl
    have HBS := Lib.hid (show w.heap.size + 2 ≤ w1.heap.size by have := row_lt t1; omega)
    refine ⟨.inr hb2, ?_⟩
    have HB2 := Lib.hid (onto HB1.out HB1.out.size hb2)
    have r0 := carry hb2 t0
    have r1 := carry hb2 t1
    clear t0 t1 HB1 hb2
    generalize w1.heap.size = Z at rz HBS ⊢
    generalize w1.alloc (.cells (ba 16 fun _ => 0#8) 35) = w2 at HB2 r0 r1 rz ⊢
    show wpQuiet _ _ _ _ _ _
    repeat (go_big_quiet_step (fail))
    refine wpQuiet_nil ?_
    go_wp2_with fail
    refine ⟨.inl trivial, ?_⟩
    have HB3 := Lib.hid (below_setRow HB2.out (show w.heap.size ≤ Z by have := HBS.out; omega) (ba 16 f))
    have t0 : row (w2.setRow Z (ba 16 f)) w.heap.size = some (ba 32 k) := by rw [row_setRow_other _ _ _ _ (by have := HBS.out; omega)]; exact r0
    have t1 : row (w2.setRow Z (ba 16 f)) (w.heap.size + 1) = some (ba 12 n) := by rw [row_setRow_other _ _ _ _ (by have := HBS.out; omega)]; exact r1
    have tz : row (w2.setRow Z (ba 16 f)) Z = some (ba 16 f) := row_setRow rz _
    clear r0 r1 rz HB2
    generalize w2.setRow Z (ba 16 f) = w3 at HB3 t0 t1 tz ⊢
    show wpQuiet _ _ _ _ _ _
    refine wpQuiet_nil ?_
    obtain ⟨tg, htg⟩ : ∃ tg, tg = tagF k n s ns b m := ⟨_, rfl⟩
    have HTG := Lib.hid htg
    have hcT : ∀ x : After w3, Calls Try.prog 14 #[.agg (ba 32 k), .agg (ba 12 n), .slice As ns cs, .slice (some ⟨g, o, none⟩) m c] x.val fun e w' => e = .returned (.agg (ba 16 tg)) ∧ Below x.val.heap.size x.val w' := fun x => by
      rw [htg]
      have hx : Below w.heap.size w x.val := onto HB3.out HB3.out.size x.below
      exact gtag_any k n s ns cs As b m c _ _ ((HSS.out.below hx).more hx.size) (((HSB.out.upto m (by omega)).below hx).more hx.size) hns (by omega)
    have HCT := Lib.hid hcT
    have q0 := After.row t0
    have q1 := After.row t1
    have qz := After.row tz
    have hmL16 : L - 16 = m := by omega
    have HML := Lib.hid hmL16
    have HMB := Lib.hid (show m ≤ 1099511627776 ∧ m ≤ L by omega)
    clear htg hcT hmL16 hmL hmi hd
    cases he : eqB 16 tg f
    · go_wp2_with fail
      refine seen_region (by kernel_rfl) (by kernel_rfl) ?_
      repeat (first | rw [he] | go_big_quiet_step ((go_at_call 14; exact After.call _ (HCT.out _))))
      refine wpQuiet_nil ?_
      rintro _ ⟨x, rfl⟩
      have HB4 := Lib.hid (onto HB3.out HB3.out.size x.below)
      clear q0 q1 qz
      go_wp2_with fail
      have hC : opC k n s ns b L = 40 := by
        unfold opC
        rw [if_neg hlt, HML.out, ← HTG.out, ← HF.out, he]
        rfl
      rw [show opL k n s ns b L = 0 by unfold opL; rw [hC]; rfl, hC]
      exact bodyPost_ret (v := .tuple #[.slice none 0 0, .int .i64 40]) (by simp [results, Try.results17, go_sem]) rfl ⟨_, rfl, Own.nil _ _ _ _, HB4.out⟩
    · go_wp2_with fail
      refine seen_region (by kernel_rfl) (by kernel_rfl) ?_
      repeat (first | rw [he] | go_big_quiet_step ((go_at_call 14; exact After.call _ (HCT.out _))))
      refine wpQuiet_nil ?_
      rintro _ ⟨x, rfl⟩
      have HB4 := Lib.hid (onto HB3.out HB3.out.size x.below)
      have r0 := q0 x
      have r1 := q1 x
      clear q0 q1 qz
      go_wp2_with fail
      refine (gxor_any k n 2 (by decide) b m c _ _ (((HSB.out.upto m HMB.out.2).below HB4.out).more HB4.out.size) HMB.out.1).mono ?_
      rintro e w5 ⟨v, rfl, ho, hb5⟩
      have HO := Lib.hid (ho.base HB4.out.size)
      have HB5 := Lib.hid (onto HB4.out HB4.out.size hb5)
      clear ho hb5
      go_wp2_with fail
      have hC : opC k n s ns b L = 0 := by
        unfold opC
        rw [if_neg hlt, HML.out, ← HTG.out, ← HF.out, he]
        rfl
      rw [show opL k n s ns b L = m by unfold opL; rw [hC, if_pos rfl, HML.out], hC]
      exact bodyPost_ret (v := .tuple #[v, .int .i64 0]) (by simp [results, Try.results17, go_sem]) rfl ⟨_, rfl, HO.out, HB5.out⟩
end Go.Proofs.Ytokhldihfbaeoaa.Oct
