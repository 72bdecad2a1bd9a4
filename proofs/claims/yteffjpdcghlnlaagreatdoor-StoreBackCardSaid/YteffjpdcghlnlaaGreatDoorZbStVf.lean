import Derived.Test.YteffjpdcghlnlaaGreatDoorZbStVe
set_option linter.unusedVariables false
set_option linter.unusedSimpArgs false
set_option maxHeartbeats 4000000
set_option maxRecDepth 20000
namespace Go.Proofs.YteffjpdcghlnlaaGreatDoor.Oct
open Go.ChangeShapes Go.WideShapes Go.ChangeAt Go.RowKit Go.Maps
theorem RdI.ne {X g : Nat} {l : By} {w : World} {c : Array Value} (h : RdI X l w) (hr : row w g = some c) (hs : c.size ≠ 1) : g ≠ X := fun e => by
 obtain ⟨A, c0, hr0, -⟩ := h
 rw [e, hr0] at hr
 cases hr
 exact hs rfl
theorem res_pp {P : Program} {fn : Func} {p u : Tmp} {ti : TypeId} (h : fn.results = #[.tmp p, .cell u ti]) (tmps : Array Value) (w : World) (q : Nat) (v : Value) (x : Int)
  (hp : tmps.getD p undef = v) (hq : tmps.getD u undef = .pointer (some ⟨q, 0, none⟩)) (hx : (loadVar ti ⟨q, 0, none⟩).run P w = .ok (.int .i64 x) w) :
  (results fn tmps).run P w = .ok (.tuple #[v, .int .i64 x]) w := by
 have hp2 : tmps[p]?.getD undef = v := by simpa using hp
 have hq2 : tmps[u]?.getD undef = .pointer (some ⟨q, 0, none⟩) := by simpa using hq
 simp only [results, h]
 simp [hp2, hq2, asAddr, hx]
def OutD (b : By) (m : Nat) (T : Mk) (w : World) : Ending → World → Prop := fun e w' => ∃ T', (∀ k, k < w.heap.size → T' k = T k) ∧ Below w.heap.size w w' ∧
 ((∃ x B, SxV x ∧ eSx x = b ∧ e = .returned (.pointer (some ⟨B, 0, none⟩)) ∧ StAt T' w' (m + 2) B x) ∨ (NoS b ∧ ∃ z, z ≠ 0 ∧ e = .panicked (pnE z)))
theorem OutD.low {X : Nat} {l : By} {w w2 w' : World} (h : Below w.heap.size w w2) (hX : w.heap.size = X) (hz : w2.heap.size = X + 1) (k : Rdd X l w2 w') : Below w.heap.size w w' := h.trans ((k.low (by omega)).mono (by omega))
theorem pdec1_any (T : Mk) (m E : Nat) (b : By) (A : Option Addr) (c : Nat) (w : World) (hT : ∀ k, k < w.heap.size → T k < m) (hm : 0 < m) (hs : Sl w w.heap.size A b.length c (lf b)) (hl : b.length ≤ 1000000000) (hE : row w E = some #[.slice A b.length c]) :
  Calls Tryz.prog 54 #[.pointer (some ⟨E, 0, none⟩)] w (OutD b m T w) := by
 obtain ⟨X, hX⟩ : ∃ X, X = w.heap.size := ⟨_, rfl⟩
 obtain ⟨w1, hw1⟩ : ∃ w1, w1 = w.alloc (.cells #[.slice A b.length c] 114) := ⟨_, rfl⟩
 have b1 : Below w.heap.size w w1 := by rw [hw1]; exact (Below.refl _ _).alloc (Nat.le_refl _) _
 have r1 : row w1 X = some #[.slice A b.length c] := by rw [hw1, hX]; exact zA _ _ _ _ rfl
 have I1 : RdI X b w1 := ⟨A, c, r1, by rw [hX]; exact hs.below b1, hl⟩
 have e0 : w.cell? ⟨E, 0, none⟩ = some (.slice A b.length c) := zG hE 0
 have z1 : w1.heap.size = X + 1 := by rw [hw1, hX]; simp
 have B1 := Lib.hid b1
 have I1 := Lib.hid I1
 have HT := Lib.hid (And.intro hT hm)
 have HX := Lib.hid hX
 have HZ := Lib.hid (show w.heap.size = X ∧ w1.heap.size = X + 1 from ⟨hX.symm, z1⟩)
 clear hs hl hE b1 r1 hT hm z1
 go_enter Tryz.func54, Tryz.ntmps54
 go_upto_region 2 with fail
 rw [← hw1, ← hX]
 clear hw1 hX e0
 refine zZ [([], 0, false), ([1, 2], 3, false), ([4, 5], 6, false), ([7, 8, 9], 10, true)] [11] (fun _ => True) (by kernel_rfl) (by kernel_rfl) (fun _ _ _ _ _ h => h) trivial ?_
 have b2 := zQ (Below.refl w1.heap.size w1) 1
 have z2 : (w1.drewN 1).heap.size = X + 1 := HZ.out.2
 have B2 := Lib.hid (onto B1.out B1.out.size b2)
 have I2 := Lib.hid (I1.out.below b2)
 obtain ⟨w2, hw2⟩ : ∃ w2, w2 = w1.drewN 1 := ⟨_, rfl⟩
 rw [← hw2] at B2 I2 z2 ⊢
 have H3 := Lib.hid (rdsrc_any X b w2 I2.out)
 have HZ2 := Lib.hid z2
 clear hw2 b2 B1 I1 z2
 simp only [wpFl, pk, List.getElem?_cons_zero, List.getElem?_cons_succ]
 refine wpQuiet_nil ?_
 go_wp2_with fail
 refine H3.out.mono ?_
 rintro e w3 (⟨s, v, l1, hg, hl, rfl, ⟨g, rfl, hgr⟩, hr⟩ | ⟨hn, z, l1, hz, rfl, hr⟩)
 ·have I3 := Lib.hid (hr.inv I2.out)
  have D3 := Lib.hid hr
  have G3 := Lib.hid hgr
  have L1 := Lib.hid (And.intro hg hl)
  have H4 := Lib.hid (rdkeys_any X l1 w3 I3.out)
  have hgX := Lib.hid (I3.out.ne hgr (by rw [src_size]; simp))
  clear hg hl hr H3
  go_wp2_with fail
  refine ⟨fun y => row y g = some (srcC #[] s.1.1 s.1.2 (s.2 : Int)), hgr, .inr ⟨trivial, fun _ _ => trivial⟩, ?_⟩
  show wpQuiet _ _ _ _ _ _
  refine zX ?_
  have hne : Nonempty (In (fun y => row y g = some (srcC #[] s.1.1 s.1.2 (s.2 : Int)))) := ⟨⟨w3, hgr⟩⟩
  have hq := fun y : In (fun y => row y g = some (srcC #[] s.1.1 s.1.2 (s.2 : Int))) => y.ok
  repeat (go_big_quiet_step (fail))
  refine wpQuiet_nil ?_
  clear hq hgr
  go_wp2_with fail
  refine H4.out.mono ?_
  rintro e w4 (⟨K, v, l2, hK, hl, rfl, ⟨Bk, ck, rfl, hrk, hck⟩, hr⟩ | ⟨hn, z, l2, hz, rfl, hr⟩)
  ·have I4 := Lib.hid (hr.inv I3.out)
   have D4 := Lib.hid (Rdd.trans I2.out D3.out hr)
   have g4 := hr.row hgX.out G3.out
   have G4 := Lib.hid g4
   have RK := Lib.hid hrk
   have hcs : ck.size = 1105 := ks_size hck
   have HCK := Lib.hid (And.intro hck hK)
   have L2 := Lib.hid hl
   have hkX := Lib.hid (I4.out.ne hrk (by rw [hcs]; omega))
   have H5 := Lib.hid (rdsess_any (paint (paint T X m) (X + 1) 0) m X l2 w4 I4.out (by rw [zH (by omega), zP (Nat.le_refl _)]) HT.out.2 (fun k hk => by
    unfold paint
    have := HT.out.1 k
    rw [HZ.out.1] at this
    split
    ·split
     ·exact Nat.le_of_lt (this (by omega))
     ·exact Nat.le_refl _
    ·omega))
   have hld : ∀ x : World, ldR Tryz.prog 76 1105 x Bk 0 (some ck) = .ok (.agg ck) x := fun x => xE _ _ _ _ _ _ hcs.symm
   clear hl hr hck hK H4 G3 I3
   go_wp2_with fail
   refine ⟨fun y => row y g = some (srcC #[] s.1.1 s.1.2 (s.2 : Int)) ∧ row y Bk = some ck, ⟨g4, hrk⟩, .inr ⟨g4, fun _ h => h.1⟩, ?_⟩
   show wpQuiet _ _ _ _ _ _
   refine zX ?_
   have hne : Nonempty (In (fun y => row y g = some (srcC #[] s.1.1 s.1.2 (s.2 : Int)) ∧ row y Bk = some ck)) := ⟨⟨w4, g4, hrk⟩⟩
   have hq := fun y : In (fun y => row y g = some (srcC #[] s.1.1 s.1.2 (s.2 : Int)) ∧ row y Bk = some ck) => y.ok.2
   repeat (go_big_quiet_step (fail))
   refine wpQuiet_nil ?_
   clear hq hrk g4 hld
   go_wp2_with fail
   refine H5.out.mono ?_
   rintro e w5 ⟨T5, l3, hM, ⟨p, v, hp, hl, rfl, Bt, mv, rfl, hpt⟩ | ⟨hn, z, hz, rfl⟩⟩
   ·have I5 := Lib.hid (hM.rd.inv I4.out)
    have D5 := Lib.hid (Rdd.trans I2.out D4.out hM.rd)
    have g5 := hM.rd.row hgX.out G4.out
    have k5 := hM.rd.row hkX.out RK.out
    obtain ⟨G, hG⟩ : ∃ G, G = (p.1 : Int) - 1 := ⟨_, rfl⟩
    rw [← hG] at hpt
    have HGG := Lib.hid hG
    have rT := hpt.row
    rw [mtC_nil] at rT
    have MP := Lib.hid hpt.mp
    have L3 := Lib.hid (And.intro hp hl)
    have TG := Lib.hid hM.tag
    clear hl hM hp H5 G4 RK I4 hpt hG
    go_wp2_with fail
    refine ⟨fun y => (row y g = some (srcC #[] s.1.1 s.1.2 (s.2 : Int)) ∧ row y Bk = some ck) ∧ row y Bt = some #[.map mv, .int .i64 G], ⟨⟨g5, k5⟩, rT⟩, .inr ⟨⟨g5, k5⟩, fun _ h => h.1⟩, ?_⟩
    show wpQuiet _ _ _ _ _ _
    refine zX ?_
    have hne : Nonempty (In (fun y => (row y g = some (srcC #[] s.1.1 s.1.2 (s.2 : Int)) ∧ row y Bk = some ck) ∧ row y Bt = some #[.map mv, .int .i64 G])) := ⟨⟨w5, ⟨g5, k5⟩, rT⟩⟩
    have hq := fun y : In (fun y => (row y g = some (srcC #[] s.1.1 s.1.2 (s.2 : Int)) ∧ row y Bk = some ck) ∧ row y Bt = some #[.map mv, .int .i64 G]) => y.ok.2
    have bd3 := fun w => st_b3 s.1 (s.2 : Int) ck mv G hcs w
    repeat (go_big_quiet_step (fail))
    refine wpQuiet_nil ?_
    clear hq bd3 g5 k5 rT
    have b6 := (Below.refl w5.heap.size w5).alloc (Nat.le_refl _) (.cells (stC s.1 (s.2 : Int) ck mv G) 85)
    have I6 := I5.out.below b6
    have H6 := Lib.hid (rdend_any X l3 _ I6)
    have B6 := Lib.hid (OutD.low B2.out HZ.out.1 HZ2.out (Rdd.calm I2.out D5.out b6))
    have HS6 := Lib.hid (fun (x : Sx) (hx : x = ⟨s.1, (s.2 : Int), K, p.2, G⟩) (ok : SxOk x) => StAt.made (T := T5) (w := w5) (t := m + 2) (x := x) (ks := ck) (mv := mv) (by omega) (by rw [hx]; exact HCK.out.1) (by rw [hx]; exact MP.out) ok 85)
    have HT5 := Lib.hid (show ∀ k, k < w.heap.size → paint T5 w5.heap.size (m + 2) k = T k from fun k hk => by
     have h1 := HZ.out.1
     have h2 := D5.out.size
     have h3 := HZ2.out
     have h4 := D4.out.size
     rw [zH (by omega), TG.out k (by omega), zH (by omega), zH (by omega)])
    clear b6 I6
    go_wp2_with fail
    refine ⟨fun _ => True, trivial, ?_⟩
    show wpQuiet _ _ _ _ _ _
    refine zX ?_
    have hne : Nonempty (In (fun _ => True)) := ⟨⟨w5, trivial⟩⟩
    repeat (go_big_quiet_step (fail))
    refine wpQuiet_nil ?_
    go_wp2_with fail
    refine H6.out.mono ?_
    rintro e w7 ⟨rfl, ⟨h0, rfl⟩ | ⟨h0, rfl⟩⟩
    ·obtain ⟨hv, hx⟩ := isS L1.out.1 L1.out.2 HCK.out.2 L2.out L3.out.1 (by rw [L3.out.2, h0, List.append_nil])
     rw [← HGG.out] at hv hx
     have K := Lib.hid (And.intro hv (And.intro hx (HS6.out _ rfl hv.ok)))
     clear hv hx h0 H6 HS6
     go_wp2_with fail
     go_ret
     exact ⟨_, HT5.out, B6.out, .inl ⟨_, _, K.out.1, K.out.2.1, rfl, K.out.2.2⟩⟩
    ·have K := Lib.hid (noS_4 L1.out.1 L1.out.2 HCK.out.2 L2.out L3.out.1 L3.out.2 h0)
     clear h0 H6 HS6
     go_wp2_with fail
     exact ⟨rfl, _, HT5.out, B6.out, .inr ⟨K.out, 80, by decide, rfl⟩⟩
   ·have K := Lib.hid (And.intro (noS_3 L1.out.1 L1.out.2 HCK.out.2 L2.out hn) (And.intro hz (Rdd.trans I2.out D4.out hM.rd)))
    clear hn hz hM H5
    go_wp2_with fail
    exact ⟨rfl, T, fun _ _ => rfl, OutD.low B2.out HZ.out.1 HZ2.out K.out.2.2, .inr ⟨K.out.1, z, K.out.2.1, rfl⟩⟩
  ·have K := Lib.hid (And.intro (noS_2 L1.out.1 L1.out.2 hn) (And.intro hz (Rdd.trans I2.out D3.out hr)))
   clear hn hz hr H4
   go_wp2_with fail
   exact ⟨rfl, T, fun _ _ => rfl, OutD.low B2.out HZ.out.1 HZ2.out K.out.2.2, .inr ⟨K.out.1, z, K.out.2.1, rfl⟩⟩
 ·have K := Lib.hid (And.intro (noS_1 hn) (And.intro hz hr))
  clear hn hz hr H3
  go_wp2_with fail
  exact ⟨rfl, T, fun _ _ => rfl, OutD.low B2.out HZ.out.1 HZ2.out K.out.2.2, .inr ⟨K.out.1, z, K.out.2.1, rfl⟩⟩
def OutE (b : By) (m : Nat) (T : Mk) (w : World) : Ending → World → Prop := fun e w' => ∃ T', (∀ k, k < w.heap.size → T' k = T k) ∧ Below w.heap.size w w' ∧
 ((∃ x B, SxV x ∧ eSx x = b ∧ e = .returned (.tuple #[.pointer (some ⟨B, 0, none⟩), .int .i64 0]) ∧ StAt T' w' (m + 2) B x) ∨ (NoS b ∧ ∃ z, z ≠ 0 ∧ e = .returned (.tuple #[.pointer none, .int .i64 z])))
theorem patt_any (T : Mk) (m E : Nat) (b : By) (A : Option Addr) (c : Nat) (w : World) (hT : ∀ k, k < w.heap.size → T k < m) (hm : 0 < m) (hs : Sl w w.heap.size A b.length c (lf b)) (hl : b.length ≤ 1000000000) (hE : row w E = some #[.slice A b.length c]) :
  Calls Tryz.prog 53 #[.func (.func 54) #[] #[.pointer (some ⟨E, 0, none⟩)]] w (OutE b m T w) := by
 obtain ⟨w1, hw1⟩ : ∃ w1, w1 = w.alloc (.cells #[.int .i64 0] 31) := ⟨_, rfl⟩
 have bw : Below w.heap.size w w1 := by rw [hw1]; exact (Below.refl _ _).alloc (Nat.le_refl _) _
 have r1 : row w1 w.heap.size = some #[.int .i64 0] := by rw [hw1]; exact zA _ _ _ _ rfl
 have hz1 : w1.heap.size = w.heap.size + 1 := by rw [hw1]; simp
 have H := Lib.hid (pdec1_any (paint T w.heap.size 0) m E b A c w1 (fun k hk => by
  unfold paint
  split
  ·rename_i h; exact hT k h
  ·exact hm) hm ((hs.below bw).more bw.size) hl (zE bw hE))
 have R1 := Lib.hid r1
 have BW := Lib.hid bw
 have HZ := Lib.hid hz1
 have hen : Entr 54 := entr (fn := Tryz.f54) (by kernel_rfl) (by kernel_rfl) (by kernel_rfl)
 clear bw r1 hT hm hs hl hE hz1
 unfold Entr at hen
 have hmf : ∀ (fn : Fn) (first cap : Array Value) (w : World), (Instr.makeFunc fn first cap).run Tryz.prog w = .ok (.func fn first cap) w := fun _ _ _ _ => rfl
 go_enter_defers Tryz.func53, Tryz.ntmps53
 go_upto_region 1 with fail
 simp only [← hw1]
 clear hw1
 go_wp2_with fail
 refine H.out.mono ?_
 rintro e w2 ⟨T2, ht2, hb2, ⟨x, B, hv, hx, rfl, hst⟩ | ⟨hn, z, hz, rfl⟩⟩
 ·have q1 := zE hb2 R1.out
  have z1 := zN q1 0
  have k1 : w2.cell? ⟨w.heap.size, 0, none⟩ = some (.int .i64 0) := by rw [zG q1]; rfl
  have hs : w2.setCell ⟨w.heap.size, 0, none⟩ (.int .i64 0) = w2 := by rw [zJ q1]; exact yD q1
  have K := Lib.hid (And.intro hv (And.intro hx hst))
  have B2 := Lib.hid (onto BW.out BW.out.size hb2)
  have TT := Lib.hid (show ∀ k, k < w.heap.size → T2 k = T k from fun k hk => by rw [ht2 k (by have := HZ.out; omega), zH hk])
  clear hv hx hst H q1 hb2 ht2
  go_wp2_with fail
  refine leaves_cons (f := 102) (args := #[.pointer (some ⟨w.heap.size, 0, none⟩)]) (by simp) (by simp [go_sem]) ?_
  refine (catchS_idle w.heap.size _).mono ?_
  rintro e u' w'' ⟨rfl, rfl, rfl⟩
  exact ⟨.tuple #[.pointer (some ⟨B, 0, none⟩), .int .i64 0],
   res_pp Tryz.results53 _ _ w.heap.size _ _ rfl rfl (by simp [loadVar, go_sem, k1]),
   T2, TT.out, B2.out, .inl ⟨x, B, K.out.1, K.out.2.1, rfl, K.out.2.2⟩⟩
 ·have q1 := zE hb2 R1.out
  have hc : w2.cell? ⟨w.heap.size, 0, none⟩ = some (.int .i64 0) := by rw [zG q1]; rfl
  have hzf := zN q1 0
  have k1 : (w2.setCell ⟨w.heap.size, 0, none⟩ (.int .i64 z)).cell? ⟨w.heap.size, 0, none⟩ = some (.int .i64 z) := by rw [zJ q1, zG (zC q1 _)]; rfl
  have K := Lib.hid (And.intro hn hz)
  have B2 := Lib.hid (show Below w.heap.size w (w2.setCell ⟨w.heap.size, 0, none⟩ (.int .i64 z)) by rw [zJ q1]; exact zF (onto BW.out BW.out.size hb2) (Nat.le_refl _) _)
  clear hn hz H q1 hb2 ht2
  go_wp2_with fail
  refine leaves_cons (f := 102) (args := #[.pointer (some ⟨w.heap.size, 0, none⟩)]) (by simp) (by simp [go_sem]) ?_
  refine (catchS_panicking w.heap.size z 0 _ hc hzf).mono ?_
  rintro e u' w'' ⟨rfl, rfl, rfl⟩
  exact ⟨.tuple #[.pointer none, .int .i64 z],
   res_pp Tryz.results53 _ _ w.heap.size _ _ rfl rfl (by simp [loadVar, go_sem, k1]),
   T, fun _ _ => rfl, B2.out, .inr ⟨K.out.1, z, K.out.2, rfl⟩⟩
theorem mk_bound (T : Mk) : ∀ n, ∃ m, ∀ k, k < n → T k < m
 | 0 => ⟨0, fun k hk => absurd hk (by omega)⟩
 | n + 1 => by
  obtain ⟨m, hm⟩ := mk_bound T n
  refine ⟨m + T n + 1, fun k hk => ?_⟩
  by_cases h : k < n
  ·have := hm k h; omega
  ·rw [show k = n by omega]; omega
theorem pdec16_any (T : Mk) (t : Nat) (b : By) (A : Option Addr) (c : Nat) (w : World) (ht : 0 < t) (hs : Sl w w.heap.size A b.length c (lf b)) (hl : b.length ≤ 1000000000) :
  Calls Tryz.prog 20 #[.slice A b.length c] w fun e w' => ∃ T', (∀ k, k < w.heap.size → T' k = T k) ∧ Below w.heap.size w w' ∧
   ((∃ x B, SxV x ∧ eSx x = b ∧ e = .returned (.tuple #[.pointer (some ⟨B, 0, none⟩), .int .i64 0]) ∧ StAt T' w' t B x) ∨ (NoS b ∧ e = .returned (.tuple #[.pointer none, .int .i64 80]))) := by
 obtain ⟨m0, hm0⟩ := mk_bound T w.heap.size
 obtain ⟨m, hm⟩ : ∃ m, m = m0 + t + 10 := ⟨_, rfl⟩
 obtain ⟨w1, hw1⟩ : ∃ w1, w1 = w.alloc (.cells #[.slice A b.length c] 22) := ⟨_, rfl⟩
 have b1 : Below w.heap.size w w1 := by rw [hw1]; exact (Below.refl _ _).alloc (Nat.le_refl _) _
 have r1 : row w1 w.heap.size = some #[.slice A b.length c] := by rw [hw1]; exact zA _ _ _ _ rfl
 have H := Lib.hid (patt_any (paint T w.heap.size 0) m w.heap.size b A c w1 (fun k hk => by
  unfold paint
  split
  ·rename_i h; have := hm0 k h; omega
  ·omega) (by omega) ((hs.below b1).more b1.size) hl r1)
 have B1 := Lib.hid b1
 have HM := Lib.hid (show (∀ k, k < w.heap.size → T k < m) ∧ t + 10 ≤ m ∧ 0 < t from ⟨fun k hk => by have := hm0 k hk; omega, by omega, ht⟩)
 have hz1 : w1.heap.size = w.heap.size + 1 := by rw [hw1]; simp
 have HZ := Lib.hid hz1
 clear hm0 hm hs hl b1 r1 ht hz1
 go_enter Tryz.func20, Tryz.ntmps20
 go_upto_region 1 with fail
 rw [← hw1]
 clear hw1
 go_wp2_with fail
 refine H.out.mono ?_
 rintro e w2 ⟨T2, ht2, hb2, ⟨x, B, hv, hx, rfl, hst⟩ | ⟨hn, z, hz, rfl⟩⟩
 ·have B2 := Lib.hid (onto B1.out B1.out.size hb2)
  have K := Lib.hid (And.intro hv (And.intro hx (And.intro ht2 hst)))
  clear hv hx ht2 hst hb2 H
  go_wp2_with fail
  obtain ⟨h1, h2, h3⟩ := HM.out
  refine bodyPost_ret (v := .tuple #[.pointer (some ⟨B, 0, none⟩), .int .i64 0]) (by simp [results, Tryz.results20, go_sem]) rfl ⟨fun k => if T2 k = m + 2 then t else if T2 k = m + 3 then t + 1 else T2 k, fun k hk => ?_, B2.out, .inl ⟨x, B, K.out.1, K.out.2.1, rfl, K.out.2.2.2.re (fun j e => ?_) (fun j e => ?_) fun j e => ?_⟩⟩
  ·have e : T2 k = T k := by rw [K.out.2.2.1 k (by have := HZ.out; omega), zH hk]
   have := h1 k hk
   show (if T2 k = m + 2 then t else if T2 k = m + 3 then t + 1 else T2 k) = T k
   rw [if_neg (by omega), if_neg (by omega), e]
  ·show (if T2 j = m + 2 then t else if T2 j = m + 3 then t + 1 else T2 j) = t
   rw [if_pos e]
  ·show (if T2 j = m + 2 then t else if T2 j = m + 3 then t + 1 else T2 j) = t + 1
   rw [if_neg (by omega), if_pos (by omega)]
  ·show (if T2 j = m + 2 then t else if T2 j = m + 3 then t + 1 else T2 j) = 0
   rw [if_neg (by omega), if_neg (by omega), e]
 ·have B2 := Lib.hid (onto B1.out B1.out.size hb2)
  have d1 : (z != 0) = true := by simpa using hz
  have K := Lib.hid hn
  clear hn hz hb2 ht2 H
  go_wp2_with fail
  exact bodyPost_ret (v := .tuple #[.pointer none, .int .i64 80]) (by simp [results, Tryz.results20, go_sem]) rfl ⟨T, fun _ _ => rfl, B2.out, .inr ⟨K.out, rfl⟩⟩
end Go.Proofs.YteffjpdcghlnlaaGreatDoor.Oct
