/- Contracts of the doers of Rotate and Use. -/
import Derived.Test.YtabchkcieddhpaaKpC
namespace Go.Proofs.Ytabchkcieddhpaa.Oct
open Go.ChangeShapes Go.WideShapes Go.ChangeAt Go.RowKit
set_option linter.unusedVariables false

/-- the worlds in which a row reads so -/
structure RwB (a : Nat) (c : Array Value) where
  val : World
  r1 : row val a = some c
set_option maxRecDepth 20000 in
theorem prt1_any (B o M V : Nat) (r : Rg) (c : Array Value) (m : Bf) (x : Int) (w : World) (hr : row w B = some c) (hk : KyC c o r) (hs : o + 138 ≤ c.size) (hM : row w M = some (ba 32 m)) (hV : row w V = some #[.int .i64 x]) (hVB : V ≠ B) :
    Calls Try.prog 26 #[.pointer (some ⟨B, o, none⟩), .pointer (some ⟨M, 0, none⟩), .pointer (some ⟨V, 0, none⟩)] w fun e w' =>
      (4 ≤ r.l.length ∧ e = .returned (.int .i64 134) ∧ w' = w) ∨ (r.l.length < 4 ∧ e = .returned (.int .i64 0) ∧ ∃ w1, Put B (addC c o r m) w w1 ∧ w' = w1.setCell ⟨V, 0, none⟩ (.int .i64 ((r.l.length : Int) + 1))) := by
  have hf := hk.few
  have hcnt : w.cell? ⟨B, o + 137, none⟩ = some (.int .i64 (r.l.length : Int)) := by rw [cell_row hr]; exact hk.cnt
  by_cases h4 : 4 ≤ r.l.length
  · have hd : decide ((r.l.length : Int) = 4) = true := by simp; omega
    have hd2 : ((r.l.length : Int) == 4) = true := by simp; omega
    go_enter Try.func26, Try.ntmps26
    go_wp2_with fail
    go_ret
    exact .inl ⟨h4, rfl, rfl⟩
  · have hd : decide ((r.l.length : Int) = 4) = false := by simp; omega
    have hd2 : ((r.l.length : Int) == 4) = false := by simp; omega
    have HA := Lib.hid (padd_any B o c r m w hr hk (by omega) hs)
    go_enter Try.func26, Try.ntmps26
    go_wp2_with fail
    refine HA.out.mono ?_
    rintro e w1 ⟨rfl, hp⟩
    have rV := hp.other hVB hV
    have kV : w1.cell? ⟨V, 0, none⟩ = some (.int .i64 x) := by rw [cell_row rV]; rfl
    have fV : w1.frozen? ⟨V, 0, none⟩ = false := froz_row rV _
    go_wp2_with fail
    go_ret
    exact .inr ⟨by omega, rfl, w1, hp, rfl⟩
/-- a use's error, of a key that is there -/
def u1E (off : Bool) (y : Ve) : Int := if rfE off y.g = 0 then (if 16 ≤ y.u then 133 else 0) else rfE off y.g
theorem u1E_no {off : Bool} {y : Ve} (h : rfE off y.g ≠ 0) : u1E off y = rfE off y.g := by unfold u1E; rw [if_neg h]
theorem u1E_16 {off : Bool} {y : Ve} (h : 0 = rfE off y.g) (h2 : 16 ≤ y.u) : u1E off y = 133 := by unfold u1E; rw [if_pos h.symm, if_pos h2]
theorem u1E_ok {off : Bool} {y : Ve} (h : 0 = rfE off y.g) (h2 : ¬ 16 ≤ y.u) : u1E off y = 0 := by unfold u1E; rw [if_pos h.symm, if_neg h2]
/-- what a use leaves -/
structure U1 (B V N M q : Nat) (v : Nat) (y : Ve) (w w' : World) : Prop where
  at_ : ∃ w1, Below w.heap.size w w1 ∧ w' = (((w1.setCell ⟨V, 0, none⟩ (.int .i64 ((v : Int) + 1))).setCell ⟨N, 0, none⟩ (.int .i64 y.u)).setRow M (ba 32 y.m)).setCell ⟨B, q + 32, none⟩ (.int .i64 (y.u + 1))
def u1P (B V N M q v : Nat) (off : Bool) (y : Ve) (w : World) (e : Ending) (w' : World) : Prop := e = .returned (.int .i64 (u1E off y)) ∧ (u1E off y ≠ 0 → Below w.heap.size w w') ∧ (u1E off y = 0 → U1 B V N M q v y w w')
set_option maxRecDepth 20000 in
set_option maxHeartbeats 4000000 in
theorem pus1_any (B o V N M v : Nat) (r : Rg) (c : Array Value) (a b : Int) (f : Bf) (w : World) (hr : row w B = some c) (hk : KyC c o r) (hs : o + 138 ≤ c.size) (hv : r.l.length = v + 1)
    (hV : row w V = some #[.int .i64 a]) (hN : row w N = some #[.int .i64 b]) (hM : row w M = some (ba 32 f)) (hd : V ≠ B ∧ N ≠ B ∧ M ≠ B ∧ V ≠ N ∧ V ≠ M ∧ N ≠ M) (hu : 0 ≤ (r.l[v]'(by omega)).u ∧ (r.l[v]'(by omega)).u ≤ 16) :
    Calls Try.prog 27 #[.pointer (some ⟨B, o, none⟩), .pointer (some ⟨V, 0, none⟩), .pointer (some ⟨N, 0, none⟩), .pointer (some ⟨M, 0, none⟩)] w (u1P B V N M (o + 1 + v * 34) v r.off (r.l[v]'(by omega)) w) := by
  have hf := hk.few
  have hvl : v < r.l.length := by omega
  obtain ⟨y, hy⟩ : ∃ y, y = r.l[v]'hvl := ⟨_, rfl⟩
  have kc : c[o + 137]? = some (.int .i64 ((v : Int) + 1)) := by rw [hk.cnt, hv]; rfl
  have ko := hk.off
  have kg := hk.ldG hvl
  have ku := hk.ldU hvl
  have hld : ∀ x : World, ldR Try.prog 32 32 x B (o + 1 + v * 34) (some c) = .ok (.agg (ba 32 y.m)) x := fun x => by rw [hy]; exact hk.ldM hvl hs
  rw [← hy] at kg ku hu ⊢
  obtain ⟨off, hoff⟩ : ∃ z, z = r.off := ⟨_, rfl⟩
  rw [← hoff] at ko ⊢
  have e1 : (v : Int) + 1 - 1 = (v : Int) := by omega
  have hv4 : v < 4 := by omega
  clear hk hy hoff hvl hf hv
  have c1 : ∀ x : After w, x.val.cell? ⟨B, o + 137, none⟩ = some (.int .i64 ((v : Int) + 1)) := fun x => by rw [After.cell hr]; exact kc
  have HC := Lib.hid c1
  have KO := Lib.hid ko
  have KC := Lib.hid kc
  have KG := Lib.hid kg
  have KU := Lib.hid ku
  have HD := Lib.hid hd
  have HR := Lib.hid hr
  have HV := Lib.hid hV
  have HN := Lib.hid hN
  have HM := Lib.hid hM
  clear ko kg ku hd kc hr hV hN hM
  go_enter Try.func27, Try.ntmps27
  go_wp2_with fail
  refine seen_region (by kernel_rfl) (by kernel_rfl) ?_
  repeat (go_big_quiet_step (fail))
  refine wpQuiet_nil ?_
  rintro _ ⟨x, rfl⟩
  obtain ⟨wx, hwx⟩ : ∃ wx, wx = x.val := ⟨_, rfl⟩
  have BX := Lib.hid x.below
  rw [← hwx] at BX ⊢
  have hr := carry BX.out HR.out
  have hV := carry BX.out HV.out
  have hN := carry BX.out HN.out
  have hM := carry BX.out HM.out
  clear hwx c1
  go_wp2_with fail
  refine (prefuse_any B o (o + 1 + v * 34) off y.g wx (by rw [cell_row hr]; exact KO.out) (by rw [cell_row hr]; exact KG.out)).mono ?_
  rintro e w1 ⟨rfl, rfl⟩
  obtain ⟨E, hE⟩ : ∃ E, E = rfE off y.g := ⟨_, rfl⟩
  rw [← hE]
  have HE := Lib.hid hE
  clear hE
  by_cases h0 : E = 0
  · subst h0
    have kU : wx.cell? ⟨B, o + 1 + v * 34 + 32, none⟩ = some (.int .i64 y.u) := by rw [cell_row hr]; exact KU.out
    by_cases h16 : 16 ≤ y.u
    · have d1 : (y.u == 16) = true := by simp; omega
      have d2 : decide (y.u = 16) = true := by simp; omega
      go_wp2_with fail
      go_ret
      exact ⟨by rw [u1E_16 HE.out h16]; rfl, fun _ => BX.out, fun e => by rw [u1E_16 HE.out h16] at e; cases e⟩
    · have d1 : (y.u == 16) = false := by simp; omega
      have d2 : decide (y.u = 16) = false := by simp; omega
      go_wp2_with fail
      refine flow_region [([0, 1, 2, 3, 4, 5, 6, 7, 8, 9, 10, 11], 12, false), ([], 13, false), ([], 14, false)] [] (fun w' => ∃ x : RwB B c, w' = x.val) (by kernel_rfl) (by kernel_rfl) (fun _ _ _ _ _ h => h) ⟨⟨wx.drewN 1, by rw [row_drewN]; exact hr⟩, rfl⟩ ?_
      have b1 : Below wx.heap.size wx (wx.drewN 1) := below_drewN (Below.refl _ _) 1
      obtain ⟨w2, hw2⟩ : ∃ w2, w2 = wx.drewN 1 := ⟨_, rfl⟩
      rw [← hw2] at b1 ⊢
      have hr2 := carry b1 hr
      have hV2 := carry b1 hV
      have hN2 := carry b1 hN
      have hM2 := carry b1 hM
      have B2 := Lib.hid (onto BX.out BX.out.size b1)
      clear hw2 b1 hr hV hN hM kU
      have hne : Nonempty (RwB B c) := ⟨⟨w2, hr2⟩⟩
      have c1 : ∀ z : RwB B c, z.val.cell? ⟨B, o + 137, none⟩ = some (.int .i64 ((v : Int) + 1)) := fun z => by rw [cell_row z.r1]; exact KC.out
      have c2 : ∀ z : RwB B c, z.val.cell? ⟨B, o + 1 + v * 34 + 32, none⟩ = some (.int .i64 y.u) := fun z => by rw [cell_row z.r1]; exact KU.out
      have q1 : ∀ z : RwB B c, row z.val B = some c := fun z => z.r1
      simp only [wpFl, pk, List.getElem?_cons_zero, List.getElem?_cons_succ]
      repeat (go_big_quiet_step (fail))
      refine wpQuiet_nil ?_
      clear c1 c2 q1
      obtain ⟨n1, n2, n3, n4, n5, n6⟩ := HD.out
      have kV : w2.cell? ⟨V, 0, none⟩ = some (.int .i64 a) := by rw [cell_row hV2]; rfl
      have fV : w2.frozen? ⟨V, 0, none⟩ = false := froz_row hV2 _
      go_wp2_with fail
      obtain ⟨w3, hw3⟩ : ∃ w3, w3 = w2.setCell ⟨V, 0, none⟩ (.int .i64 ((v : Int) + 1)) := ⟨_, rfl⟩
      rw [← hw3]
      have hr3 : row w3 B = some c := by rw [hw3, row_setCell_other _ _ _ _ (Ne.symm n1)]; exact hr2
      have hN3 : row w3 N = some #[.int .i64 b] := by rw [hw3, row_setCell_other _ _ _ _ (Ne.symm n4)]; exact hN2
      have hM3 : row w3 M = some (ba 32 f) := by rw [hw3, row_setCell_other _ _ _ _ (Ne.symm n5)]; exact hM2
      have HW3 := Lib.hid hw3
      clear hw3 hr2 hN2 hM2 kV fV hV2
      refine ⟨_, ⟨⟨w3, hr3⟩, rfl⟩, .inr ⟨⟨⟨w3, hr3⟩, rfl⟩, fun _ h => h⟩, ?_⟩
      show wpQuiet _ _ _ _ _ _
      refine wpQuiet_nil ?_
      have kN : w3.cell? ⟨N, 0, none⟩ = some (.int .i64 b) := by rw [cell_row hN3]; rfl
      have fN : w3.frozen? ⟨N, 0, none⟩ = false := froz_row hN3 _
      go_wp2_with fail
      obtain ⟨w4, hw4⟩ : ∃ w4, w4 = w3.setCell ⟨N, 0, none⟩ (.int .i64 y.u) := ⟨_, rfl⟩
      rw [← hw4]
      have hr4 : row w4 B = some c := by rw [hw4, row_setCell_other _ _ _ _ (Ne.symm n2)]; exact hr3
      have hM4 : row w4 M = some (ba 32 f) := by rw [hw4, row_setCell_other _ _ _ _ (Ne.symm n6)]; exact hM3
      have HW4 := Lib.hid hw4
      clear hw4 hr3 hM3 kN fN hN3
      refine ⟨_, ⟨⟨w4, hr4⟩, rfl⟩, .inr ⟨⟨⟨w4, hr4⟩, rfl⟩, fun _ h => h⟩, ?_⟩
      show wpQuiet _ _ _ _ _ _
      refine wpQuiet_nil ?_
      go_wp2_with fail
      obtain ⟨w5, hw5⟩ : ∃ w5, w5 = w4.setRow M (ba 32 y.m) := ⟨_, rfl⟩
      rw [← hw5]
      have hr5 : row w5 B = some c := by rw [hw5, row_setRow_other _ _ _ _ (Ne.symm n3)]; exact hr4
      have HW5 := Lib.hid hw5
      clear hw5 hr4 hM4
      refine ⟨_, ⟨⟨w5, hr5⟩, rfl⟩, .inr ⟨⟨⟨w5, hr5⟩, rfl⟩, fun _ h => h⟩, ?_⟩
      show wpQuiet _ _ _ _ _ _
      refine wpQuiet_nil ?_
      have kU5 : w5.cell? ⟨B, o + 1 + v * 34 + 32, none⟩ = some (.int .i64 y.u) := by rw [cell_row hr5]; exact KU.out
      have fU5 : w5.frozen? ⟨B, o + 1 + v * 34 + 32, none⟩ = false := froz_row hr5 _
      go_wp2_with fail
      go_ret
      refine ⟨by rw [u1E_ok HE.out (by omega)]; rfl, fun e => absurd (u1E_ok HE.out (by omega)) e, fun _ => ⟨_, B2.out, ?_⟩⟩
      rw [HW5.out, HW4.out, HW3.out]
  · have d1 : (E != 0) = true := by simpa using h0
    have d2 : (E == 0) = false := by simpa using h0
    go_wp2_with fail
    go_ret
    have e9 : u1E off y = E := by rw [u1E_no (by rw [← HE.out]; exact h0), HE.out]
    exact ⟨by rw [e9]; rfl, fun _ => BX.out, fun e => absurd (e9.symm.trans e) h0⟩
end Go.Proofs.Ytabchkcieddhpaa.Oct
