import Derived.Test.YteffjpdcghlnlaaGreatDoorZcStX
import Derived.Test.YteffjpdcghlnlaaGreatDoorZcEvP
import Derived.Test.YteffjpdcghlnlaaGreatDoorZcStB2
set_option linter.unusedVariables false
set_option linter.unusedSimpArgs false
set_option maxHeartbeats 8000000
set_option maxRecDepth 20000
namespace Go.Proofs.YteffjpdcghlnlaaGreatDoor.Oct
theorem ap_one {x : Sx} {c : Cm} {s : Se} (hl : x.l = [s]) (hs : s.id = 1) (hcs : c.s = 1) (hc : chkE c.k c.s c.q c.i c.n c.T c.U = 0) (h1 : c.k ≠ 1) (h2 : c.k ≠ 2) (hq : s.q < c.q) (hq1 : 1 ≤ c.q) :
  apR x c = exR x c ∧ (apX x c).K = exK x c ∧ (apX x c).l = [exS x c] ∧ (apX x c).g = x.g ∧ (apX x c).d = exD x c ∧ (apX x c).n = exC x c := by
 have hG : ssG x.l c.s = some s := by rw [hl, hcs, ← hs]; exact one_G s
 obtain ⟨a, b⟩ := ap_do hc h1 h2 hG hq hq1
 rw [a, b]
 exact ⟨rfl, rfl, by show ssD x.l (exS x c) = _; rw [hl]; exact one_D _ _ (by rw [hs, ← hcs]; rfl), rfl, rfl, rfl⟩
def cmE (s q i : Int) (T : Nat) (f : Bf) : Cm := ⟨7, s, q, i, 0, T, f, 0, fun _ => 0#8⟩
def cmD (s q : Int) (T : Nat) (f : Bf) : Cm := ⟨8, s, q, 0, 0, T, f, 0, fun _ => 0#8⟩
def cmY (s q i n : Int) : Cm := ⟨6, s, q, i, n, 0, fun _ => 0#8, 0, fun _ => 0#8⟩
theorem chk_E {q : Int} (h1 : 1 ≤ q) (h2 : q ≤ 1000) : chkE 7 1 q 1 0 4 0 = 0 := by
 unfold chkE
 rw [if_pos (by simp [chkB, kiB, fitB, inB, sh, shN]; omega)]
theorem chk_D {q : Int} {T : Nat} (h1 : 1 ≤ q) (h2 : q ≤ 1000) (h3 : T ≤ 110) : chkE 8 1 q 0 0 T 0 = 0 := by
 unfold chkE
 rw [if_pos (by simp [chkB, kiB, fitB, inB, sh, shN]; omega)]
theorem chk_Y {q : Int} (h1 : 1 ≤ q) (h2 : q ≤ 1000) : chkE 6 1 q 1 1 0 0 = 0 := by
 unfold chkE
 rw [if_pos (by simp [chkB, kiB, fitB, inB, sh, shN]; omega)]
def k2 (v : Ve) (r : Rg) : Ks := [⟨false, [v]⟩, r]
theorem us_k2 (m : Bf) (u : Int) (r : Rg) (hu : u < 16) : usE (k2 ⟨m, u, false⟩ r) 1 = 0 ∧ usV (k2 ⟨m, u, false⟩ r) 1 = 1 ∧ usC (k2 ⟨m, u, false⟩ r) 1 = u ∧ usM (k2 ⟨m, u, false⟩ r) 1 = m ∧ usK (k2 ⟨m, u, false⟩ r) 1 = k2 ⟨m, u + 1, false⟩ r := by
 have e : usE (k2 ⟨m, u, false⟩ r) 1 = 0 := by
  have h1 : hasK (k2 ⟨m, u, false⟩ r) 1 = true := by unfold hasK k2; simp
  have h2 : rgAt (k2 ⟨m, u, false⟩ r) 1 = ⟨false, [⟨m, u, false⟩]⟩ := rfl
  have h3 : lastV ⟨false, [⟨m, u, false⟩]⟩ = ⟨m, u, false⟩ := rfl
  unfold usE
  rw [if_pos h1, h2, h3, if_neg Bool.false_ne_true, if_neg Bool.false_ne_true, if_neg (by show ¬ (16 ≤ u); omega)]
 refine ⟨e, ?_, ?_, ?_, ?_⟩
 ·unfold usV; rw [if_pos e]; rfl
 ·unfold usC; rw [if_pos e]; rfl
 ·unfold usM; rw [if_pos e]; rfl
 ·unfold usK; rw [if_pos e]; rfl
theorem hasV_k2 (v : Ve) (r : Rg) : hasV (k2 v r) 1 1 = true := by unfold hasV hasK k2; simp; first | exact Int.le_refl 1 | exact Nat.le_refl 1
theorem mt_k2 (m : Bf) (u : Int) (r : Rg) : mtE (k2 ⟨m, u, false⟩ r) 1 1 = 0 ∧ mtM (k2 ⟨m, u, false⟩ r) 1 1 = m := by
 have e : mtE (k2 ⟨m, u, false⟩ r) 1 1 = 0 := by
  unfold mtE
  rw [if_pos (hasV_k2 _ _)]
  rfl
 exact ⟨e, by unfold mtM; rw [if_pos e]; rfl⟩
theorem mt_k2g (m : Bf) (u : Int) (r : Rg) : mtE (k2 ⟨m, u, true⟩ r) 1 1 = 132 := by
 unfold mtE
 rw [if_pos (hasV_k2 _ _)]
 rfl
theorem ds_k2 (m : Bf) (u : Int) (r : Rg) : dsE (k2 ⟨m, u, false⟩ r) 1 1 = 0 ∧ dsK (k2 ⟨m, u, false⟩ r) 1 1 = k2 ⟨fun _ => 0#8, u, true⟩ r := by
 have e : dsE (k2 ⟨m, u, false⟩ r) 1 1 = 0 := by
  unfold dsE
  rw [if_pos (hasV_k2 _ _)]
  rfl
 exact ⟨e, by unfold dsK; rw [if_pos e]; rfl⟩
theorem run_shown (f : Bf) (n : Nat) (t : Bf) :
  ∃ (x1 x2 x4 x5 x6 x7 x8 : Sx) (F : Bf) (TL : Nat), apX (st0 f n) cmO = x1 ∧ (apR (st0 f n) cmO).n = 1 ∧ apX x1 (cmC 1 1) = x2 ∧ (apR x1 (cmC 1 1)).n = 1 ∧ (apR x1 (cmC 1 1)).m = 1 ∧ apX x2 (cmC 1 1) = x2 ∧ (apR x2 (cmC 1 1)).n = 1 ∧
   apX x2 (cmC 1 2) = x4 ∧ (apR x2 (cmC 1 2)).n = 2 ∧ apX x4 (cmE 1 3 1 4 t) = x5 ∧ (apR x4 (cmE 1 3 1 4 t)).c = 0 ∧ (apR x4 (cmE 1 3 1 4 t)).T = TL ∧ (apR x4 (cmE 1 3 1 4 t)).f = F ∧
   apX x5 (cmD 1 4 TL F) = x6 ∧ (apR x5 (cmD 1 4 TL F)).T = 4 ∧ (∀ i, i < 4 → (apR x5 (cmD 1 4 TL F)).f i = t i) ∧ apX x6 (cmY 1 5 1 1) = x7 ∧ (apR x6 (cmY 1 5 1 1)).c = 0 ∧
   apX x7 (cmD 1 6 TL F) = x8 ∧ (apR x7 (cmD 1 6 TL F)).c = 132 ∧ (apR x7 (cmD 1 6 TL F)).T = 0 := by
 obtain ⟨o1, o2, o3, o4⟩ := open_1 (g := 0) (by omega) (by omega)
 have l1 : (apX (st0 f n) cmO).l = [Se.new 1] := by rw [(ap_O _).2]; show opSe [] 0 = _; rw [o1]; rfl
 have k1 : (apX (st0 f n) cmO).K = [] := by rw [(ap_O _).2]; rfl
 have n1 : (apR (st0 f n) cmO).n = 1 := by rw [(ap_O _).1]; show opN [] 0 = _; rw [o3]; rfl
 obtain ⟨x1, h1⟩ : ∃ x1, x1 = apX (st0 f n) cmO := ⟨_, rfl⟩
 rw [← h1] at l1 k1
 obtain ⟨r2, k2', l2, -⟩ := ap_one (x := x1) (c := cmC 1 1) l1 rfl rfl (chk_C (s := 1) (q := 1) (by omega) (by omega) (by omega) (by omega)) (by show (3 : Int) ≠ 1; decide) (by show (3 : Int) ≠ 2; decide) (by show (0 : Int) < 1; decide) (by show (1 : Int) ≤ 1; decide)
 have e2 : exR x1 (cmC 1 1) = ⟨0, 1, 1, 0, fun _ => 0#8⟩ := by
  show rpO (crE x1.K) ⟨0, crN x1.K, 1, 0, fun _ => 0#8⟩ = _
  rw [k1]; rfl
 have kk2 : (apX x1 (cmC 1 1)).K = [⟨false, [⟨drM x1.d, 0, false⟩]⟩] := by
  rw [k2']
  show crK x1.K (drM x1.d) = _
  rw [k1]; rfl
 have l2' : (apX x1 (cmC 1 1)).l = [⟨1, 1, 0, 1, 1, 0, fun _ => 0#8⟩] := by rw [l2]; unfold exS; rw [e2]; rfl
 obtain ⟨a1, a2⟩ := ap_again x1 (cmC 1 1) (by show (3 : Int) ≠ 1; decide) (by show (3 : Int) ≠ 2; decide)
 obtain ⟨m1, hm1⟩ : ∃ m1, m1 = drM x1.d := ⟨_, rfl⟩
 rw [← hm1] at kk2
 have n2 : apR x1 (cmC 1 1) = ⟨0, 1, 1, 0, fun _ => 0#8⟩ := r2.trans e2
 obtain ⟨x2, h2⟩ : ∃ x2, x2 = apX x1 (cmC 1 1) := ⟨_, rfl⟩
 rw [← h2] at kk2 l2' a1 a2
 obtain ⟨r4, k4, l4, -⟩ := ap_one (x := x2) (c := cmC 1 2) l2' rfl rfl (chk_C (s := 1) (q := 2) (by omega) (by omega) (by omega) (by omega)) (by show (3 : Int) ≠ 1; decide) (by show (3 : Int) ≠ 2; decide) (by show (1 : Int) < 2; decide) (by show (1 : Int) ≤ 2; decide)
 have e4 : exR x2 (cmC 1 2) = ⟨0, 2, 1, 0, fun _ => 0#8⟩ := by
  show rpO (crE x2.K) ⟨0, crN x2.K, 1, 0, fun _ => 0#8⟩ = _
  rw [kk2]; rfl
 have kk4 : (apX x2 (cmC 1 2)).K = Oct.k2 ⟨m1, 0, false⟩ ⟨false, [⟨drM x2.d, 0, false⟩]⟩ := by
  rw [k4]
  show crK x2.K (drM x2.d) = _
  rw [kk2]; rfl
 obtain ⟨R, hR⟩ : ∃ R : Rg, R = ⟨false, [⟨drM x2.d, 0, false⟩]⟩ := ⟨_, rfl⟩
 rw [← hR] at kk4
 have n4 : (apR x2 (cmC 1 2)).n = 2 := by rw [r4, e4]
 obtain ⟨x4, h4⟩ : ∃ x4, x4 = apX x2 (cmC 1 2) := ⟨_, rfl⟩
 rw [← h4] at kk4 l4
 obtain ⟨r5, k5, l5, -⟩ := ap_one (x := x4) (c := cmE 1 3 1 4 t) l4 rfl rfl (chk_E (q := 3) (by omega) (by omega)) (by show (7 : Int) ≠ 1; decide) (by show (7 : Int) ≠ 2; decide) (by show (2 : Int) < 3; decide) (by show (1 : Int) ≤ 3; decide)
 obtain ⟨u1, u2, u3, u4, u5⟩ := us_k2 m1 0 R (by omega)
 obtain ⟨c1, c2, c3, c4⟩ := en_ok (K := Oct.k2 ⟨m1, 0, false⟩ R) (id := 1) (L := 4) (S := 0) (by omega) u1
 have e5 : exR x4 (cmE 1 3 1 4 t) = rpO (ecE x4.K 1 4 0) ⟨0, 1, enV x4.K 1 4 0, enL x4.K 1 4 0, enF x4.K 1 t 4 (fun _ => 0#8) 0⟩ := rfl
 have cF : enF x4.K 1 t 4 (fun _ => 0#8) 0 = blF 1 1 (nonC 0) (sealF m1 (nonC 0) (fun _ => 0#8) 0 t 4) := by
  rw [kk4]; unfold enF; rw [u2, u3, u4]; rfl
 obtain ⟨F, hF⟩ : ∃ F, F = enF x4.K 1 t 4 (fun _ => 0#8) 0 := ⟨_, rfl⟩
 rw [← hF] at e5 cF
 rw [kk4, c1, c2, c4, u2] at e5
 obtain ⟨TL, hTL⟩ : ∃ TL, TL = blL (1 : Int).toNat (1 : Int).toNat (4 + 16) := ⟨_, rfl⟩
 rw [← hTL] at e5
 have e5' : exR x4 (cmE 1 3 1 4 t) = ⟨0, 1, 1, TL, F⟩ := e5
 have kk5 : (apX x4 (cmE 1 3 1 4 t)).K = Oct.k2 ⟨m1, 1, false⟩ R := by
  rw [k5]
  show enK x4.K 1 4 0 = _
  rw [kk4, c3, u5]; rfl
 have hT : TL = blL 1 1 (4 + 16) := hTL
 have hTl : TL ≤ 110 := by rw [hT]; decide
 have n5 := r5.trans e5'
 obtain ⟨x5, h5⟩ : ∃ x5, x5 = apX x4 (cmE 1 3 1 4 t) := ⟨_, rfl⟩
 rw [← h5] at kk5 l5
 obtain ⟨r6, k6, l6, -⟩ := ap_one (x := x5) (c := cmD 1 4 TL F) l5 rfl rfl (chk_D (q := 4) (by omega) (by omega) hTl) (by show (8 : Int) ≠ 1; decide) (by show (8 : Int) ≠ 2; decide) (by show (3 : Int) < 4; decide) (by show (1 : Int) ≤ 4; decide)
 obtain ⟨p1, p2⟩ := mt_k2 m1 1 R
 obtain ⟨d1, d2, d3, d4⟩ := dc_back (K := Oct.k2 ⟨m1, 1, false⟩ R) (i := 1) (v := 1) (L := 4) (S := 0) (n := nonC 0) (t := t) (s := fun _ => 0#8) (m := m1) (by decide) (by decide) (by decide) (by decide) (by decide) (by decide) p1 p2
 rw [← cF, ← hT] at d1 d3 d4
 have e6 : exR x5 (cmD 1 4 TL F) = rpO (dcE x5.K TL F (fun _ => 0#8) 0) ⟨0, 0, 0, dcL x5.K TL F (fun _ => 0#8) 0, dcF x5.K TL F⟩ := rfl
 rw [kk5, d1, d3] at e6
 have e6' : exR x5 (cmD 1 4 TL F) = ⟨0, 0, 0, 4, dcF (Oct.k2 ⟨m1, 1, false⟩ R) TL F⟩ := e6
 have kk6 : (apX x5 (cmD 1 4 TL F)).K = Oct.k2 ⟨m1, 1, false⟩ R := by
  rw [k6]
  show x5.K = _
  exact kk5
 have n6 := r6.trans e6'
 obtain ⟨x6, h6⟩ : ∃ x6, x6 = apX x5 (cmD 1 4 TL F) := ⟨_, rfl⟩
 rw [← h6] at kk6 l6
 obtain ⟨r7, k7, l7, -⟩ := ap_one (x := x6) (c := cmY 1 5 1 1) l6 rfl rfl (chk_Y (q := 5) (by omega) (by omega)) (by show (6 : Int) ≠ 1; decide) (by show (6 : Int) ≠ 2; decide) (by show (4 : Int) < 5; decide) (by show (1 : Int) ≤ 5; decide)
 obtain ⟨q1, q2⟩ := ds_k2 m1 1 R
 have e7 : exR x6 (cmY 1 5 1 1) = rpE (dsE x6.K 1 1) := rfl
 rw [kk6, q1] at e7
 have kk7 : (apX x6 (cmY 1 5 1 1)).K = Oct.k2 ⟨fun _ => 0#8, 1, true⟩ R := by
  rw [k7]
  show dsK x6.K 1 1 = _
  rw [kk6, q2]
 have n7 := r7.trans e7
 obtain ⟨x7, h7⟩ : ∃ x7, x7 = apX x6 (cmY 1 5 1 1) := ⟨_, rfl⟩
 rw [← h7] at kk7 l7
 obtain ⟨r8, -⟩ := ap_one (x := x7) (c := cmD 1 6 TL F) l7 rfl rfl (chk_D (q := 6) (by omega) (by omega) hTl) (by show (8 : Int) ≠ 1; decide) (by show (8 : Int) ≠ 2; decide) (by show (5 : Int) < 6; decide) (by show (1 : Int) ≤ 6; decide)
 have e8 : exR x7 (cmD 1 6 TL F) = rpO (dcE x7.K TL F (fun _ => 0#8) 0) ⟨0, 0, 0, dcL x7.K TL F (fun _ => 0#8) 0, dcF x7.K TL F⟩ := rfl
 have g8 : dcE x7.K TL F (fun _ => 0#8) 0 = 132 := by
  rw [kk7, cF, hT, dc_gen (by decide) (by decide) (by decide) (by decide) (by decide) (by decide) (by decide)]
  show (if mtE (Oct.k2 ⟨fun _ => 0#8, 1, true⟩ R) 1 1 = 0 then _ else mtE (Oct.k2 ⟨fun _ => 0#8, 1, true⟩ R) 1 1) = 132
  rw [mt_k2g]
  rfl
 rw [g8] at e8
 have n8 := r8.trans e8
 exact ⟨x1, x2, x4, x5, x6, x7, _, F, TL, h1.symm, n1, h2.symm, by rw [n2], by rw [n2], a2, by rw [a1, n2], h4.symm, n4, h5.symm, by rw [n5], by rw [n5], by rw [n5], h6.symm, by rw [n6], by rw [n6]; exact d4, h7.symm, by rw [n7]; rfl, rfl, by rw [n8]; rfl, by rw [n8]; rfl⟩
theorem chk_Sno {s q : Int} {T : Nat} (h : ¬ (1 ≤ T ∧ T ≤ 64)) : chkE 10 s q 0 0 T 0 ≠ 0 := by
 unfold chkE
 rw [if_neg (by simp [chkB, kiB, fitB, inB, sh, shN]; omega)]
 decide
theorem run_mat (f : Bf) (N : Nat) (T : Nat) (g : Bf) :
  ∃ (x1 x2 x3 x4 : Sx) (d : St), apX (st0 f N) cmO = x1 ∧ apX x1 (cmC 1 1) = x2 ∧ apX x2 (cmS 1 2 T g) = x3 ∧ ((apR x2 (cmS 1 2 T g)).c = 0 ↔ 1 ≤ T ∧ T ≤ 64) ∧ (1 ≤ T ∧ T ≤ 64 → d = updS (drD (updS newS f N)) g T) ∧ (¬ (1 ≤ T ∧ T ≤ 64) → d = drD (updS newS f N)) ∧
   apX x3 (cmR 1 3 1) = x4 ∧ x4.K = [⟨false, [⟨drM (updS newS f N), 0, false⟩, ⟨drM d, 0, false⟩]⟩] := by
 obtain ⟨o1, o2, -, -⟩ := open_1 (g := 0) (by omega) (by omega)
 have l1 : (apX (st0 f N) cmO).l = [Se.new 1] := by rw [(ap_O _).2]; show opSe [] 0 = _; rw [o1]; rfl
 have k1 : (apX (st0 f N) cmO).K = [] := by rw [(ap_O _).2]; rfl
 have d1 : (apX (st0 f N) cmO).d = updS newS f N := by rw [(ap_O _).2]; rfl
 obtain ⟨x1, h1⟩ : ∃ x1, x1 = apX (st0 f N) cmO := ⟨_, rfl⟩
 rw [← h1] at l1 k1 d1
 obtain ⟨r2, k2', l2, -, d2, -⟩ := ap_one (x := x1) (c := cmC 1 1) l1 rfl rfl (chk_C (s := 1) (q := 1) (by omega) (by omega) (by omega) (by omega)) (by show (3 : Int) ≠ 1; decide) (by show (3 : Int) ≠ 2; decide) (by show (0 : Int) < 1; decide) (by show (1 : Int) ≤ 1; decide)
 have kk2 : (apX x1 (cmC 1 1)).K = [⟨false, [⟨drM (updS newS f N), 0, false⟩]⟩] := by
  rw [k2']
  show crK x1.K (drM x1.d) = _
  rw [k1, d1]; rfl
 have dd2 : (apX x1 (cmC 1 1)).d = drD (updS newS f N) := by
  rw [d2]
  show drD x1.d = _
  rw [d1]
 obtain ⟨x2, h2⟩ : ∃ x2, x2 = apX x1 (cmC 1 1) := ⟨_, rfl⟩
 rw [← h2] at kk2 dd2 l2
 obtain ⟨m0, hm0⟩ : ∃ m0, m0 = drM (updS newS f N) := ⟨_, rfl⟩
 obtain ⟨e0, he0⟩ : ∃ e0, e0 = drD (updS newS f N) := ⟨_, rfl⟩
 rw [← hm0] at kk2
 rw [← he0] at dd2
 have last : ∀ (x3 : Sx) (s : Se) (d : St), x3.l = [s] → s.id = 1 → s.q < 3 → x3.d = d → x3.K = [⟨false, [⟨m0, 0, false⟩]⟩] → (apX x3 (cmR 1 3 1)).K = [⟨false, [⟨m0, 0, false⟩, ⟨drM d, 0, false⟩]⟩] := by
  intro x3 s d hl hs hq hd hk
  obtain ⟨-, k, -⟩ := ap_one (x := x3) (c := cmR 1 3 1) hl hs rfl (chk_R (s := 1) (q := 3) (i := 1) (by omega) (by omega) (by omega) (by omega) (by omega) (by omega)) (by show (4 : Int) ≠ 1; decide) (by show (4 : Int) ≠ 2; decide) hq (by show (1 : Int) ≤ 3; decide)
  rw [k]
  show rtK x3.K 1 (drM x3.d) = _
  rw [hd, hk]
  rfl
 by_cases hT : 1 ≤ T ∧ T ≤ 64
 ·obtain ⟨r3, k3, l3, -, d3, -⟩ := ap_one (x := x2) (c := cmS 1 2 T g) l2 rfl rfl ((chk_S (s := 1) (q := 2) (by omega) (by omega) (by omega) (by omega)).trans (if_pos hT)) (by show (10 : Int) ≠ 1; decide) (by show (10 : Int) ≠ 2; decide) (by show (1 : Int) < 2; decide) (by show (1 : Int) ≤ 2; decide)
  have kk3 : (apX x2 (cmS 1 2 T g)).K = [⟨false, [⟨m0, 0, false⟩]⟩] := by
   rw [k3]
   show x2.K = _
   exact kk2
  have dd3 : (apX x2 (cmS 1 2 T g)).d = updS e0 g T := by
   rw [d3]
   show updS x2.d g T = _
   rw [dd2]
  refine ⟨x1, x2, _, _, updS e0 g T, h1.symm, h2.symm, rfl, ⟨fun _ => hT, fun _ => by rw [r3]; rfl⟩, fun _ => by rw [he0], fun h => absurd hT h, rfl, ?_⟩
  rw [← hm0]
  exact last _ _ _ l3 rfl (by show (2 : Int) < 3; decide) dd3 kk3
 ·have hc : chkE (cmS 1 2 T g).k (cmS 1 2 T g).s (cmS 1 2 T g).q (cmS 1 2 T g).i (cmS 1 2 T g).n (cmS 1 2 T g).T (cmS 1 2 T g).U ≠ 0 := chk_Sno hT
  have e3 : apX x2 (cmS 1 2 T g) = x2 := by unfold apX; rw [if_pos hc]
  have r3 : apR x2 (cmS 1 2 T g) = rpE 1 := by unfold apR; rw [if_pos hc]
  refine ⟨x1, x2, x2, _, e0, h1.symm, h2.symm, e3, ⟨fun h => ?_, fun h => absurd h hT⟩, fun h => absurd h hT, fun _ => he0, rfl, ?_⟩
  ·rw [r3] at h
   exact absurd h (by show ¬ (1 : Int) = 0; decide)
  ·rw [← hm0]
   exact last _ _ _ l2 rfl (by show (1 : Int) < 3; decide) dd2 kk2
open Go.ChangeShapes Go.WideShapes Go.ChangeAt Go.RowKit Go.Maps
theorem co_bO (w : World) : (Instr.build 36 #[(0, .int .i64 1)]).run Tryz.prog w = .ok (cmV cmO none 0 none 0) w := by kernel_rfl
theorem co_bC (s q : Int) (w : World) : (Instr.build 36 #[(0, .int .i64 3), (1, .int .i64 s), (2, .int .i64 q)]).run Tryz.prog w = .ok (cmV (cmC s q) none 0 none 0) w := by kernel_rfl
theorem co_bR (s q i : Int) (w : World) : (Instr.build 36 #[(0, .int .i64 4), (1, .int .i64 s), (2, .int .i64 q), (3, .int .i64 i)]).run Tryz.prog w = .ok (cmV (cmR s q i) none 0 none 0) w := by kernel_rfl
theorem co_bS (s q : Int) (T : Nat) (f : Bf) (A : Option Addr) (a : Nat) (w : World) : (Instr.build 36 #[(0, .int .i64 10), (1, .int .i64 s), (2, .int .i64 q), (5, .slice A T a)]).run Tryz.prog w = .ok (cmV (cmS s q T f) A a none 0) w := by kernel_rfl
theorem co_bE (s q i : Int) (T : Nat) (f : Bf) (A : Option Addr) (a : Nat) (w : World) : (Instr.build 36 #[(0, .int .i64 7), (1, .int .i64 s), (2, .int .i64 q), (3, .int .i64 i), (5, .slice A T a)]).run Tryz.prog w = .ok (cmV (cmE s q i T f) A a none 0) w := by kernel_rfl
theorem co_bD (s q : Int) (T : Nat) (f : Bf) (A : Option Addr) (a : Nat) (w : World) : (Instr.build 36 #[(0, .int .i64 8), (1, .int .i64 s), (2, .int .i64 q), (5, .slice A T a)]).run Tryz.prog w = .ok (cmV (cmD s q T f) A a none 0) w := by kernel_rfl
theorem co_bY (s q i n : Int) (w : World) : (Instr.build 36 #[(0, .int .i64 6), (1, .int .i64 s), (2, .int .i64 q), (3, .int .i64 i), (4, .int .i64 n)]).run Tryz.prog w = .ok (cmV (cmY s q i n) none 0 none 0) w := by kernel_rfl
theorem CmR.nothing (T : Mk) (w : World) (c : Cm) (h : c.T = 0) (h' : c.U = 0) : CmR T w 0 c none 0 none 0 := ⟨by rw [h]; exact RdS.nil _ _ _ _, by rw [h']; exact RdS.nil _ _ _ _⟩
theorem CmR.data {T : Mk} {w : World} {c : Cm} {A : Option Addr} {a : Nat} (h : RdS T w 0 A c.T a c.f) (h' : c.U = 0) : CmR T w 0 c A a none 0 := ⟨h, by rw [h']; exact RdS.nil _ _ _ _⟩
def sdF : Bf := litF [115#8, 101#8, 101#8, 100#8]
def txt4 : Bf := litF [116#8, 101#8, 120#8, 116#8]
theorem sd_lit : (#[.int .u8 115, .int .u8 101, .int .u8 101, .int .u8 100] : Array Value) = ba 4 sdF := by unfold ba sdF litF; kernel_rfl
theorem tx_lit : (#[.int .u8 116, .int .u8 101, .int .u8 120, .int .u8 116] : Array Value) = ba 4 txt4 := by unfold ba txt4 litF; kernel_rfl
theorem tx_str {f : Bf} (h : ∀ i, i < 4 → f i = txt4 i) : strOf 4 f = ⟨#[116, 101, 120, 116]⟩ := by rw [str_congr h]; unfold strOf; decide +kernel
theorem RdS.lit {T : Mk} {w w' : World} {n c : Nat} {f : Bf} (h : Sl w' w'.heap.size (some ⟨w.heap.size, 0, none⟩) n c f) : RdS (zH T w.heap.size 0) w' 0 (some ⟨w.heap.size, 0, none⟩) n c f := ⟨h, fun _ a ha => by cases ha; exact zN (Nat.le_refl _)⟩
def RpK (b : Nat) (r : Rp) (A : Option Addr) (k : Nat) (T : Mk) (w : World) : Prop := (row w b = some #[.int .i64 r.c, .int .i64 r.n, .int .i64 r.m, .slice A r.T k] ∧ T b = 0) ∧ RdS T w 0 A r.T k r.f
theorem Stb.rp {S : Nat → Prop} {b : Nat} {r : Rp} {A : Option Addr} {k : Nat} (h0 : ¬ S 0) : Stb S (RpK b r A k) := Stb.and (Stb.row (t := 0) h0) (Stb.rd h0)
theorem hS0 : ¬ H2 5 0 := by unfold H2; omega
theorem ls_keep {K : Kp} {W w : World} {t B : Nat} {x : Sx} {r : Rp} {A : Option Addr} {k : Nat} (h : LS (fun T y => StAt T y t B x ∧ K T y ∧ RdS T y 0 A r.T k r.f) W w) (hK : Stb (fun _ => False) K) :
  LS (fun T y => StAt T y t B x ∧ (K T y ∧ RpK w.heap.size r A k T y)) W (w.alloc (.cells #[.int .i64 r.c, .int .i64 r.n, .int .i64 r.m, .slice A r.T k] 33)) := by
 have hb := (Below.refl w.heap.size w).alloc (Nat.le_refl _) (.cells #[.int .i64 r.c, .int .i64 r.n, .int .i64 r.m, .slice A r.T k] 33)
 exact (h.add (K' := fun T y => row y w.heap.size = some #[.int .i64 r.c, .int .i64 r.n, .int .i64 r.m, .slice A r.T k] ∧ T w.heap.size = 0) (Stb.and (Stb.st (fun h => h) (fun h => h) (fun h => h)) (Stb.and hK (Stb.rd (fun h => h)))) hb 0 fun T => ⟨zA _ _ _ _ rfl, zN (Nat.le_refl _)⟩).mono fun T k => ⟨k.1.1, k.1.2.1, k.2, k.1.2.2⟩
theorem shown16_any (w : World) (htab : Tab w) : Calls Tryz.prog 10 #[] w fun e w' => e = .returned (.bool true) ∧ Below w.heap.size w w' := by
 have HT := Lib.hid htab
 obtain ⟨x1, x2, x4, x5, x6, x7, x8, F, TL, h1, n1, h2, n2, m2, h3, n3, h4, n4, h5, c5, T5, F5, h6, T6, F6, h7, c7, h8, c8, T8⟩ := run_shown sdF 4 txt4
 have HM := Lib.hid (And.intro h1 (And.intro n1 (And.intro h2 (And.intro n2 (And.intro m2 (And.intro h3 (And.intro n3 (And.intro h4 n4))))))))
 have HN := Lib.hid (And.intro h5 (And.intro c5 (And.intro T5 (And.intro F5 (And.intro h6 (And.intro T6 (And.intro F6 (And.intro h7 (And.intro c7 (And.intro h8 (And.intro c8 T8)))))))))))
 clear h1 n1 h2 n2 m2 h3 n3 h4 n4 h5 c5 T5 F5 h6 T6 F6 h7 c7 h8 c8 T8 htab
 have bO := co_bO
 go_enter Tryz.func10, Tryz.ntmps10
 go_wp2_with fail
 obtain ⟨wl, hwl⟩ : ∃ wl, wl = w.alloc (.cells #[.int .u8 115, .int .u8 101, .int .u8 101, .int .u8 100] 5 (4, 5)) := ⟨_, rfl⟩
 have b0 : Below w.heap.size w wl := by rw [hwl]; exact (Below.refl _ _).alloc (Nat.le_refl _) _
 have s0 : Sl wl wl.heap.size (some ⟨w.heap.size, 0, none⟩) 4 4 sdF := by rw [hwl]; exact Sl.lit w sd_lit _ _ _ (by simp)
 have P0 := Lib.hid ((LS.init (K := fun _ _ => True) w trivial).add (K' := fun T y => RdS T y 0 (some ⟨w.heap.size, 0, none⟩) 4 4 sdF) Stb.triv b0 0 fun T => RdS.lit s0)
 rw [← hwl]
 clear hwl b0 s0
 refine (ls_new P0.out (Stb.and Stb.triv (Stb.rd (fun h => h))) HT.out (t := 5) (by omega) (fun T k => k.2) (by omega)).mono ?_
 rintro e w0 ⟨B, rfl, h, -⟩
 have Q0 := Lib.hid (show LS (fun T y => StAt T y 5 B (st0 sdF 4) ∧ True) w w0 from h.mono fun T k => ⟨k.2, trivial⟩)
 have X0 := Lib.hid (SxB.new sdF 4)
 clear h P0
 go_wp2_with fail
 refine (yY Q0.out (Stb.triv (S := H2 5)) HT.out (by omega) cmO (fun T k => CmR.nothing T _ _ rfl rfl) (.inl (by omega)) (by have := X0.out.n; omega)).mono ?_
 rintro e w1 ⟨A1, k1, rfl, h, -⟩
 have X1 := Lib.hid (show SxB 2 x1 from by have h := X0.out.ap cmO; rw [HM.out.1] at h; exact h)
 have Q1 := Lib.hid (show LS (fun T y => StAt T y 5 B x1 ∧ (True ∧ RpK w1.heap.size (apR (st0 sdF 4) cmO) A1 k1 T y)) w (w1.alloc (.cells #[.int .i64 (apR (st0 sdF 4) cmO).c, .int .i64 (apR (st0 sdF 4) cmO).n, .int .i64 (apR (st0 sdF 4) cmO).m, .slice A1 (apR (st0 sdF 4) cmO).T k1] 33)) from by
  rw [HM.out.1] at h
  exact ls_keep (h.mono fun T k => ⟨k.1, k.2.1, k.2.2⟩) (Stb.calm (Stb.triv (S := H2 5))))
 clear h Q0 X0
 obtain ⟨v1, hv1⟩ : ∃ v, v = w1.alloc (.cells #[.int .i64 (apR (st0 sdF 4) cmO).c, .int .i64 (apR (st0 sdF 4) cmO).n, .int .i64 (apR (st0 sdF 4) cmO).m, .slice A1 (apR (st0 sdF 4) cmO).T k1] 33) := ⟨_, rfl⟩
 rw [← hv1] at Q1
 go_upto_region 5 with fail
 rw [← hv1]
 clear hv1
 have bd := co_bC
 go_wp2_with fail
 refine (yY Q1.out (Stb.and (Stb.triv (S := H2 5)) (Stb.rp hS0)) HT.out (by omega) (cmC 1 1) (fun T k => CmR.nothing T _ _ rfl rfl) (.inl (by omega)) (by have := X1.out.n; omega)).mono ?_
 rintro e w2 ⟨A2, k2, rfl, h, -⟩
 have X2 := Lib.hid (show SxB 3 x2 from by have h := X1.out.ap (cmC 1 1); rw [HM.out.2.2.1] at h; exact h)
 have Q2 := Lib.hid (show LS (fun T y => StAt T y 5 B x2 ∧ ((True ∧ RpK w1.heap.size (apR (st0 sdF 4) cmO) A1 k1 T y) ∧ RpK w2.heap.size (apR x1 (cmC 1 1)) A2 k2 T y)) w (w2.alloc (.cells #[.int .i64 (apR x1 (cmC 1 1)).c, .int .i64 (apR x1 (cmC 1 1)).n, .int .i64 (apR x1 (cmC 1 1)).m, .slice A2 (apR x1 (cmC 1 1)).T k2] 33)) from by
  rw [HM.out.2.2.1] at h
  exact ls_keep (h.mono fun T k => ⟨k.1, k.2.1, k.2.2⟩) (Stb.calm (Stb.and (Stb.triv (S := H2 5)) (Stb.rp hS0))))
 clear h Q1 X1 bd
 obtain ⟨v2, hv2⟩ : ∃ v, v = w2.alloc (.cells #[.int .i64 (apR x1 (cmC 1 1)).c, .int .i64 (apR x1 (cmC 1 1)).n, .int .i64 (apR x1 (cmC 1 1)).m, .slice A2 (apR x1 (cmC 1 1)).T k2] 33) := ⟨_, rfl⟩
 rw [← hv2] at Q2
 go_upto_region 6 with fail
 rw [← hv2]
 clear hv2
 have bd := co_bC
 go_wp2_with fail
 refine (yY Q2.out (Stb.and (Stb.and (Stb.triv (S := H2 5)) (Stb.rp hS0)) (Stb.rp hS0)) HT.out (by omega) (cmC 1 1) (fun T k => CmR.nothing T _ _ rfl rfl) (.inl (by omega)) (by have := X2.out.n; omega)).mono ?_
 rintro e w3 ⟨A3, k3, rfl, h, -⟩
 have X3 := Lib.hid (show SxB 4 x2 from by have h := X2.out.ap (cmC 1 1); rw [HM.out.2.2.2.2.2.1] at h; exact h)
 have Q3 := Lib.hid (show LS (fun T y => StAt T y 5 B x2 ∧ (((True ∧ RpK w1.heap.size (apR (st0 sdF 4) cmO) A1 k1 T y) ∧ RpK w2.heap.size (apR x1 (cmC 1 1)) A2 k2 T y) ∧ RpK w3.heap.size (apR x2 (cmC 1 1)) A3 k3 T y)) w (w3.alloc (.cells #[.int .i64 (apR x2 (cmC 1 1)).c, .int .i64 (apR x2 (cmC 1 1)).n, .int .i64 (apR x2 (cmC 1 1)).m, .slice A3 (apR x2 (cmC 1 1)).T k3] 33)) from by
  rw [HM.out.2.2.2.2.2.1] at h
  exact ls_keep (h.mono fun T k => ⟨k.1, k.2.1, k.2.2⟩) (Stb.calm (Stb.and (Stb.and (Stb.triv (S := H2 5)) (Stb.rp hS0)) (Stb.rp hS0))))
 clear h Q2 X2 bd
 obtain ⟨v3, hv3⟩ : ∃ v, v = w3.alloc (.cells #[.int .i64 (apR x2 (cmC 1 1)).c, .int .i64 (apR x2 (cmC 1 1)).n, .int .i64 (apR x2 (cmC 1 1)).m, .slice A3 (apR x2 (cmC 1 1)).T k3] 33) := ⟨_, rfl⟩
 rw [← hv3] at Q3
 go_upto_region 7 with fail
 rw [← hv3]
 clear hv3
 have bd := co_bC
 go_wp2_with fail
 refine (yY Q3.out (Stb.and (Stb.and (Stb.and (Stb.triv (S := H2 5)) (Stb.rp hS0)) (Stb.rp hS0)) (Stb.rp hS0)) HT.out (by omega) (cmC 1 2) (fun T k => CmR.nothing T _ _ rfl rfl) (.inl (by omega)) (by have := X3.out.n; omega)).mono ?_
 rintro e w4 ⟨A4, k4, rfl, h, -⟩
 have X4 := Lib.hid (show SxB 5 x4 from by have h := X3.out.ap (cmC 1 2); rw [HM.out.2.2.2.2.2.2.2.1] at h; exact h)
 have Q4 := Lib.hid (show LS (fun T y => StAt T y 5 B x4 ∧ ((((True ∧ RpK w1.heap.size (apR (st0 sdF 4) cmO) A1 k1 T y) ∧ RpK w2.heap.size (apR x1 (cmC 1 1)) A2 k2 T y) ∧ RpK w3.heap.size (apR x2 (cmC 1 1)) A3 k3 T y) ∧ RpK w4.heap.size (apR x2 (cmC 1 2)) A4 k4 T y)) w (w4.alloc (.cells #[.int .i64 (apR x2 (cmC 1 2)).c, .int .i64 (apR x2 (cmC 1 2)).n, .int .i64 (apR x2 (cmC 1 2)).m, .slice A4 (apR x2 (cmC 1 2)).T k4] 33)) from by
  rw [HM.out.2.2.2.2.2.2.2.1] at h
  exact ls_keep (h.mono fun T k => ⟨k.1, k.2.1, k.2.2⟩) (Stb.calm (Stb.and (Stb.and (Stb.and (Stb.triv (S := H2 5)) (Stb.rp hS0)) (Stb.rp hS0)) (Stb.rp hS0))))
 clear h Q3 X3 bd
 obtain ⟨v4, hv4⟩ : ∃ v, v = w4.alloc (.cells #[.int .i64 (apR x2 (cmC 1 2)).c, .int .i64 (apR x2 (cmC 1 2)).n, .int .i64 (apR x2 (cmC 1 2)).m, .slice A4 (apR x2 (cmC 1 2)).T k4] 33) := ⟨_, rfl⟩
 rw [← hv4] at Q4
 go_upto_region 8 with fail
 rw [← hv4]
 clear hv4
 have bd := fun (A : Option Addr) (a : Nat) => co_bE 1 3 1 4 txt4 A a
 go_wp2_with fail
 obtain ⟨wl, hwl⟩ : ∃ wl, wl = v4.alloc (.cells #[.int .u8 116, .int .u8 101, .int .u8 120, .int .u8 116] 5 (4, 5)) := ⟨_, rfl⟩
 have b0 : Below v4.heap.size v4 wl := by rw [hwl]; exact (Below.refl _ _).alloc (Nat.le_refl _) _
 have s0 : Sl wl wl.heap.size (some ⟨v4.heap.size, 0, none⟩) 4 4 txt4 := by rw [hwl]; exact Sl.lit v4 tx_lit _ _ _ (by simp)
 have QL := Lib.hid (show LS (fun T y => StAt T y 5 B x4 ∧ (((((True ∧ RpK w1.heap.size (apR (st0 sdF 4) cmO) A1 k1 T y) ∧ RpK w2.heap.size (apR x1 (cmC 1 1)) A2 k2 T y) ∧ RpK w3.heap.size (apR x2 (cmC 1 1)) A3 k3 T y) ∧ RpK w4.heap.size (apR x2 (cmC 1 2)) A4 k4 T y) ∧ RdS T y 0 (some ⟨v4.heap.size, 0, none⟩) 4 4 txt4)) w wl from (Q4.out.add (K' := fun T y => RdS T y 0 (some ⟨v4.heap.size, 0, none⟩) 4 4 txt4) (Stb.and (Stb.st (fun h => h) (fun h => h) (fun h => h)) (Stb.calm (Stb.and (Stb.and (Stb.and (Stb.and (Stb.triv (S := H2 5)) (Stb.rp hS0)) (Stb.rp hS0)) (Stb.rp hS0)) (Stb.rp hS0)))) b0 0 fun T => RdS.lit s0).mono fun T k => ⟨k.1.1, k.1.2, k.2⟩)
 rw [← hwl]
 clear hwl b0 s0
 refine (yY QL.out (Stb.and (Stb.and (Stb.and (Stb.and (Stb.and (Stb.triv (S := H2 5)) (Stb.rp hS0)) (Stb.rp hS0)) (Stb.rp hS0)) (Stb.rp hS0)) (Stb.rd hS0)) HT.out (by omega) (cmE 1 3 1 4 txt4) (fun T k => CmR.data k.2 rfl) (.inl (by omega)) (by have := X4.out.n; omega)).mono ?_
 rintro e w5 ⟨A5, k5, rfl, h, -⟩
 have X5 := Lib.hid (show SxB 6 x5 from by have h := X4.out.ap (cmE 1 3 1 4 txt4); rw [HN.out.1] at h; exact h)
 have Q5 := Lib.hid (show LS (fun T y => StAt T y 5 B x5 ∧ (((((True ∧ RpK w1.heap.size (apR (st0 sdF 4) cmO) A1 k1 T y) ∧ RpK w2.heap.size (apR x1 (cmC 1 1)) A2 k2 T y) ∧ RpK w3.heap.size (apR x2 (cmC 1 1)) A3 k3 T y) ∧ RpK w4.heap.size (apR x2 (cmC 1 2)) A4 k4 T y) ∧ RpK w5.heap.size (apR x4 (cmE 1 3 1 4 txt4)) A5 k5 T y)) w (w5.alloc (.cells #[.int .i64 (apR x4 (cmE 1 3 1 4 txt4)).c, .int .i64 (apR x4 (cmE 1 3 1 4 txt4)).n, .int .i64 (apR x4 (cmE 1 3 1 4 txt4)).m, .slice A5 (apR x4 (cmE 1 3 1 4 txt4)).T k5] 33)) from by
  rw [HN.out.1] at h
  exact ls_keep (h.mono fun T k => ⟨k.1, k.2.1.1, k.2.2⟩) (Stb.calm (Stb.and (Stb.and (Stb.and (Stb.and (Stb.triv (S := H2 5)) (Stb.rp hS0)) (Stb.rp hS0)) (Stb.rp hS0)) (Stb.rp hS0))))
 clear h Q4 X4 QL bd
 obtain ⟨v5, hv5⟩ : ∃ v, v = w5.alloc (.cells #[.int .i64 (apR x4 (cmE 1 3 1 4 txt4)).c, .int .i64 (apR x4 (cmE 1 3 1 4 txt4)).n, .int .i64 (apR x4 (cmE 1 3 1 4 txt4)).m, .slice A5 (apR x4 (cmE 1 3 1 4 txt4)).T k5] 33) := ⟨_, rfl⟩
 rw [← hv5] at Q5
 go_upto_region 9 with fail
 rw [← hv5]
 clear hv5
 have bd := fun (q : Int) => co_bD 1 q TL F A5 k5
 obtain ⟨Tz, kz⟩ := Q5.out.fact
 have g6 : v5.cell? ⟨w5.heap.size, 3, none⟩ = some (.slice A5 TL k5) := by have h := (cells4 (kz.2.2.1.1)).2.2.2; rw [HN.out.2.2.1] at h; exact h
 clear kz
 go_wp2_with fail
 clear g6
 refine (yY Q5.out (Stb.and (Stb.and (Stb.and (Stb.and (Stb.and (Stb.triv (S := H2 5)) (Stb.rp hS0)) (Stb.rp hS0)) (Stb.rp hS0)) (Stb.rp hS0)) (Stb.rp hS0)) HT.out (by omega) (cmD 1 4 TL F) (fun T k => CmR.data (by have h := k.2.2; rw [HN.out.2.2.1, HN.out.2.2.2.1] at h; exact h) rfl) (.inl (by omega)) (by have := X5.out.n; omega)).mono ?_
 rintro e w6 ⟨A6, k6, rfl, h, -⟩
 have X6 := Lib.hid (show SxB 7 x6 from by have h := X5.out.ap (cmD 1 4 TL F); rw [HN.out.2.2.2.2.1] at h; exact h)
 have Q6 := Lib.hid (show LS (fun T y => StAt T y 5 B x6 ∧ ((((((True ∧ RpK w1.heap.size (apR (st0 sdF 4) cmO) A1 k1 T y) ∧ RpK w2.heap.size (apR x1 (cmC 1 1)) A2 k2 T y) ∧ RpK w3.heap.size (apR x2 (cmC 1 1)) A3 k3 T y) ∧ RpK w4.heap.size (apR x2 (cmC 1 2)) A4 k4 T y) ∧ RpK w5.heap.size (apR x4 (cmE 1 3 1 4 txt4)) A5 k5 T y) ∧ RpK w6.heap.size (apR x5 (cmD 1 4 TL F)) A6 k6 T y)) w (w6.alloc (.cells #[.int .i64 (apR x5 (cmD 1 4 TL F)).c, .int .i64 (apR x5 (cmD 1 4 TL F)).n, .int .i64 (apR x5 (cmD 1 4 TL F)).m, .slice A6 (apR x5 (cmD 1 4 TL F)).T k6] 33)) from by
  rw [HN.out.2.2.2.2.1] at h
  exact ls_keep (h.mono fun T k => ⟨k.1, k.2.1, k.2.2⟩) (Stb.calm (Stb.and (Stb.and (Stb.and (Stb.and (Stb.and (Stb.triv (S := H2 5)) (Stb.rp hS0)) (Stb.rp hS0)) (Stb.rp hS0)) (Stb.rp hS0)) (Stb.rp hS0))))
 clear h Q5 X5 bd
 obtain ⟨v6, hv6⟩ : ∃ v, v = w6.alloc (.cells #[.int .i64 (apR x5 (cmD 1 4 TL F)).c, .int .i64 (apR x5 (cmD 1 4 TL F)).n, .int .i64 (apR x5 (cmD 1 4 TL F)).m, .slice A6 (apR x5 (cmD 1 4 TL F)).T k6] 33) := ⟨_, rfl⟩
 rw [← hv6] at Q6
 go_upto_region 10 with fail
 rw [← hv6]
 clear hv6
 have bd := co_bY
 go_wp2_with fail
 refine (yY Q6.out (Stb.and (Stb.and (Stb.and (Stb.and (Stb.and (Stb.and (Stb.triv (S := H2 5)) (Stb.rp hS0)) (Stb.rp hS0)) (Stb.rp hS0)) (Stb.rp hS0)) (Stb.rp hS0)) (Stb.rp hS0)) HT.out (by omega) (cmY 1 5 1 1) (fun T k => CmR.nothing T _ _ rfl rfl) (.inl (by omega)) (by have := X6.out.n; omega)).mono ?_
 rintro e w7 ⟨A7, k7, rfl, h, -⟩
 have X7 := Lib.hid (show SxB 8 x7 from by have h := X6.out.ap (cmY 1 5 1 1); rw [HN.out.2.2.2.2.2.2.2.1] at h; exact h)
 have Q7 := Lib.hid (show LS (fun T y => StAt T y 5 B x7 ∧ (((((((True ∧ RpK w1.heap.size (apR (st0 sdF 4) cmO) A1 k1 T y) ∧ RpK w2.heap.size (apR x1 (cmC 1 1)) A2 k2 T y) ∧ RpK w3.heap.size (apR x2 (cmC 1 1)) A3 k3 T y) ∧ RpK w4.heap.size (apR x2 (cmC 1 2)) A4 k4 T y) ∧ RpK w5.heap.size (apR x4 (cmE 1 3 1 4 txt4)) A5 k5 T y) ∧ RpK w6.heap.size (apR x5 (cmD 1 4 TL F)) A6 k6 T y) ∧ RpK w7.heap.size (apR x6 (cmY 1 5 1 1)) A7 k7 T y)) w (w7.alloc (.cells #[.int .i64 (apR x6 (cmY 1 5 1 1)).c, .int .i64 (apR x6 (cmY 1 5 1 1)).n, .int .i64 (apR x6 (cmY 1 5 1 1)).m, .slice A7 (apR x6 (cmY 1 5 1 1)).T k7] 33)) from by
  rw [HN.out.2.2.2.2.2.2.2.1] at h
  exact ls_keep (h.mono fun T k => ⟨k.1, k.2.1, k.2.2⟩) (Stb.calm (Stb.and (Stb.and (Stb.and (Stb.and (Stb.and (Stb.and (Stb.triv (S := H2 5)) (Stb.rp hS0)) (Stb.rp hS0)) (Stb.rp hS0)) (Stb.rp hS0)) (Stb.rp hS0)) (Stb.rp hS0))))
 clear h Q6 X6 bd
 obtain ⟨v7, hv7⟩ : ∃ v, v = w7.alloc (.cells #[.int .i64 (apR x6 (cmY 1 5 1 1)).c, .int .i64 (apR x6 (cmY 1 5 1 1)).n, .int .i64 (apR x6 (cmY 1 5 1 1)).m, .slice A7 (apR x6 (cmY 1 5 1 1)).T k7] 33) := ⟨_, rfl⟩
 rw [← hv7] at Q7
 go_upto_region 11 with fail
 rw [← hv7]
 clear hv7
 have bd := fun (q : Int) => co_bD 1 q TL F A5 k5
 obtain ⟨Tz, kz⟩ := Q7.out.fact
 have g6 : v7.cell? ⟨w5.heap.size, 3, none⟩ = some (.slice A5 TL k5) := by have h := (cells4 (kz.2.1.1.2.1.1)).2.2.2; rw [HN.out.2.2.1] at h; exact h
 clear kz
 go_wp2_with fail
 clear g6
 refine (yY Q7.out (Stb.and (Stb.and (Stb.and (Stb.and (Stb.and (Stb.and (Stb.and (Stb.triv (S := H2 5)) (Stb.rp hS0)) (Stb.rp hS0)) (Stb.rp hS0)) (Stb.rp hS0)) (Stb.rp hS0)) (Stb.rp hS0)) (Stb.rp hS0)) HT.out (by omega) (cmD 1 6 TL F) (fun T k => CmR.data (by have h := k.1.1.2.2; rw [HN.out.2.2.1, HN.out.2.2.2.1] at h; exact h) rfl) (.inl (by omega)) (by have := X7.out.n; omega)).mono ?_
 rintro e w8 ⟨A8, k8, rfl, h, -⟩
 have X8 := Lib.hid (show SxB 9 x8 from by have h := X7.out.ap (cmD 1 6 TL F); rw [HN.out.2.2.2.2.2.2.2.2.2.1] at h; exact h)
 have Q8 := Lib.hid (show LS (fun T y => StAt T y 5 B x8 ∧ ((((((((True ∧ RpK w1.heap.size (apR (st0 sdF 4) cmO) A1 k1 T y) ∧ RpK w2.heap.size (apR x1 (cmC 1 1)) A2 k2 T y) ∧ RpK w3.heap.size (apR x2 (cmC 1 1)) A3 k3 T y) ∧ RpK w4.heap.size (apR x2 (cmC 1 2)) A4 k4 T y) ∧ RpK w5.heap.size (apR x4 (cmE 1 3 1 4 txt4)) A5 k5 T y) ∧ RpK w6.heap.size (apR x5 (cmD 1 4 TL F)) A6 k6 T y) ∧ RpK w7.heap.size (apR x6 (cmY 1 5 1 1)) A7 k7 T y) ∧ RpK w8.heap.size (apR x7 (cmD 1 6 TL F)) A8 k8 T y)) w (w8.alloc (.cells #[.int .i64 (apR x7 (cmD 1 6 TL F)).c, .int .i64 (apR x7 (cmD 1 6 TL F)).n, .int .i64 (apR x7 (cmD 1 6 TL F)).m, .slice A8 (apR x7 (cmD 1 6 TL F)).T k8] 33)) from by
  rw [HN.out.2.2.2.2.2.2.2.2.2.1] at h
  exact ls_keep (h.mono fun T k => ⟨k.1, k.2.1, k.2.2⟩) (Stb.calm (Stb.and (Stb.and (Stb.and (Stb.and (Stb.and (Stb.and (Stb.and (Stb.triv (S := H2 5)) (Stb.rp hS0)) (Stb.rp hS0)) (Stb.rp hS0)) (Stb.rp hS0)) (Stb.rp hS0)) (Stb.rp hS0)) (Stb.rp hS0))))
 clear h Q7 X7 bd
 obtain ⟨v8, hv8⟩ : ∃ v, v = w8.alloc (.cells #[.int .i64 (apR x7 (cmD 1 6 TL F)).c, .int .i64 (apR x7 (cmD 1 6 TL F)).n, .int .i64 (apR x7 (cmD 1 6 TL F)).m, .slice A8 (apR x7 (cmD 1 6 TL F)).T k8] 33) := ⟨_, rfl⟩
 rw [← hv8] at Q8
 go_upto_region 12 with fail
 rw [← hv8]
 clear hv8
 obtain ⟨Tz, -, kz⟩ := Q8.out.fact
 have a1 : v8.cell? ⟨w1.heap.size, 1, none⟩ = some (.int .i64 1) := by have h := (cells4 kz.1.1.1.1.1.1.1.2.1.1).2.1; rw [HM.out.2.1] at h; exact h
 have b1 : v8.cell? ⟨w2.heap.size, 1, none⟩ = some (.int .i64 1) := by have h := (cells4 kz.1.1.1.1.1.1.2.1.1).2.1; rw [HM.out.2.2.2.1] at h; exact h
 have b2 : v8.cell? ⟨w2.heap.size, 2, none⟩ = some (.int .i64 1) := by have h := (cells4 kz.1.1.1.1.1.1.2.1.1).2.2.1; rw [HM.out.2.2.2.2.1] at h; exact h
 have c1 : v8.cell? ⟨w3.heap.size, 1, none⟩ = some (.int .i64 1) := by have h := (cells4 kz.1.1.1.1.1.2.1.1).2.1; rw [HM.out.2.2.2.2.2.2.1] at h; exact h
 have d1 : v8.cell? ⟨w4.heap.size, 1, none⟩ = some (.int .i64 2) := by have h := (cells4 kz.1.1.1.1.2.1.1).2.1; rw [HM.out.2.2.2.2.2.2.2.2] at h; exact h
 have e1 : v8.cell? ⟨w5.heap.size, 0, none⟩ = some (.int .i64 0) := by have h := (cells4 kz.1.1.1.2.1.1).1; rw [HN.out.2.1] at h; exact h
 have f1 : v8.cell? ⟨w6.heap.size, 3, none⟩ = some (.slice A6 4 k6) := by have h := (cells4 kz.1.1.2.1.1).2.2.2; rw [HN.out.2.2.2.2.2.1] at h; exact h
 have g1 : v8.cell? ⟨w7.heap.size, 0, none⟩ = some (.int .i64 0) := by have h := (cells4 kz.1.2.1.1).1; rw [HN.out.2.2.2.2.2.2.2.2.1] at h; exact h
 have h1 : v8.cell? ⟨w8.heap.size, 0, none⟩ = some (.int .i64 132) := by have h := (cells4 kz.2.1.1).1; rw [HN.out.2.2.2.2.2.2.2.2.2.2.1] at h; exact h
 have h2 : v8.cell? ⟨w8.heap.size, 3, none⟩ = some (.slice A8 0 k8) := by have h := (cells4 kz.2.1.1).2.2.2; rw [HN.out.2.2.2.2.2.2.2.2.2.2.2] at h; exact h
 have hcv : (convert 22 9 (.slice A6 4 k6)).run Tryz.prog v8 = .ok (.string ⟨#[116, 101, 120, 116]⟩) v8 := by
  have h := kz.1.1.2.2
  rw [HN.out.2.2.2.2.2.1] at h
  rw [← tx_str HN.out.2.2.2.2.2.2.1]
  exact conv_sl h.sl
 have BE := Lib.hid Q8.out.bel
 clear kz Q8 X8 bO
 go_wp2_with fail
 go_ret
 exact ⟨rfl, BE.out⟩
section
variable {K : Kp} {W w : World} {t B : Nat} {x : Sx}
theorem ls_rings (h : LS (fun T w => StAt T w t B x ∧ K T w) W w) (hK : Stb (fun _ => False) K) (ht : 0 < t) :
  Calls Tryz.prog 27 #[.pointer (some ⟨B, 0, none⟩)] w fun e w' => ∃ v T', e = .returned v ∧ RsAt T' w' 80 59 63 v x.K ∧ LS (fun T w => StAt T w t B x ∧ K T w) W w' ∧ Below w.heap.size w w' := by
 obtain ⟨T, hf, hst, k⟩ := id h
 refine (prings16_any (only T t) 1 80 B x w (hst.only ht) (fun k _ h => by have := only_le T t k; unfold Hk at h; omega)).mono ?_
 rintro e w' ⟨v, T', rfl, hR, hk⟩
 exact ⟨v, T', rfl, hR, h.calm (Stb.and (Stb.st (fun h => h) (fun h => h) (fun h => h)) hK) hk.below, hk.below⟩
theorem ls_start (htab : Tab W) (hb : Below W.heap.size W w) {A : Option Addr} {n c : Nat} {f : Bf} (hs : Sl W W.heap.size A n c f) (N : Nat) (hN : N ≤ 100) (hNn : N ≤ n) (ht : 0 < t) :
  Calls Tryz.prog 11 #[.slice A N c] w fun e w' => ∃ B, e = .returned (.pointer (some ⟨B, 0, none⟩)) ∧ LS (fun T w => StAt T w t B (st0 f N) ∧ True) W w' := by
 have P := ((LS.init (K := fun _ _ => True) W trivial).calm (Stb.triv (S := fun _ => False)) hb).sl (hs.upto N hNn)
 refine (ls_new P (Stb.and Stb.triv (Stb.rd (fun h => h))) htab ht (fun T k => k.2) (by omega)).mono ?_
 rintro e w' ⟨B, rfl, h, -⟩
 exact ⟨B, rfl, h.mono fun T k => ⟨k.2, trivial⟩⟩
end
end Go.Proofs.YteffjpdcghlnlaaGreatDoor.Oct
