import Derived.Test.YteffjpdcghlnlaaGreatDoorZbStVb
import Derived.Test.YteffjpdcghlnlaaGreatDoorZbStVr
set_option linter.unusedVariables false
set_option linter.unusedSimpArgs false
set_option maxHeartbeats 4000000
set_option maxRecDepth 20000
namespace Go.Proofs.YteffjpdcghlnlaaGreatDoor.Oct
open Go.ChangeShapes Go.WideShapes Go.ChangeAt Go.RowKit Go.Maps
theorem musk_ok (v : Value) (w : World) : Calls Tryz.prog 105 #[v, .int .i64 0] w fun e w' => e = .returned v ∧ w' = w := by
 go_enter Tryz.func105, Tryz.ntmps105
 go_wp2_with fail
 refine (yL _).mono ?_
 rintro e w' ⟨rfl, rfl⟩
 go_wp2_with fail
 go_ret
 exact ⟨rfl, rfl⟩
theorem musk_bad (v : Value) (E : Int) (h : E ≠ 0) (w : World) : Calls Tryz.prog 105 #[v, .int .i64 E] w fun e w' => e = .panicked (pnE E) ∧ w' = w := by
 go_enter Tryz.func105, Tryz.ntmps105
 go_wp2_with fail
 refine (yH E h _).mono ?_
 rintro e w' ⟨rfl, rfl⟩
 go_wp2_with fail
 exact ⟨rfl, rfl, rfl⟩
theorem mustt_ok (v : Value) (w : World) : Calls Tryz.prog 116 #[v, .int .i64 0] w fun e w' => e = .returned v ∧ w' = w := by
 go_enter Tryz.func116, Tryz.ntmps116
 go_wp2_with fail
 refine (yL _).mono ?_
 rintro e w' ⟨rfl, rfl⟩
 go_wp2_with fail
 go_ret
 exact ⟨rfl, rfl⟩
theorem mustt_bad (v : Value) (E : Int) (h : E ≠ 0) (w : World) : Calls Tryz.prog 116 #[v, .int .i64 E] w fun e w' => e = .panicked (pnE E) ∧ w' = w := by
 go_enter Tryz.func116, Tryz.ntmps116
 go_wp2_with fail
 refine (yH E h _).mono ?_
 rintro e w' ⟨rfl, rfl⟩
 go_wp2_with fail
 exact ⟨rfl, rfl, rfl⟩
abbrev rvK (K : Ks) (v : Value) (w : World) : Prop := ∃ B ck, v = .pointer (some ⟨B, 0, none⟩) ∧ row w B = some ck ∧ KsC 0 ksZ ck K
def oneX (X : Nat) : Mk := fun k => if k = X then 1 else 0
theorem oneX_x (X : Nat) : oneX X X = 1 := if_pos rfl
theorem oneX_le (X k : Nat) : oneX X k ≤ 1 := by unfold oneX; split <;> omega
theorem rdkeys_any (X : Nat) (l : By) (w : World) (h : RdI X l w) : Calls Tryz.prog 56 #[.pointer (some ⟨X, 0, none⟩)] w (RdOut X l (eL eRg) okK rvK w) := by
 obtain ⟨w1, hw1⟩ : ∃ w1, w1 = w.alloc (.cells #[.pointer (some ⟨X, 0, none⟩)] 176) := ⟨_, rfl⟩
 have b1 : Below w.heap.size w w1 := by rw [hw1]; exact (Below.refl _ _).alloc (Nat.le_refl _) _
 have r1 : row w1 w.heap.size = some #[.pointer (some ⟨X, 0, none⟩)] := by rw [hw1]; exact zA _ _ _ _ rfl
 have H1 := Lib.hid (lsring_any (oneX X) 2 X w.heap.size l w1 (h.below b1) (by rw [oneX_x]; unfold Hk; omega) (by rw [oneX_x]; omega) (by omega) (fun k _ hk => by have := oneX_le X k; unfold Hk at hk; omega) r1)
 have B1 := Lib.hid b1
 have HI := Lib.hid h
 have I1 := Lib.hid (h.below b1)
 have k1 := zG r1 0
 have k1 : w1.cell? ⟨w.heap.size, 0, none⟩ = some (.pointer (some ⟨X, 0, none⟩)) := k1
 clear h b1 r1
 go_enter Tryz.func56, Tryz.ntmps56
 go_upto_region 1 with fail
 rw [← hw1]
 clear hw1
 go_wp2_with fail
 refine H1.out.mono ?_
 rintro e w2 ⟨T2, l2, hM, ⟨K, v, hg, hl, rfl, hR⟩ | ⟨hn, z, hz, rfl⟩⟩
 ·have D2 := Lib.hid (Rdd.behind HI.out B1.out hM.rd)
  have I2 := Lib.hid (hM.rd.inv I1.out)
  have H2' := Lib.hid (pof_any (fun _ => 0) 1 K v w2 hR.rd (by have := hg.1; omega) (fun r hr => by have := (hg.2 r hr).1; omega) (fun k _ h => by unfold Hk at h; omega))
  have HG := Lib.hid (And.intro hg hl)
  clear hM hg hl hR H1 k1
  go_wp2_with fail
  refine H2'.out.mono ?_
  rintro e w3 ⟨q, T3, rfl, -, hok, hnk⟩
  have D3 := Lib.hid (Rdd.calm HI.out D2.out hnk.below)
  clear hnk H2' D2
  by_cases hK : okK K
  ·have e0 : ofE K = 0 := by unfold ofE; rw [if_pos (ofB_iff.2 hK)]
   obtain ⟨B, rfl, hkp⟩ := hok e0
   obtain ⟨c, hr, hc⟩ := hkp.at_
   rw [e0]
   have R := Lib.hid (And.intro hr hc)
   have HK := Lib.hid hK
   clear hkp hr hc hok e0 hK
   go_wp2_with fail
   refine (musk_ok _ _).mono ?_
   rintro e w4 ⟨rfl, rfl⟩
   go_wp2_with fail
   go_ret
   exact .inl ⟨K, _, l2, HK.out, HG.out.2, rfl, ⟨B, c, rfl, R.out.1, R.out.2⟩, D3.out⟩
  ·have e1 : ofE K = 1 := by unfold ofE; rw [if_neg (fun h => hK (ofB_iff.1 h))]
   rw [e1]
   have KN := Lib.hid (keys_no HG.out.1 hK HG.out.2)
   clear hok e1 hK
   go_wp2_with fail
   refine (musk_bad _ 1 (by omega) _).mono ?_
   rintro e w4 ⟨rfl, rfl⟩
   go_wp2_with fail
   exact ⟨rfl, .inr ⟨KN.out, 1, l2, by omega, rfl, D3.out⟩⟩
 ·have K := Lib.hid (And.intro (hn.less (G' := okK) fun M hM => okK.lg hM) (And.intro hz (Rdd.behind HI.out B1.out hM.rd)))
  clear hn hz hM H1 k1
  go_wp2_with fail
  exact ⟨rfl, .inr ⟨K.out.1, z, l2, K.out.2.1, rfl, K.out.2.2⟩⟩
theorem seNo_1 {l : By} (h : NoF eN u63 l) : NoF eSe seG l := no_1 (e1 := eN) (G1 := u63) (e2 := fun s : Se => eN s.q.toNat ++ eRp (seR s)) (p := fun s : Se => s.id.toNat) (q := fun s => s) (fun _ => rfl) (fun c hc => by have h1 := hc.1; show c.id.toNat < 9223372036854775808; omega) h
theorem seNo_2 {l l1 : By} {n : Nat} (hn : u63 n) (hl : l = eN n ++ l1) (h : NoF eN u63 l1) : NoF eSe seG l :=
 no_2 (e1 := eN) (G1 := u63) (G2 := seG) (e2 := fun s : Se => eN s.q.toNat ++ eRp (seR s)) (p := fun s : Se => s.id.toNat) (q := fun s => s) (fun _ => rfl) (fun c hc => ⟨by have h1 := hc.1; show c.id.toNat < 9223372036854775808; omega, hc⟩) eN_unq hn hl
  (no_1 (e1 := eN) (G1 := u63) (e2 := fun s : Se => eRp (seR s)) (p := fun s : Se => s.q.toNat) (q := fun s => s) (fun _ => rfl) (fun c hc => by have h1 := hc.2.1; show c.q.toNat < 9223372036854775808; omega) h)
theorem seNo_3 {l l1 l2 : By} {n m : Nat} (hn : u63 n) (hl : l = eN n ++ l1) (hm : u63 m) (h1 : l1 = eN m ++ l2) (h : NoF eRp rpG l2) : NoF eSe seG l :=
 no_2 (e1 := eN) (G1 := u63) (G2 := seG) (e2 := fun s : Se => eN s.q.toNat ++ eRp (seR s)) (p := fun s : Se => s.id.toNat) (q := fun s => s) (fun _ => rfl) (fun c hc => ⟨by have h1 := hc.1; show c.id.toNat < 9223372036854775808; omega, hc⟩) eN_unq hn hl
  (no_2 (e1 := eN) (G1 := u63) (G2 := rpG) (e2 := eRp) (p := fun s : Se => s.q.toNat) (q := seR) (fun _ => rfl) (fun c hc => ⟨by have h1 := hc.2.1; show c.q.toNat < 9223372036854775808; omega, hc.2.2⟩) eN_unq hm h1 h)
abbrev rvS (D : Nat) (s : Se) (v : Value) (w : World) : Prop := ∃ A c, v = .agg #[.int .i64 s.id, .int .i64 s.q, .int .i64 s.c, .int .i64 s.n, .int .i64 s.m, .slice A s.T c] ∧ Sl w w.heap.size A s.T c s.f ∧ ∀ k, k < D → Off k s.T A
theorem six_nob (a b d e f : Int) (A : Option Addr) (n c : Nat) : ∀ (i : Nat) (v : Int), (#[.int .i64 a, .int .i64 b, .int .i64 d, .int .i64 e, .int .i64 f, .slice A n c] : Array Value)[i]? ≠ some (.int .u8 v)
 | 0, v, h => by cases h
 | 1, v, h => by cases h
 | 2, v, h => by cases h
 | 3, v, h => by cases h
 | 4, v, h => by cases h
 | 5, v, h => by cases h
 | i + 6, v, h => by rw [Array.getElem?_eq_none (by show 6 ≤ i + 6; omega)] at h; cases h
theorem rdseat_any (X C : Nat) (l : By) (w : World) (h : RdI X l w) (hC : row w C = some #[.pointer (some ⟨X, 0, none⟩)]) :
  Calls Tryz.prog 113 #[.pointer (some ⟨C, 0, none⟩)] w (RdOut X l eSe seG (rvS w.heap.size) w) := by
 obtain ⟨w1, hw1⟩ : ∃ w1, w1 = w.alloc (.cells #[.int .i64 0, .int .i64 0, .int .i64 0, .int .i64 0, .int .i64 0, .slice none 0 0] 121) := ⟨_, rfl⟩
 have b1 : Below w.heap.size w w1 := by rw [hw1]; exact (Below.refl _ _).alloc (Nat.le_refl _) _
 have r1 : row w1 w.heap.size = some #[.int .i64 0, .int .i64 0, .int .i64 0, .int .i64 0, .int .i64 0, .slice none 0 0] := by rw [hw1]; exact zA _ _ _ _ rfl
 have hXl := h.lt
 have hCl := zL hC
 have hCX : C ≠ X := fun e => by
  obtain ⟨A, c, hr, -⟩ := h
  rw [e] at hC
  rw [hC] at hr
  simp at hr
 have B1 := Lib.hid b1
 have R1 := Lib.hid r1
 have I1 := Lib.hid (h.below b1)
 have RC := Lib.hid (zE b1 hC)
 have HI := Lib.hid h
 clear h b1 r1 hC
 go_enter Tryz.func113, Tryz.ntmps113
 go_upto_region 1 with fail
 rw [← hw1]
 clear hw1
 refine zZ [([0, 2, 4], 1, false), ([], 3, false), ([], 5, false), ([6], 7, true)] [] (fun y => row y C = some #[.pointer (some ⟨X, 0, none⟩)]) (by kernel_rfl) (by kernel_rfl) (fun _ _ _ _ _ h => h) (by rw [zS]; exact RC.out) ?_
 have b2 := zQ (Below.refl w1.heap.size w1) 1
 have z1 : w.heap.size ≤ w1.heap.size := B1.out.size
 have B2 := Lib.hid (onto B1.out B1.out.size b2)
 have I2 := Lib.hid (I1.out.below b2)
 have R2 := Lib.hid (zE b2 R1.out)
 have RC2 := Lib.hid (zE b2 RC.out)
 obtain ⟨w2, hw2⟩ : ∃ w2, w2 = w1.drewN 1 := ⟨_, rfl⟩
 rw [← hw2] at B2 I2 R2 RC2 ⊢
 clear hw2 b2 B1 I1 R1 RC
 have hzz := B2.out.size
 have H3 := Lib.hid (xK X l w2 I2.out)
 have hq := fun y : In (fun y => row y C = some #[.pointer (some ⟨X, 0, none⟩)]) => (zG y.ok 0 : y.val.cell? ⟨C, 0, none⟩ = _)
 have hne : Nonempty (In (fun y => row y C = some #[.pointer (some ⟨X, 0, none⟩)])) := ⟨⟨w2, RC2.out⟩⟩
 simp only [wpFl, pk, List.getElem?_cons_zero, List.getElem?_cons_succ]
 refine zX ?_
 repeat (go_big_quiet_step (fail))
 refine wpQuiet_nil ?_
 clear hq
 go_wp2_with fail
 refine H3.out.mono ?_
 rintro e w3 (⟨n, v, l1, hn, hl, rfl, rfl, hr⟩ | ⟨hn, z, l1, hz, rfl, hr⟩)
 ·have rc3 := hr.row hCX RC2.out
  have R3 := Lib.hid (hr.row (by omega) R2.out)
  have RC3 := Lib.hid rc3
  have I3 := Lib.hid (hr.inv I2.out)
  have D3 := Lib.hid (Rdd.behind HI.out B2.out hr)
  have L1 := Lib.hid (And.intro hn hl)
  have H4 := Lib.hid (xK X l1 w3 I3.out)
  have hz3 := hr.size
  clear hl hr hn H3 I2 R2
  go_wp2_with fail
  refine ⟨fun y => row y C = some #[.pointer (some ⟨X, 0, none⟩)], rc3, .inr ⟨rc3, fun _ h => h⟩, ?_⟩
  show wpQuiet _ _ _ _ _ _
  refine wpQuiet_nil ?_
  clear rc3
  go_wp2_with fail
  refine H4.out.mono ?_
  rintro e w4 (⟨m, v, l2, hn, hl, rfl, rfl, hr⟩ | ⟨hn, z, l2, hz, rfl, hr⟩)
  ·have rc4 := hr.row hCX RC3.out
   have R4 := Lib.hid (hr.row (by omega) R3.out)
   have RC4 := Lib.hid rc4
   have I4 := Lib.hid (hr.inv I3.out)
   have D4 := Lib.hid (Rdd.trans HI.out D3.out hr)
   have L2 := Lib.hid (And.intro hn hl)
   have H5 := Lib.hid (partr_any X l2 w4 I4.out)
   have hz4 := hr.size
   clear hl hr hn H4 I3 R3 D3 RC3
   go_wp2_with fail
   refine ⟨fun y => row y C = some #[.pointer (some ⟨X, 0, none⟩)], rc4, .inr ⟨rc4, fun _ h => h⟩, ?_⟩
   show wpQuiet _ _ _ _ _ _
   refine wpQuiet_nil ?_
   clear rc4
   go_wp2_with fail
   refine H5.out.mono ?_
   rintro e w5 (⟨r, v, l3, hg, hl, rfl, ⟨A, c, rfl, hsl, hoff⟩, hr⟩ | ⟨hn, z, l3, hz, rfl, hr⟩)
   ·have rc5 := hr.row hCX RC4.out
    have r5 := hr.row (by omega) R4.out
    have R5 := Lib.hid r5
    have D5 := Lib.hid (Rdd.trans HI.out D4.out hr)
    have L3 := Lib.hid (And.intro hg hl)
    have U5 := Lib.hid (And.intro hsl (show ∀ k, k < w.heap.size → Off k r.T A from fun k hk => hoff k (by omega)))
    have bd := se_b3
    clear hl hr hg hsl hoff H5 I4 R4 D4 RC4
    go_wp2_with fail
    refine ⟨fun y => row y C = some #[.pointer (some ⟨X, 0, none⟩)], rc5, .inr ⟨rc5, fun _ h => h⟩, ?_⟩
    show wpQuiet _ _ _ _ _ _
    refine zX ?_
    have hne : Nonempty (In (fun y => row y C = some #[.pointer (some ⟨X, 0, none⟩)])) := ⟨⟨w5, rc5⟩⟩
    repeat (go_big_quiet_step (fail))
    refine wpQuiet_nil ?_
    clear rc5 bd
    go_wp2_with fail
    refine ⟨fun _ => True, trivial, ?_⟩
    show wpQuiet _ _ _ _ _ _
    refine wpQuiet_nil ?_
    go_wp2_with fail
    have hz5 : (w5.setRow w.heap.size #[.int .i64 (n : Int), .int .i64 (m : Int), .int .i64 r.c, .int .i64 r.n, .int .i64 r.m, .slice A r.T c]).heap.size = w5.heap.size := by simp
    have h1 := L1.out.1
    have h2 := L2.out.1
    refine bodyPost_ret (v := .agg #[.int .i64 (n : Int), .int .i64 (m : Int), .int .i64 r.c, .int .i64 r.n, .int .i64 r.m, .slice A r.T c]) (yK Tryz.results113 _ _ w.heap.size _ _ rfl (zC R5.out _) Tryz.underlying121 rfl (by exact se_i)) rfl (.inl ⟨⟨(n : Int), (m : Int), r.c, r.n, r.m, r.T, r.f⟩, _, l3, ⟨⟨by show (0 : Int) ≤ (n : Int); omega, by show (n : Int) < 9223372036854775808; omega⟩, ⟨by show (0 : Int) ≤ (m : Int); omega, by show (m : Int) < 9223372036854775808; omega⟩, L3.out.1⟩, ?_, rfl, ⟨A, c, rfl, ?_, U5.out.2⟩, Rdd.up D5.out HI.out (Nat.le_refl _) _⟩)
    ·rw [L1.out.2, L2.out.2, L3.out.2]
     unfold eSe
     rw [Int.toNat_natCast, Int.toNat_natCast, List.append_assoc, List.append_assoc]
     rfl
    ·rw [hz5]
     exact sl_off U5.out.1 R5.out (six_nob _ _ _ _ _ _ _ _) _
   ·have K := Lib.hid (And.intro (seNo_3 L1.out.1 L1.out.2 L2.out.1 L2.out.2 hn) (And.intro hz (Rdd.trans HI.out D4.out hr)))
    clear hn hz hr H5
    go_wp2_with fail
    exact ⟨rfl, .inr ⟨K.out.1, z, l3, K.out.2.1, rfl, K.out.2.2⟩⟩
  ·have K := Lib.hid (And.intro (seNo_2 L1.out.1 L1.out.2 hn) (And.intro hz (Rdd.trans HI.out D3.out hr)))
   clear hn hz hr H4
   go_wp2_with fail
   exact ⟨rfl, .inr ⟨K.out.1, z, l2, K.out.2.1, rfl, K.out.2.2⟩⟩
 ·have K := Lib.hid (And.intro (seNo_1 hn) (And.intro hz (Rdd.behind HI.out B2.out hr)))
  clear hn hz hr H3
  go_wp2_with fail
  exact ⟨rfl, .inr ⟨K.out.1, z, l1, K.out.2.1, rfl, K.out.2.2⟩⟩
end Go.Proofs.YteffjpdcghlnlaaGreatDoor.Oct
