/- Contracts: bytes.Equal, bytes.HasPrefix; journal's first. -/
import Derived.Test.YtdfcldomjjcidaaGreatDoorJrG
namespace Go.Proofs.YtdfcldomjjcidaaGreatDoor.Oct
open Go.ChangeShapes Go.WideShapes Go.ChangeAt Go.RowKit
set_option linter.unusedVariables false

theorem equal_any (n c m c' : Nat) (A A' : Option Addr) (f g : Bf) (w : World) (hs : Sl w w.heap.size A n c f) (hg : Sl w w.heap.size A' m c' g) :
    Calls Tryz.prog 86 #[.slice A n c, .slice A' m c'] w fun e w' => e = .returned (.bool (teqB n m f g)) ∧ w' = w := by
  have cv1 := conv_sl hs
  have cv2 := conv_sl hg
  obtain ⟨b, hb⟩ : ∃ b, b = teqB n m f g := ⟨_, rfl⟩
  rw [← hb]
  unfold teqB at hb
  obtain ⟨S1, hS1⟩ : ∃ x, x = strOf n f := ⟨_, rfl⟩
  obtain ⟨S2, hS2⟩ : ∃ x, x = strOf m g := ⟨_, rfl⟩
  rw [← hS1, ← hS2] at hb
  rw [← hS1] at cv1
  rw [← hS2] at cv2
  have hb' := hb.symm
  clear hS1 hS2 hb hs hg
  go_enter Tryz.func86, Tryz.ntmps86
  go_wp2_with fail
  go_ret
  exact ⟨rfl, rfl⟩
def pfB (n m : Nat) (f g : Bf) : Bool := decide (m ≤ n) && teqB m m f g
theorem pf_iff {n m : Nat} {f g : Bf} : pfB n m f g = true ↔ m ≤ n ∧ ∀ i, i < m → f i = g i := by
  unfold pfB
  rw [Bool.and_eq_true, decide_eq_true_eq, teq_iff]
  exact ⟨fun h => ⟨h.1, h.2.2⟩, fun h => ⟨h.1, rfl, h.2⟩⟩
set_option maxHeartbeats 1000000 in
theorem prefix_any (n c m c' : Nat) (A A' : Option Addr) (f g : Bf) (w : World) (hs : Sl w w.heap.size A n c f) (hg : Sl w w.heap.size A' m c' g) :
    Calls Tryz.prog 57 #[.slice A n c, .slice A' m c'] w fun e w' => e = .returned (.bool (pfB n m f g)) ∧ Below w.heap.size w w' := by
  have hnc := hs.le
  by_cases h : m ≤ n
  · have hd : decide (m ≤ n) = true := by simp; omega
    have HE := Lib.hid (equal_any m c m c' A A' f g w (hs.upto m h) hg)
    have q1 := fun w => run_upto (P := Tryz.prog) sli_u u8_i A n c m (by omega) w
    have HP := Lib.hid (show pfB n m f g = teqB m m f g by unfold pfB; rw [hd]; rfl)
    obtain ⟨b, hb⟩ : ∃ b, b = teqB m m f g := ⟨_, rfl⟩
    rw [← hb] at HE HP
    rw [HP.out]
    clear h hs hg hb HP
    go_enter Tryz.func57, Tryz.ntmps57
    go_wp2_with fail
    refine HE.out.mono ?_
    rintro e w' ⟨rfl, rfl⟩
    go_wp2_with fail
    go_ret
    exact ⟨rfl, Below.refl _ _⟩
  · have hd : decide (m ≤ n) = false := by simp; omega
    have HP := Lib.hid (show pfB n m f g = false by unfold pfB; rw [hd]; rfl)
    rw [HP.out]
    clear h hs hg HP
    go_enter Tryz.func57, Tryz.ntmps57
    go_wp2_with fail
    go_ret
    exact ⟨rfl, Below.refl _ _⟩
/-- the front of n bytes can be read as a record -/
def fsD (n : Nat) (f : Bf) : Prop := bdK n f ∧ dcK (tkV f) (offF f (tkL f))
/-- the record -/
def fsR (f : Bf) : Rc := dcR (offF f (tkL f))
/-- and its frame stands there -/
def fsK (n : Nat) (f : Bf) : Prop := fsD n f ∧ pcE (fsR f) = 0 ∧ pcL (fsR f) ≤ n ∧ ∀ i, i < pcL (fsR f) → f i = pcF (fsR f) i
theorem dcR_k (f : Bf) : (dcR f).k = (puX f 0 : Nat) := by
  unfold dcR
  split
  · rename_i h; rw [h]; rfl
  · exact nSt_k _ _ _
theorem te_bd {n : Nat} {f : Bf} (h : teK n f) : EnB (teEn f) := by
  have q0 : puE n f 2 = 0 := fi_each h.1 0 (by omega)
  have q2 : tllE (n - teO f 2) 7 (offF f (teO f 2)) = 0 := fi_each h.1 2 (by omega)
  have h0 := puX_lt q0 (show 0 < 2 by omega)
  have h1 := puX_lt q0 (show 1 < 2 by omega)
  refine ⟨⟨by show -9223372036854775808 ≤ ((puX f 0 : Nat) : Int); omega, by show ((puX f 0 : Nat) : Int) < _; omega⟩, ⟨by show -9223372036854775808 ≤ ((puX f 1 : Nat) : Int); omega, by show ((puX f 1 : Nat) : Int) < _; omega⟩, fun i hi => ?_, ?_⟩
  · have := tlX_lt _ (tll_ok q2).2.2 i hi
    show -9223372036854775808 ≤ ((tlX (offF f (teO f 2)) i : Nat) : Int) ∧ ((tlX (offF f (teO f 2)) i : Nat) : Int) < _
    omega
  · have := teK_len h
    show teM f ≤ _
    omega
theorem dc_bd {n : Nat} {f : Bf} (h : dcK n f) (hk : (dcR f).k = 2) : EnB (dcR f).e := by
  rw [dcR_k] at hk
  have h2 : puX f 0 = 2 := by omega
  have := te_bd (h.2.2 h2).2
  unfold dcR
  rw [if_pos h2]
  exact this
set_option maxRecDepth 20000 in
set_option maxHeartbeats 2000000 in
theorem first1_any (X n c : Nat) (A : Option Addr) (f : Bf) (w : World) (hx : row w X = some #[.slice A n c]) (hs : Sl w w.heap.size A n c f) (hn : n ≤ 140737488355328) (hc : c ≤ maxLen) :
    Calls Tryz.prog 54 #[.pointer (some ⟨X, 0, none⟩)] w fun e w' => Below w.heap.size w w' ∧ ((fsD n f ∧ ∃ v, e = .returned v ∧ RcN w.heap.size w' (fsR f) v) ∨ (¬ fsD n f ∧ ∃ E, E ≠ 0 ∧ e = .panicked (pnE E))) := by
  obtain ⟨w1, hw1⟩ : ∃ w1, w1 = w.alloc (.cells #[.int .i64 0, .int .i64 0, .int .i64 0, .int .i64 0, .int .i64 0, .int .i64 0, .int .i64 0, .int .i64 0, .slice none 0 0, .slice none 0 0] 29) := ⟨_, rfl⟩
  have bw : Below w.heap.size w w1 := by rw [hw1]; exact (Below.refl _ _).alloc (Nat.le_refl _) _
  have r0 : row w1 w.heap.size = some (rcC .zero nilS nilS) := by rw [hw1, ← rc_lit0]; exact row_alloc_at _ _ _ _ rfl
  have rx := carry bw hx
  have c0 : w1.cell? ⟨X, 0, none⟩ = some (.slice A n c) := by rw [cell_row rx]; rfl
  have B1 := Lib.hid bw
  have R0 := Lib.hid r0
  have H1 := Lib.hid (body_any n c A f w1 ((hs.below bw).more bw.size) hn hc)
  clear hx hs bw r0 rx
  go_enter Tryz.func54, Tryz.ntmps54
  go_upto_region 1 with fail
  simp only [← hw1]
  clear hw1
  go_wp2_with fail
  refine H1.out.mono ?_
  rintro e w2 ⟨hb, ⟨hk, A2, c2, rfl, hs2⟩ | ⟨hk, E, hE, rfl⟩⟩
  · have B2 := Lib.hid (onto B1.out B1.out.size hb)
    have R2 := Lib.hid (carry hb R0.out)
    have hV : tkV f ≤ n := by have := hk.2; omega
    have H2 := Lib.hid (jdec_any (tkV f) c2 A2 (offF f (tkL f)) w2 (hs2.more hb.size) (by omega))
    have HK := Lib.hid hk
    clear hb hs2 hk H1 c0 hV
    go_wp2_with fail
    refine H2.out.mono ?_
    rintro e w3 ⟨hb, ⟨hk, v, rfl, hG⟩ | ⟨hk, E, hE, rfl⟩⟩
    · obtain ⟨A3, c3, A3', c3', rfl, he, hn3, hn3'⟩ := hG.ex
      have B3 := Lib.hid (onto B2.out B2.out.size hb)
      have q0 := carry hb R2.out
      have hlt := row_lt R2.out
      have HK2 := Lib.hid hk
      have HG := Lib.hid hG
      clear hb hk he hn3 hn3' hG H2
      go_wp2_with fail
      exact bodyPost_ret (v := .agg (rcC (dcR (offF f (tkL f))) (.slice A3 (dcR (offF f (tkL f))).e.T c3) (.slice A3' (dcR (offF f (tkL f))).e.n c3'))) (res_c Tryz.results54 _ _ w.heap.size _ _ rfl (row_setRow q0 _) Tryz.underlying29 rfl (by rw [rc_i, rc_size])) rfl
        ⟨below_setRow B3.out (Nat.le_refl _) _, .inl ⟨⟨HK.out, HK2.out⟩, _, rfl, (HG.out.setRow hlt q0 _).low (by omega)⟩⟩
    · have B3 := Lib.hid (onto B2.out B2.out.size hb)
      have HK2 := Lib.hid hk
      clear hb hk H2
      go_wp2_with fail
      exact ⟨rfl, B3.out, .inr ⟨fun h => HK2.out h.2, E, hE, rfl⟩⟩
  · have B2 := Lib.hid (onto B1.out B1.out.size hb)
    have HK := Lib.hid hk
    clear hb hk H1 c0
    go_wp2_with fail
    exact ⟨rfl, B2.out, .inr ⟨fun h => HK.out h.1, E, hE, rfl⟩⟩
/-- results of a struct's cell and two slots: what first ends in -/
def fsP (n : Nat) (f : Bf) (w : World) (e : Ending) (w' : World) : Prop := Below w.heap.size w w' ∧
  ((fsK n f ∧ ∃ v, e = .returned (.tuple #[v, .int .i64 (pcL (fsR f) : Nat), .bool true]) ∧ RcN w.heap.size w' (fsR f) v) ∨
   (¬ fsK n f ∧ e = .returned (.tuple #[.agg (rcC .zero nilS nilS), .int .i64 0, .bool false])))
set_option maxRecDepth 20000 in
set_option maxHeartbeats 4000000 in
theorem first_any (n c : Nat) (A : Option Addr) (f : Bf) (w : World) (ht : Tab w) (hs : Sl w w.heap.size A n c f) (hn : n ≤ 140737488355328) (hc : c ≤ maxLen) :
    Calls Tryz.prog 28 #[.slice A n c] w (fsP n f w) := by
  obtain ⟨w1, hw1⟩ : ∃ w1, w1 = (w.alloc (.cells #[.slice A n c] 22)).alloc (.cells #[.int .i64 0, .int .i64 0, .int .i64 0, .int .i64 0, .int .i64 0, .int .i64 0, .int .i64 0, .int .i64 0, .slice none 0 0, .slice none 0 0] 29) := ⟨_, rfl⟩
  have bw : Below w.heap.size w w1 := by rw [hw1]; exact ((Below.refl _ _).alloc (Nat.le_refl _) _).alloc (by simp) _
  have rx : row w1 w.heap.size = some #[.slice A n c] := by rw [hw1]; exact row_alloc (row_alloc_at _ _ _ _ rfl) _
  have r0 : row w1 (w.heap.size + 1) = some (rcC .zero nilS nilS) := by rw [hw1, ← rc_lit0]; exact row_alloc_at _ _ _ _ (by simp)
  have hz1 : w1.heap.size = w.heap.size + 2 := by rw [hw1]; simp
  have HC := Lib.hid (attr_any 54 #[.pointer (some ⟨w.heap.size, 0, none⟩)] w1 (entr (fn := Tryz.f54) (by kernel_rfl) (by kernel_rfl) (by kernel_rfl)) (fsR f) (fsD n f)
    (fun W hb _ => first1_any w.heap.size n c A f W (carry hb rx) ((((hs.below bw).more bw.size).below hb).more hb.size) hn hc))
  have hmf : ∀ (fn : Fn) (first cap : Array Value) (w : World), (Instr.makeFunc fn first cap).run Tryz.prog w = .ok (.func fn first cap) w := fun _ _ _ _ => rfl
  have B1 := Lib.hid bw
  have RX := Lib.hid rx
  have R0 := Lib.hid r0
  have HT := Lib.hid (ht.below bw ht.pos)
  have HS := Lib.hid hs
  clear bw rx r0 ht hs
  go_enter Tryz.func28, Tryz.ntmps28
  go_upto_region 1 with fail
  simp only [← hw1]
  clear hw1
  go_wp2_with fail
  refine HC.out.mono ?_
  rintro e w2 ⟨hb, ⟨hk, v, rfl, hG⟩ | ⟨hk, E, hE, rfl⟩⟩
  · obtain ⟨A3, c3, A3', c3', rfl, he, hn3, hn3'⟩ := hG.ex
    obtain ⟨r, hr⟩ : ∃ r, r = fsR f := ⟨_, rfl⟩
    rw [← hr] at he hn3 hG ⊢
    have q0 := carry hb R0.out
    have HR := Lib.hid hr
    have hB2 := onto B1.out B1.out.size hb
    have hP2 : Put (w.heap.size + 1) (rcC r (.slice A3 r.e.T c3) (.slice A3' r.e.n c3')) w2 (w2.setRow (w.heap.size + 1) (rcC r (.slice A3 r.e.T c3) (.slice A3' r.e.n c3'))) := Put.of (Below.refl _ _) (row_lt q0) _
    obtain ⟨w3, hw3⟩ : ∃ w3, w3 = w2.setRow (w.heap.size + 1) (rcC r (.slice A3 r.e.T c3) (.slice A3' r.e.n c3')) := ⟨_, rfl⟩
    have q3 : row w3 (w.heap.size + 1) = some (rcC r (.slice A3 r.e.T c3) (.slice A3' r.e.n c3')) := by rw [hw3]; exact row_setRow q0 _
    rw [← hw3] at hP2
    have B3 := Lib.hid (show Below w.heap.size w w3 by rw [hw3]; exact below_setRow hB2 (by omega) _)
    have HG := Lib.hid (show RcN w1.heap.size w3 r (.agg (rcC r (.slice A3 r.e.T c3) (.slice A3' r.e.n c3'))) by rw [hw3]; exact hG.setRow (by omega) q0 _)
    have E3 := Lib.hid (show EnR w3 r.e A3 c3 A3' c3' from ⟨(hP2.sl he.d (Nat.le_refl _) (hn3 _ (by omega))).more hP2.size, (hP2.slG he.m (Nat.le_refl _) (fun a ha => by have := hn3' a ha; omega)).more hP2.size⟩)
    have S3 := Lib.hid ((HS.out.below B3.out).more B3.out.size)
    have HK := Lib.hid hk
    have hbd : r.k = 2 → EnB r.e := fun h2 => by rw [hr] at h2 ⊢; exact dc_bd hk.2 h2
    have rx3 : row w3 w.heap.size = some #[.slice A n c] := hP2.other (by omega) (carry hb RX.out)
    have HRX := Lib.hid rx3
    have hz3 : w1.heap.size ≤ w3.heap.size := by have := hP2.size; have := hb.size; omega
    have HPut := Lib.hid (put_rec r A3 A3' c3 c3' w3 (HT.out.below (B := w.heap.size + 1) ((hb.mono (by omega)).trans (hP2.low (Nat.le_refl _) (by have := hb.size; omega))) (by omega)) E3.out hbd)
    clear hb he hn3 hn3' hG hr hk hB2 hbd rx3 hP2 HC E3
    go_upto_region 4 with fail
    rw [← hw3]
    clear hw3 q0
    go_wp2_with fail
    refine HPut.out.mono ?_
    rintro e w4 (⟨hz, rfl, hb4⟩ | ⟨hz, v4, rfl, ho4, hb4⟩)
    · have B4 := Lib.hid (onto B3.out B3.out.size hb4)
      have HK2 := Lib.hid (show ¬ fsK n f from fun h => hz (by rw [HR.out]; exact h.2.1))
      have q4 := carry hb4 q3
      have hne : (((pcE r : Nat) : Int) != 0) = true := by simp; omega
      clear hz hb4 HPut q3
      go_wp2_with fail
      exact bodyPost_ret (v := .tuple #[.agg (rcC .zero nilS nilS), .int .i64 0, .bool false]) (res_ctt Tryz.results28 _ _ (w.heap.size + 1) _ _ rfl (row_setRow q4 _) Tryz.underlying29 rfl (by rw [rc_i, rc_size])) rfl ⟨below_setRow B4.out (by omega) _, .inr ⟨HK2.out, rfl⟩⟩
    · obtain ⟨A4, c4, hv4, hs4, -, -⟩ := ho4.sl
      subst hv4
      have B4 := Lib.hid (onto B3.out B3.out.size hb4)
      have q4 := carry hb4 q3
      have rx4 := carry hb4 HRX.out
      have S4 := Lib.hid hs4
      have HZ := Lib.hid hz
      have HG4 := Lib.hid (HG.out.below hb4)
      have k4 : w4.cell? ⟨w.heap.size, 0, none⟩ = some (.slice A n c) := by rw [cell_row rx4]; rfl
      have H5 := Lib.hid (prefix_any n c (pcL r) c4 A A4 f (pcF r) w4 ((S3.out.below hb4).more hb4.size) hs4)
      have hz4 := hb4.size
      obtain ⟨y, hy⟩ : ∃ y, y = pfB n (pcL r) f (pcF r) := ⟨_, rfl⟩
      rw [← hy] at H5
      have HY := Lib.hid hy
      clear hz hb4 HPut q3 ho4 hs4 rx4 hy
      go_wp2_with fail
      refine H5.out.mono ?_
      rintro e w5 ⟨rfl, hb5⟩
      have q5 := carry hb5 q4
      have B5 := Lib.hid (onto B4.out B4.out.size hb5)
      have HG5 := Lib.hid (HG4.out.below hb5)
      clear hb5 H5 q4
      cases y with
      | true =>
        have HK2 := Lib.hid (show fsK n f from ⟨HK.out, by rw [← HR.out]; exact HZ.out, by rw [← HR.out]; exact pf_iff.1 HY.out.symm⟩)
        go_wp2_with fail
        have hs5 : w5.setRow (w.heap.size + 1) (rcC r (.slice A3 r.e.T c3) (.slice A3' r.e.n c3')) = w5 := setRow_self q5
        rw [hs5]
        exact bodyPost_ret (v := .tuple #[.agg (rcC r (.slice A3 r.e.T c3) (.slice A3' r.e.n c3')), .int .i64 (pcL r : Nat), .bool true]) (res_ctt Tryz.results28 _ _ (w.heap.size + 1) _ _ rfl q5 Tryz.underlying29 rfl (by rw [rc_i, rc_size])) rfl ⟨B5.out, .inl ⟨HK2.out, _, by rw [← HR.out], by rw [← HR.out]; exact HG5.out.low (by omega)⟩⟩
      | false =>
        have HK2 := Lib.hid (show ¬ fsK n f from fun h => by
          have h3 := pf_iff.2 h.2.2
          rw [← HR.out, ← HY.out] at h3
          cases h3)
        go_wp2_with fail
        exact bodyPost_ret (v := .tuple #[.agg (rcC .zero nilS nilS), .int .i64 0, .bool false]) (res_ctt Tryz.results28 _ _ (w.heap.size + 1) _ _ rfl (row_setRow q5 _) Tryz.underlying29 rfl (by rw [rc_i, rc_size])) rfl ⟨below_setRow B5.out (by omega) _, .inr ⟨HK2.out, rfl⟩⟩
  · have HK2 := Lib.hid (show ¬ fsK n f from fun h => hk h.1)
    have q0 := carry hb R0.out
    have B2 := Lib.hid (onto B1.out B1.out.size hb)
    have hne : (E != 0) = true := by simp; omega
    have hs0 : w2.setRow (w.heap.size + 1) (rcC .zero (.slice none 0 0) (.slice none 0 0)) = w2 := setRow_self q0
    clear hb hk hE HC
    go_wp2_with fail
    exact bodyPost_ret (v := .tuple #[.agg (rcC .zero nilS nilS), .int .i64 0, .bool false]) (res_ctt Tryz.results28 _ _ (w.heap.size + 1) _ _ rfl q0 Tryz.underlying29 rfl (by rw [rc_i, rc_size])) rfl ⟨B2.out, .inr ⟨HK2.out, rfl⟩⟩
end Go.Proofs.YtdfcldomjjcidaaGreatDoor.Oct
