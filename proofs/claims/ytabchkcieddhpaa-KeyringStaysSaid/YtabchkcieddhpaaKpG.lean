/- Contracts of keyring's Destroy, Material, Use. -/
import Derived.Test.YtabchkcieddhpaaKpF
namespace Go.Proofs.Ytabchkcieddhpaa.Oct
open Go.ChangeShapes Go.WideShapes Go.ChangeAt Go.RowKit
set_option linter.unusedVariables false

theorem ent_ds : EntrK 30 := entrK Try.func30 (by kernel_rfl) (by kernel_rfl)
theorem ent_mt : EntrK 42 := entrK Try.func42 (by kernel_rfl) (by kernel_rfl)
theorem ent_us : EntrK 27 := entrK Try.func27 (by kernel_rfl) (by kernel_rfl)
/-- a version's number -/
theorem ver_numK {r : Rg} {v : Int} (h1 : 1 ≤ v) (h2 : v ≤ (r.l.length : Int)) : ∃ (k : Nat) (hk : k < r.l.length), v = (k : Int) + 1 ∧ veAt r v = r.l[k] ∧ ∀ x, putV r v x = ⟨r.off, r.l.set k x⟩ := by
  have e : (v - 1).toNat < r.l.length := by omega
  exact ⟨(v - 1).toNat, e, by omega, veAt_get _ e rfl, fun x => rfl⟩
/-- both numbers -/
theorem both_num {K : Ks} {id ver : Int} (h : hasV K id ver = true) : ∃ (i : Nat) (hi : i < K.length) (v : Nat) (hv : v < K[i].l.length), id = (i : Int) + 1 ∧ ver = (v : Int) + 1 ∧ rgAt K id = K[i] ∧ (∀ r, putR K id r = K.set i r) ∧ veAt K[i] ver = K[i].l[v] ∧ ∀ x, putV K[i] ver x = ⟨K[i].off, K[i].l.set v x⟩ := by
  obtain ⟨h1, h2, h3⟩ := hasV_iff.1 h
  obtain ⟨i, hi, e, hrg, hput⟩ := key_num (hasK_iff.2 h1)
  rw [hrg] at h3
  obtain ⟨v, hv, e2, hva, hpv⟩ := ver_numK h2 h3
  exact ⟨i, hi, v, hv, e, e2, hrg, hput, hva, hpv⟩
set_option maxRecDepth 20000 in
set_option maxHeartbeats 4000000 in
theorem pds_any (T : Mk) (t B : Nat) (K : Ks) (id ver : Int) (w : World) (h : KpAt T w t B K) :
    Calls Try.prog 15 #[.pointer (some ⟨B, 0, none⟩), .int .i64 id, .int .i64 ver] w fun e w' => e = .returned (.int .i64 (dsE K id ver)) ∧ ∃ T', KpAt T' w' t B (dsK K id ver) ∧ Fk T T' t w w' := by
  obtain ⟨c, hr, hc⟩ := h.at_
  have h8 := h.ok.1
  have hlt := row_lt hr
  have hcall : Calls Try.prog 29 #[.pointer (some ⟨B, 0, none⟩), .int .i64 id, .int .i64 ver, .func (.func 30) #[] #[]] w
      (Num fun E w' => E = dsE K id ver ∧ ∃ T', KpAt T' w' t B (dsK K id ver) ∧ Fk T T' t w w') := by
    cases hok : hasV K id ver
    · have hE : dsE K id ver = 130 := by unfold dsE; rw [hok]; rfl
      have hK : dsK K id ver = K := by unfold dsK; rw [hE]; rfl
      rw [hE, hK]
      exact (pav_no B c K id ver _ _ w hr hc h8 hok).mono fun e w' he => ⟨130, he.1, rfl, h.calm he.2⟩
    · obtain ⟨i, hi, v, hv, rfl, rfl, hrg, hput, hva, hpv⟩ := both_num hok
      have hky := hc.key i (by omega)
      rw [rgI_lt hi] at hky
      have hs : i * 138 + 138 ≤ c.size := by rw [hc.size]; omega
      have hf := hky.few
      have hm := Nat.mul_le_mul_right 34 (show v + 1 ≤ 4 by omega)
      refine pav_yes B c K i v _ #[] w _ hr hc hi (by omega) hv ent_ds fun w1 hb1 => ?_
      refine (pds1_any B (i * 138) (i * 138 + 1 + v * 34) K[i].l[v].g c w1 (carry hb1 hr) (hky.ldG hv) (by omega)).mono fun e w' he => ?_
      obtain ⟨rfl, rfl⟩ := he
      cases hg : K[i].l[v].g
      · have hE : dsE K ((i : Int) + 1) ((v : Int) + 1) = 0 := by unfold dsE; rw [if_pos hok, hrg, hva, hg]; rfl
        have hK : dsK K ((i : Int) + 1) ((v : Int) + 1) = K.set i ⟨K[i].off, K[i].l.set v ⟨fun _ => 0#8, K[i].l[v].u, true⟩⟩ := by unfold dsK; rw [if_pos hE, hput, hrg, hpv, hva]
        have hok2 : okK (dsK K ((i : Int) + 1) ((v : Int) + 1)) := dsK_ok h.ok
        rw [hE]
        rw [hK] at hok2 ⊢
        exact ⟨0, rfl, rfl, h.put hr (Put.of hb1 hlt _) (hc.end_ hi (by omega) hv) hok2⟩
      · have hE : dsE K ((i : Int) + 1) ((v : Int) + 1) = 132 := by unfold dsE; rw [if_pos hok, hrg, hva, hg]; rfl
        have hK : dsK K ((i : Int) + 1) ((v : Int) + 1) = K := by unfold dsK; rw [hE]; rfl
        rw [hE, hK]
        exact ⟨132, rfl, rfl, h.calm hb1⟩
  have HC := Lib.hid hcall
  clear hcall h hc hlt hr
  go_enter Try.func15, Try.ntmps15
  go_wp2_with fail
  refine HC.out.mono ?_
  rintro e w3 ⟨E, rfl, rfl, hT⟩
  have HT := Lib.hid hT
  clear hT
  go_wp2_with fail
  go_ret
  exact ⟨rfl, HT.out⟩
set_option maxRecDepth 20000 in
set_option maxHeartbeats 4000000 in
theorem pmt_any (T : Mk) (t B : Nat) (K : Ks) (id ver : Int) (w : World) (h : KpAt T w t B K) :
    Calls Try.prog 23 #[.pointer (some ⟨B, 0, none⟩), .int .i64 id, .int .i64 ver] w fun e w' => e = .returned (.tuple #[.agg (ba 32 (mtM K id ver)), .int .i64 (mtE K id ver)]) ∧ Below w.heap.size w w' := by
  obtain ⟨c, hr, hc⟩ := h.at_
  have h8 := h.ok.1
  obtain ⟨w1, hw1⟩ : ∃ w1, w1 = w.alloc (.cells (ba 32 fun _ => 0#8) 32) := ⟨_, rfl⟩
  obtain ⟨w2, hw2⟩ : ∃ w2, w2 = w1.alloc (.cells (ba 32 fun _ => 0#8) 32) := ⟨_, rfl⟩
  have b1 : Below w.heap.size w w1 := by rw [hw1]; exact (Below.refl w.heap.size w).alloc (by simp) _
  have b2 : Below w1.heap.size w1 w2 := by rw [hw2]; exact (Below.refl _ _).alloc (by simp) _
  have rR : row w2 w.heap.size = some (ba 32 fun _ => 0#8) := carry b2 (by rw [hw1]; exact row_alloc_at _ _ _ _ rfl)
  have hs1 : w1.heap.size = w.heap.size + 1 := by rw [hw1]; simp
  have rM : row w2 (w.heap.size + 1) = some (ba 32 fun _ => 0#8) := by rw [hw2, ← hs1]; exact row_alloc_at _ _ _ _ rfl
  have rb : row w2 B = some c := carry b2 (carry b1 hr)
  have b3 := onto b1 b1.size b2
  have hlt := row_lt hr
  obtain ⟨M, hM⟩ : ∃ M, M = w.heap.size + 1 := ⟨_, rfl⟩
  obtain ⟨R, hR⟩ : ∃ R, R = w.heap.size := ⟨_, rfl⟩
  rw [← hR] at rR
  rw [← hM] at rM
  have hMR : R ≠ M := by omega
  have hMs : w.heap.size ≤ M := by omega
  have hRs : w.heap.size ≤ R := by omega
  have hcall : Calls Try.prog 29 #[.pointer (some ⟨B, 0, none⟩), .int .i64 id, .int .i64 ver, .func (.func 42) #[] #[.pointer (some ⟨M, 0, none⟩)]] w2
      (Num fun E w' => E = mtE K id ver ∧ row w' R = some (ba 32 fun _ => 0#8) ∧ row w' M = some (ba 32 (mtM K id ver)) ∧ Below w.heap.size w w') := by
    cases hok : hasV K id ver
    · have hE : mtE K id ver = 130 := by unfold mtE; rw [hok]; rfl
      have hK : mtM K id ver = fun _ => 0#8 := by unfold mtM; rw [hE]; rfl
      rw [hE, hK]
      exact (pav_no B c K id ver _ _ w2 rb hc h8 hok).mono fun e w' he => ⟨130, he.1, rfl, carry he.2 rR, carry he.2 rM, onto b3 b3.size he.2⟩
    · obtain ⟨i, hi, v, hv, rfl, rfl, hrg, hput, hva, hpv⟩ := both_num hok
      have hky := hc.key i (by omega)
      rw [rgI_lt hi] at hky
      have hs : i * 138 + 138 ≤ c.size := by rw [hc.size]; omega
      refine pav_yes B c K i v _ #[.pointer (some ⟨M, 0, none⟩)] w2 _ rb hc hi (by omega) hv ent_mt fun w3 hb3 => ?_
      refine (pmt1_any B (i * 138) v M K[i] c _ w3 (carry hb3 rb) hky hv hs (carry hb3 rM)).mono fun e w' he => ?_
      obtain ⟨rfl, rfl⟩ := he
      have hE : mtE K ((i : Int) + 1) ((v : Int) + 1) = rfE K[i].off K[i].l[v].g := by unfold mtE rfE; rw [if_pos hok, hrg, hva]
      have b4 := onto b3 b3.size hb3
      by_cases h0 : rfE K[i].off K[i].l[v].g = 0
      · have hK : mtM K ((i : Int) + 1) ((v : Int) + 1) = K[i].l[v].m := by unfold mtM; rw [if_pos (hE.trans h0), hrg, hva]
        rw [hE, hK, if_pos h0]
        exact ⟨_, rfl, rfl, by rw [row_setRow_other _ _ _ _ hMR]; exact carry hb3 rR, row_setRow (carry hb3 rM) _, below_setRow b4 hMs _⟩
      · have hK : mtM K ((i : Int) + 1) ((v : Int) + 1) = fun _ => 0#8 := by unfold mtM; rw [if_neg (by rw [hE]; exact h0)]
        rw [hE, hK, if_neg h0]
        exact ⟨_, rfl, rfl, carry hb3 rR, carry hb3 rM, b4⟩
  have HC := Lib.hid hcall
  have HW1 := Lib.hid hw1
  have HW2 := Lib.hid hw2
  have HM := Lib.hid hM
  have HR := Lib.hid hR
  clear hcall h hc rR rM rb b1 b2 b3 hw1 hw2 hM hR hlt hr hs1
  go_enter Try.func23, Try.ntmps23
  go_wp2_with fail
  rw [← HW1.out, ← HW2.out, ← HM.out, ← HR.out]
  refine HC.out.mono ?_
  rintro e w3 ⟨E, rfl, rfl, rR, rM, hb⟩
  obtain ⟨x, hx⟩ : ∃ x, x = mtM K id ver := ⟨_, rfl⟩
  obtain ⟨y, hy⟩ : ∃ x, x = mtE K id ver := ⟨_, rfl⟩
  rw [← hx] at rM
  rw [← hy]
  have HX := Lib.hid hx
  have HY := Lib.hid hy
  have HB := Lib.hid hb
  clear hb hx hy
  go_wp2_with fail
  refine bodyPost_ret (v := .tuple #[.agg (ba 32 x), .int .i64 y]) (res_ctK (u := 7) rfl _ _ R _ _ rfl (row_setRow rR _) kk_u rfl (by rw [ba_size]; exact kk_i)) rfl ⟨by rw [HX.out, HY.out], below_setRow HB.out hRs _⟩
end Go.Proofs.Ytabchkcieddhpaa.Oct
