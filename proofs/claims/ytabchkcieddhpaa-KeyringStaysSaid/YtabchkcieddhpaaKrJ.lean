/- Contract of the reference's Of. -/
import Derived.Test.YtabchkcieddhpaaKrI
namespace Go.Proofs.Ytabchkcieddhpaa.Oct
open Go.ChangeShapes Go.WideShapes Go.ChangeAt Go.RowKit
set_option linter.unusedVariables false

/-- may it stand in a keyring? -/
def vB (v : Ve) : Bool := decide (0 ≤ v.u) && decide (v.u ≤ 16) && !(v.g && !eqB 32 v.m (fun _ => 0#8))
def rB (r : Rg) : Bool := decide (1 ≤ r.l.length) && decide (r.l.length ≤ 4) && r.l.all vB
def ofB (K : Ks) : Bool := decide (K.length ≤ 8) && K.all rB
def ofE (K : Ks) : Int := if ofB K = true then 0 else 1
theorem vB_iff {v : Ve} : vB v = true ↔ okV v := by
  unfold vB okV
  simp only [Bool.and_eq_true, decide_eq_true_eq, Bool.not_eq_true', Bool.and_eq_false_iff, Bool.not_eq_false', eqB_iff]
  constructor
  · rintro ⟨h1, h2⟩
    refine ⟨h1, fun hg i hi => ?_⟩
    rcases h2 with h2 | h2
    · rw [h2] at hg; cases hg
    · exact h2 i hi
  · rintro ⟨h1, h2⟩
    refine ⟨h1, ?_⟩
    cases hg : v.g
    · exact .inl rfl
    · exact .inr (h2 hg)
theorem rB_iff {r : Rg} : rB r = true ↔ okR r := by
  unfold rB okR
  simp only [Bool.and_eq_true, decide_eq_true_eq, List.all_eq_true, vB_iff]
theorem ofB_iff {K : Ks} : ofB K = true ↔ okK K := by
  unfold ofB okK
  simp only [Bool.and_eq_true, decide_eq_true_eq, List.all_eq_true, rB_iff]
theorem ofB_no_ring {K : Ks} (i : Nat) (hi : i < K.length) (h : rB K[i] = false) : ofB K = false := by
  cases hq : ofB K
  · rfl
  · have := (ofB_iff.1 hq).2 _ (List.getElem_mem hi)
    rw [rB_iff.2 this] at h; cases h
theorem rB_no_ver {r : Rg} (k : Nat) (hk : k < r.l.length) (h : vB r.l[k] = false) : rB r = false := by
  cases hq : rB r
  · rfl
  · have := (rB_iff.1 hq).2 _ (List.getElem_mem hk)
    rw [vB_iff.2 this] at h; cases h

set_option maxRecDepth 20000 in
set_option maxHeartbeats 4000000 in
theorem rof_any (K : Ks) (v : Value) (w : World) (h : RRd w v K) (hK : K.length ≤ 1000) (hV : ∀ r ∈ K, r.l.length ≤ 1000) :
    Calls Try.prog 22 #[v] w fun e w' => ∃ q, e = .returned (.tuple #[.pointer q, .int .i64 (ofE K)]) ∧ Below w.heap.size w w' := by
  have hh := h
  obtain ⟨A, c, rfl, hle, hmx, hat⟩ := h.at_
  have HAT := Lib.hid hat
  have HV := Lib.hid hV
  have HH := Lib.hid hh
  have hno : ofB K = false → ∀ (tm : Array Value), tm.getD 2 undef = .pointer none → tm.getD 3 undef = .int .i64 1 → ∀ w2 : World, Below w.heap.size w w2 →
      bodyPost Try.prog Try.f22 (fun e w' => ∃ q, e = .returned (.tuple #[.pointer q, .int .i64 (ofE K)]) ∧ Below w.heap.size w w') .ret { tmps := tm, defers := [] } w2 := by
    intro h0 tm e2 e3 w2 hb
    refine bodyPost_ret (v := .tuple #[.pointer none, .int .i64 1]) ?_ rfl ⟨none, by unfold ofE; rw [h0]; rfl, hb⟩
    have e2' : tm[2]?.getD undef = .pointer none := by simpa using e2
    have e3' : tm[3]?.getD undef = .int .i64 1 := by simpa using e3
    simp [results, Try.results22, e2', e3']
  have HNO := Lib.hid hno
  obtain ⟨n, hn⟩ : ∃ n, n = K.length := ⟨_, rfl⟩
  have HN := Lib.hid hn
  rw [← hn] at hle hK ⊢
  clear h hh hat hV hn hno
  by_cases h8 : 8 < n
  · have hd : decide ((8 : Int) < (n : Int)) = true := by simp; omega
    have hb0 : ofB K = false := by
      cases hq : ofB K
      · rfl
      · have := (ofB_iff.1 hq).1; have := HN.out; omega
    go_enter Try.func22, Try.ntmps22
    go_wp2_with fail
    exact HNO.out hb0 _ rfl rfl _ (Below.refl _ _)
  have hd : decide ((8 : Int) < (n : Int)) = false := by simp; omega
  go_enter Try.func22, Try.ntmps22
  go_wp2_with fail
  clear hd
  go_loopw [4] (fun iv wr => ∃ i : Nat, i ≤ n ∧ iv = .int .i64 i ∧ Below w.heap.size w wr ∧ ∀ j (hj : j < K.length), j < i → rB K[j] = true) (fun iv _ => n - (intOf iv).toNat)
  case atStart => exact ⟨0, by omega, rfl, Below.refl _ _, fun j _ hj => absurd hj (by omega)⟩
  case round =>
    obtain ⟨i, hi, rfl, hb, hall⟩ := hrel
    obtain ⟨w1, rfl⟩ : ∃ w1 : World, w1 = wr := ⟨_, rfl⟩
    have HB := Lib.hid hb
    have HALL := Lib.hid hall
    clear hall
    by_cases hlt : i < n
    · have hiK : i < K.length := by have := HN.out; omega
      obtain ⟨g, o, rfl, hg, hc⟩ := HAT.out (by omega)
      obtain ⟨h0, vi, h1, h2⟩ := hc i hiK
      obtain ⟨A2, c2, rfl, hle2, -, -, hat2⟩ := h2.at_
      have hr1 := HV.out K[i] (List.getElem_mem _)
      obtain ⟨r, hr⟩ : ∃ r, r = K[i] := ⟨_, rfl⟩
      rw [← hr] at h1 h2 hle2 hat2 hr1
      obtain ⟨L, hL⟩ : ∃ L, L = r.l.length := ⟨_, rfl⟩
      rw [← hL] at h1 hle2 hr1
      have HL := Lib.hid hL
      have HR := Lib.hid hr
      have H1 := Lib.hid h1
      have HAT2 := Lib.hid hat2
      have y1 := (HB.out.cell (p := ⟨g, o + i * 2 + 1, none⟩) hg).trans h1
      clear hc hr h0 h1 h2 hat2 hL hb
      by_cases hL1 : L < 1
      · have hd1 : decide ((L : Int) < 1) = true := by simp; omega
        have hbr : ofB K = false := ofB_no_ring i hiK (by rw [← HR.out]; unfold rB; rw [show decide (1 ≤ r.l.length) = false from decide_eq_false (by have := HL.out; omega)]; rfl)
        go_wp2_with fail
        exact HNO.out hbr _ rfl rfl _ HB.out
      have hd1 : decide ((L : Int) < 1) = false := by simp; omega
      by_cases hL4 : 4 < L
      · have hd4 : decide ((4 : Int) < (L : Int)) = true := by simp; omega
        have hbr : ofB K = false := ofB_no_ring i hiK (by rw [← HR.out]; unfold rB; rw [show decide (r.l.length ≤ 4) = false from decide_eq_false (by have := HL.out; omega)]; simp)
        go_wp2_with fail
        exact HNO.out hbr _ rfl rfl _ HB.out
      have hd4 : decide ((4 : Int) < (L : Int)) = false := by simp; omega
      go_wp2_with fail
      clear hd1 hd4 y1
      go_loopw [5] (fun kv wr => ∃ k : Nat, k ≤ L ∧ kv = .int .i64 k ∧ Below w.heap.size w wr ∧ ∀ j (hj : j < r.l.length), j < k → vB r.l[j] = true) (fun kv _ => L - (intOf kv).toNat)
      case atStart => exact ⟨0, by omega, rfl, HB.out, fun j _ hj => absurd hj (by omega)⟩
      case round =>
        clear HB
        obtain ⟨k, hk, rfl, hb, hallv⟩ := hrel
        obtain ⟨w3, rfl⟩ : ∃ w3 : World, w3 = wr := ⟨_, rfl⟩
        have HB := Lib.hid hb
        have HALLV := Lib.hid hallv
        have y1 := (HB.out.cell (p := ⟨g, o + i * 2 + 1, none⟩) hg).trans H1.out
        clear hb hallv
        by_cases hlk : k < L
        · have hkl : k < r.l.length := by have := HL.out; omega
          obtain ⟨g2, o2, rfl, hg2, hc2⟩ := HAT2.out (by omega)
          obtain ⟨x, hx⟩ : ∃ x, x = r.l[k] := ⟨_, rfl⟩
          have q2 : ldR Try.prog 50 34 w3 g2 (o2 + k * 34) (row w3 g2) = .ok (.agg (veA x)) w3 := ver_cells w3 g2 (o2 + k * 34) x fun j hj => by
            rw [hx, ← hc2 k j hkl hj]; exact HB.out.cell (p := ⟨g2, o2 + k * 34 + j, none⟩) hg2
          have HX := Lib.hid hx
          have B4 := Lib.hid (HB.out.alloc HB.out.size (.cells (veA x) 50))
          have hbad : vB x = false → ofB K = false := fun h => ofB_no_ring i hiK (by rw [← HR.out]; exact rB_no_ver k hkl (by rw [← HX.out]; exact h))
          clear hc2 hx
          cases hu1 : decide (x.u < 0)
          · cases hu2 : decide ((16 : Int) < x.u)
            · cases hgn : x.g
              · have hvx : vB x = true := by unfold vB; rw [hgn]; simp at hu1 hu2 ⊢; omega
                have HVX := Lib.hid hvx
                clear hbad hvx
                go_wp2_with fail
                go_roundw
                case rel => exact ⟨k + 1, by omega, by go_num, B4.out, fun j hj hjk => by
                  by_cases hjk2 : j < k
                  · exact HALLV.out j hj hjk2
                  · obtain rfl : j = k := by omega
                    rw [← HX.out]; exact HVX.out⟩
                case measure => simp [intOf]; omega
              · cases hz : eqB 32 x.m (fun _ => 0#8)
                · have hno := hbad (by unfold vB; rw [hgn, hz]; simp)
                  clear hbad
                  go_wp2_with fail
                  exact HNO.out hno _ rfl rfl _ B4.out
                · have hvx : vB x = true := by unfold vB; rw [hgn, hz]; simp at hu1 hu2 ⊢; omega
                  have HVX := Lib.hid hvx
                  clear hbad hvx
                  go_wp2_with fail
                  go_roundw
                  case rel => exact ⟨k + 1, by omega, by go_num, B4.out, fun j hj hjk => by
                    by_cases hjk2 : j < k
                    · exact HALLV.out j hj hjk2
                    · obtain rfl : j = k := by omega
                      rw [← HX.out]; exact HVX.out⟩
                  case measure => simp [intOf]; omega
            · have hno := hbad (by unfold vB; simp at hu2; rw [show decide (x.u ≤ 16) = false by simp; omega]; simp)
              clear hbad
              go_wp2_with fail
              exact HNO.out hno _ rfl rfl _ B4.out
          · have hno := hbad (by unfold vB; simp at hu1; rw [show decide (0 ≤ x.u) = false by simp; omega]; simp)
            clear hbad
            go_wp2_with fail
            exact HNO.out hno _ rfl rfl _ B4.out
        · obtain rfl : k = L := by omega
          have hrb : rB r = true := rB_iff.2 ⟨⟨by have := HL.out; omega, by have := HL.out; omega⟩, fun v hv => by
            obtain ⟨j, hj, rfl⟩ := List.getElem_of_mem hv
            exact vB_iff.1 (HALLV.out j hj (by have := HL.out; omega))⟩
          have HRB := Lib.hid hrb
          clear hrb
          go_wp2_with fail
          go_roundw
          case rel => exact ⟨i + 1, by omega, by go_num, HB.out, fun j hj hji => by
            by_cases hji2 : j < i
            · exact HALL.out j hj hji2
            · obtain rfl : j = i := by omega
              rw [← HR.out]; exact HRB.out⟩
          case measure => simp [intOf]; omega
    · obtain rfl : i = n := by omega
      have hyes : ofB K = true := ofB_iff.2 ⟨by have := HN.out; omega, fun r hr => by
        obtain ⟨j, hj, rfl⟩ := List.getElem_of_mem hr
        exact rB_iff.1 (HALL.out j hj (by have := HN.out; omega))⟩
      have HY := Lib.hid hyes
      clear hyes
      go_wp2_with fail
      have hcp := rcopy_any (fun _ => 0) 1 K (.slice A i c) w1 (by have := HH.out.below HB.out; rw [← HN.out] at this; exact this) (by have := HN.out; omega) HV.out (fun k _ => by decide)
      refine hcp.mono ?_
      rintro e w5 ⟨v5, T5, rfl, hrs5, -, -, hb5⟩
      obtain ⟨A5, c5, rfl, -⟩ := hrs5.form
      have B5 := Lib.hid (onto HB.out HB.out.size hb5)
      have B6 := Lib.hid (B5.out.alloc B5.out.size (.cells #[.slice A5 K.length c5] 29))
      have hE : ofE K = 0 := by unfold ofE; rw [if_pos HY.out]
      clear hcp hb5 hrs5
      go_wp2_with fail
      exact bodyPost_ret (v := .tuple #[.pointer (some ⟨w5.heap.size, 0, none⟩), .int .i64 0]) (by simp [results, Try.results22, go_sem]) rfl ⟨_, by rw [hE], B6.out⟩
end Go.Proofs.Ytabchkcieddhpaa.Oct
