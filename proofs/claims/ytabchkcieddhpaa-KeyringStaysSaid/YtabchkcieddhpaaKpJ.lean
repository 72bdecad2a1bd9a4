/- Contracts of keyring's isVersion, isRing, all, and of slices.IndexFunc, ContainsFunc with them. -/
import Derived.Test.YtabchkcieddhpaaKpI
import Derived.Test.YtabchkcieddhpaaKrJ
namespace Go.Proofs.Ytabchkcieddhpaa.Oct
open Go.ChangeShapes Go.WideShapes Go.ChangeAt Go.RowKit
set_option linter.unusedVariables false

set_option maxRecDepth 20000 in
theorem pisv_any (v : Ve) (w : World) : Calls Try.prog 48 #[.agg (veA v)] w fun e w' => e = .returned (.bool (vB v)) ∧ Below w.heap.size w w' := by
  have hb : ∀ z, Below w.heap.size w (w.alloc z) := fun z => (Below.refl w.heap.size w).alloc (by simp) z
  have HB := Lib.hid hb
  have hV : vB v = (decide (0 ≤ v.u) && decide (v.u ≤ 16) && !(v.g && !eqB 32 v.m (fun _ => 0#8))) := rfl
  clear hb
  cases hg : v.g <;> cases hz : eqB 32 v.m (fun _ => 0#8) <;> cases hu1 : decide (0 ≤ v.u) <;> cases hu2 : decide (v.u ≤ 16) <;> rw [hg, hz, hu1, hu2] at hV <;> rw [hV] <;> clear hV <;>
  · go_enter Try.func48, Try.ntmps48
    go_wp2_with fail
    go_ret
    exact ⟨rfl, HB.out _⟩
theorem ent_isv : EntrK 48 := entrK Try.func48 (by kernel_rfl) (by kernel_rfl)
set_option maxRecDepth 20000 in
theorem palv1_any (v : Ve) (F : Nat) (w : World) (hF : row w F = some #[.func (.func 48) #[] #[]]) :
    Calls Try.prog 51 #[.agg (veA v), .pointer (some ⟨F, 0, none⟩)] w fun e w' => e = .returned (.bool (!vB v)) ∧ Below w.heap.size w w' := by
  obtain ⟨w1, hw1⟩ : ∃ w1, w1 = w.alloc (.cells (veA v) 50) := ⟨_, rfl⟩
  have b1 : Below w.heap.size w w1 := by rw [hw1]; exact (Below.refl w.heap.size w).alloc (by simp) _
  have r1 : row w1 w.heap.size = some (veA v) := by rw [hw1]; exact row_alloc_at _ _ _ _ rfl
  have rF : w1.cell? ⟨F, 0, none⟩ = some (.func (.func 48) #[] #[]) := by rw [cell_row (carry b1 hF)]; rfl
  have HW1 := Lib.hid hw1
  have B1 := Lib.hid b1
  rw [hw1] at rF r1
  clear hw1 b1 hF
  go_enter Try.func51, Try.ntmps51
  go_wp2_with fail
  rw [← HW1.out]
  refine (pisv_any v w1).mono ?_
  rintro e w2 ⟨rfl, hb⟩
  have HB := Lib.hid (onto B1.out B1.out.size hb)
  obtain ⟨b, hbv⟩ : ∃ b, b = vB v := ⟨_, rfl⟩
  rw [← hbv]
  have HV := Lib.hid hbv
  clear hb hbv
  go_wp2_with fail
  go_ret
  rw [HV.out]
  exact ⟨rfl, HB.out⟩
theorem all_no {l : List Ve} (k : Nat) (hk : k < l.length) (h : vB l[k] = false) : l.all vB = false := by
  cases hq : l.all vB
  · rfl
  · have := List.all_eq_true.1 hq _ (List.getElem_mem hk)
    rw [h] at this; cases this
theorem all_yes {l : List Ve} (h : ∀ j (hj : j < l.length), vB l[j] = true) : l.all vB = true := List.all_eq_true.2 fun v hv => by
  obtain ⟨i, hi, rfl⟩ := List.mem_iff_getElem.1 hv
  exact h i hi
theorem allR_no {l : Ks} (k : Nat) (hk : k < l.length) (h : rB l[k] = false) : l.all rB = false := by
  cases hq : l.all rB
  · rfl
  · have := List.all_eq_true.1 hq _ (List.getElem_mem hk)
    rw [h] at this; cases this
theorem allR_yes {l : Ks} (h : ∀ j (hj : j < l.length), rB l[j] = true) : l.all rB = true := List.all_eq_true.2 fun v hv => by
  obtain ⟨i, hi, rfl⟩ := List.mem_iff_getElem.1 hv
  exact h i hi
set_option maxRecDepth 20000 in
set_option maxHeartbeats 4000000 in
theorem pixv_any (l : List Ve) (s : Value) (F : Nat) (w : World) (hs : VRd w s l) (hl : l.length ≤ 1000000) (hF : row w F = some #[.func (.func 48) #[] #[]]) :
    Calls Try.prog 52 #[s, .func (.func 51) #[] #[.pointer (some ⟨F, 0, none⟩)]] w fun e w' => ∃ r : Int, e = .returned (.int .i64 r) ∧ ((l.all vB = true ∧ r = -1) ∨ (l.all vB = false ∧ 0 ≤ r)) ∧ Below w.heap.size w w' := by
  obtain ⟨A, c, rfl, hle, hmx, hnil, hat⟩ := hs.at_
  have HAT := Lib.hid hat
  have HF := Lib.hid hF
  obtain ⟨n, hn⟩ : ∃ n, n = l.length := ⟨_, rfl⟩
  have HN := Lib.hid hn
  rw [← hn] at hle hl ⊢
  clear hs hat hnil hF hn
  go_enter Try.func52, Try.ntmps52
  go_wp2_with fail
  go_loopw [8] (fun iv wr => ∃ i : Nat, i ≤ n ∧ iv = .int .i64 i ∧ Below w.heap.size w wr ∧ ∀ j (hj : j < l.length), j < i → vB l[j] = true) (fun iv _ => n - (intOf iv).toNat)
  case atStart => exact ⟨0, by omega, rfl, Below.refl _ _, fun j _ hj => absurd hj (by omega)⟩
  case round =>
    obtain ⟨k, hk, rfl, hb, hall⟩ := hrel
    obtain ⟨w1, rfl⟩ : ∃ w1 : World, w1 = wr := ⟨_, rfl⟩
    have HB := Lib.hid hb
    have HALL := Lib.hid hall
    clear hb hall
    by_cases hlk : k < n
    · have hkl : k < l.length := by have := HN.out; omega
      obtain ⟨g2, o2, rfl, hg2, hc2⟩ := HAT.out (by omega)
      obtain ⟨x, hx⟩ : ∃ x, x = l[k] := ⟨_, rfl⟩
      have q2 : ldR Try.prog 50 34 w1 g2 (o2 + k * 34) (row w1 g2) = .ok (.agg (veA x)) w1 := ver_cells w1 g2 (o2 + k * 34) x fun j hj => by
        rw [hx, ← hc2 k j hkl hj]; exact HB.out.cell (p := ⟨g2, o2 + k * 34 + j, none⟩) hg2
      have HX := Lib.hid hx
      have HC := Lib.hid (palv1_any x F w1 (carry HB.out HF.out))
      obtain ⟨b, hbv⟩ : ∃ b, b = vB x := ⟨_, rfl⟩
      rw [← hbv] at HC
      have HV := Lib.hid hbv
      clear hc2 hx hbv
      go_wp2_with fail
      refine HC.out.mono ?_
      rintro e w2 ⟨rfl, hb2⟩
      have B2 := Lib.hid (onto HB.out HB.out.size hb2)
      clear HC hb2 q2
      cases b with
      | true =>
        go_wp2_with fail
        go_roundw
        case rel => exact ⟨k + 1, by omega, by go_num, B2.out, fun j hj hjk => by
          by_cases hjk2 : j < k
          · exact HALL.out j hj hjk2
          · obtain rfl : j = k := by omega
            rw [← HX.out]; exact HV.out.symm⟩
        case measure => simp [intOf]; omega
      | false =>
        have HE := Lib.hid (all_no k hkl (by rw [← HX.out]; exact HV.out.symm))
        go_wp2_with fail
        go_ret
        exact ⟨_, rfl, .inr ⟨HE.out, by omega⟩, B2.out⟩
    · obtain rfl : k = n := by omega
      have HE := Lib.hid (all_yes (l := l) fun j hj => HALL.out j hj (by have := HN.out; omega))
      have hd : decide ((k : Int) < (k : Int)) = false := by simp
      go_wp2_with fail
      go_ret
      exact ⟨_, rfl, .inl ⟨HE.out, rfl⟩, HB.out⟩
set_option maxRecDepth 20000 in
theorem pctv_any (l : List Ve) (s : Value) (F : Nat) (w : World) (hs : VRd w s l) (hl : l.length ≤ 1000000) (hF : row w F = some #[.func (.func 48) #[] #[]]) :
    Calls Try.prog 50 #[s, .func (.func 51) #[] #[.pointer (some ⟨F, 0, none⟩)]] w fun e w' => e = .returned (.bool (!(l.all vB))) ∧ Below w.heap.size w w' := by
  have H1 := Lib.hid (pixv_any l s F w hs hl hF)
  obtain ⟨A, c, rfl, -⟩ := hs.at_
  obtain ⟨b, hb⟩ : ∃ b, b = l.all vB := ⟨_, rfl⟩
  rw [← hb] at H1 ⊢
  clear hs hF hb
  go_enter Try.func50, Try.ntmps50
  go_wp2_with fail
  refine H1.out.mono ?_
  rintro e w1 ⟨r, rfl, h, hb1⟩
  have B1 := Lib.hid hb1
  clear H1 hb1
  rcases h with ⟨rfl, rfl⟩ | ⟨rfl, h2⟩
  · go_wp2_with fail
    go_ret
    exact ⟨rfl, B1.out⟩
  · have hd : decide (0 ≤ r) = true := by simp; omega
    clear h2
    go_wp2_with fail
    go_ret
    exact ⟨rfl, B1.out⟩
set_option maxRecDepth 20000 in
theorem palv_any (l : List Ve) (s : Value) (w : World) (hs : VRd w s l) (hl : l.length ≤ 1000000) :
    Calls Try.prog 47 #[s, .func (.func 48) #[] #[]] w fun e w' => e = .returned (.bool (l.all vB)) ∧ Below w.heap.size w w' := by
  obtain ⟨w1, hw1⟩ : ∃ w1, w1 = w.alloc (.cells #[.func (.func 48) #[] #[]] 85) := ⟨_, rfl⟩
  have b1 : Below w.heap.size w w1 := by rw [hw1]; exact (Below.refl w.heap.size w).alloc (by simp) _
  have r1 : row w1 w.heap.size = some #[.func (.func 48) #[] #[]] := by rw [hw1]; exact row_alloc_at _ _ _ _ rfl
  have H1 := Lib.hid (pctv_any l s w.heap.size w1 (hs.below b1) hl r1)
  obtain ⟨A, c, rfl, -⟩ := hs.at_
  obtain ⟨b, hb⟩ : ∃ b, b = l.all vB := ⟨_, rfl⟩
  rw [← hb] at H1 ⊢
  have HW1 := Lib.hid hw1
  have B1 := Lib.hid b1
  clear hs hb hw1 b1 r1
  go_enter Try.func47, Try.ntmps47
  go_wp2_with fail
  rw [← HW1.out]
  refine H1.out.mono ?_
  rintro e w2 ⟨rfl, hb2⟩
  have B2 := Lib.hid (onto B1.out B1.out.size hb2)
  clear hb2 H1
  go_wp2_with fail
  go_ret
  exact ⟨by simp, B2.out⟩
set_option maxRecDepth 20000 in
theorem pisr_any (o : Bool) (l : List Ve) (A : Option Addr) (c : Nat) (w : World) (hs : VRd w (.slice A l.length c) l) (hl : l.length ≤ 1000000) :
    Calls Try.prog 40 #[.agg (rgA o (.slice A l.length c))] w fun e w' => e = .returned (.bool (rB ⟨o, l⟩)) ∧ Below w.heap.size w w' := by
  obtain ⟨w1, hw1⟩ : ∃ w1, w1 = w.alloc (.cells (rgA o (.slice A l.length c)) 48) := ⟨_, rfl⟩
  have b1 : Below w.heap.size w w1 := by rw [hw1]; exact (Below.refl w.heap.size w).alloc (by simp) _
  have r1 : row w1 w.heap.size = some (rgA o (.slice A l.length c)) := by rw [hw1]; exact row_alloc_at _ _ _ _ rfl
  have c1 : w1.cell? ⟨w.heap.size, 1, none⟩ = some (.slice A l.length c) := rgA_c1 r1
  have H1 := Lib.hid (palv_any l _ w1 (hs.below b1) hl)
  have hV : rB ⟨o, l⟩ = (decide (1 ≤ l.length) && decide (l.length ≤ 4) && l.all vB) := rfl
  obtain ⟨b, hb⟩ : ∃ b, b = l.all vB := ⟨_, rfl⟩
  rw [hV]
  rw [← hb] at H1 ⊢
  obtain ⟨n, hn⟩ : ∃ n, n = l.length := ⟨_, rfl⟩
  rw [← hn] at H1 hw1 c1 hl ⊢
  have HW1 := Lib.hid hw1
  have B1 := Lib.hid b1
  rw [hw1] at c1
  clear hV hs hb hw1 b1 r1 hn
  by_cases h1 : 1 ≤ n
  · have d1 : decide ((1 : Int) ≤ (n : Int)) = true := by simp; omega
    have e1 : decide (1 ≤ n) = true := by simpa using h1
    by_cases h4 : n ≤ 4
    · have d4 : decide ((n : Int) ≤ 4) = true := by simp; omega
      have e4 : decide (n ≤ 4) = true := by simpa using h4
      rw [e1, e4]
      go_enter Try.func40, Try.ntmps40
      go_wp2_with fail
      rw [← HW1.out]
      refine H1.out.mono ?_
      rintro e w2 ⟨rfl, hb2⟩
      have B2 := Lib.hid (onto B1.out B1.out.size hb2)
      clear hb2 H1
      go_wp2_with fail
      go_ret
      exact ⟨by simp, B2.out⟩
    · have d4 : decide ((n : Int) ≤ 4) = false := by simp; omega
      have e4 : decide (n ≤ 4) = false := by simpa using h4
      rw [e1, e4]
      go_enter Try.func40, Try.ntmps40
      go_wp2_with fail
      rw [← HW1.out]
      go_ret
      exact ⟨rfl, B1.out⟩
  · have d1 : decide ((1 : Int) ≤ (n : Int)) = false := by simp; omega
    have e1 : decide (1 ≤ n) = false := by simpa using h1
    rw [e1]
    go_enter Try.func40, Try.ntmps40
    go_wp2_with fail
    rw [← HW1.out]
    go_ret
    exact ⟨rfl, B1.out⟩
end Go.Proofs.Ytabchkcieddhpaa.Oct
