/- Contracts: slices.IndexFunc, ContainsFunc with isRing; keyring's all of rings, and Of. -/
import Derived.Test.YtabchkcieddhpaaKpK
namespace Go.Proofs.Ytabchkcieddhpaa.Oct
open Go.ChangeShapes Go.WideShapes Go.ChangeAt Go.RowKit
set_option linter.unusedVariables false

theorem ent_isr : EntrK 40 := entrK Try.func40 (by kernel_rfl) (by kernel_rfl)
set_option maxRecDepth 20000 in
theorem palr1_any (o : Bool) (l : List Ve) (A : Option Addr) (c F : Nat) (w : World) (hs : VRd w (.slice A l.length c) l) (hl : l.length ≤ 1000000) (hF : row w F = some #[.func (.func 40) #[] #[]]) :
    Calls Try.prog 46 #[.agg (rgA o (.slice A l.length c)), .pointer (some ⟨F, 0, none⟩)] w fun e w' => e = .returned (.bool (!rB ⟨o, l⟩)) ∧ Below w.heap.size w w' := by
  obtain ⟨w1, hw1⟩ : ∃ w1, w1 = w.alloc (.cells (rgA o (.slice A l.length c)) 48) := ⟨_, rfl⟩
  have b1 : Below w.heap.size w w1 := by rw [hw1]; exact (Below.refl w.heap.size w).alloc (by simp) _
  have r1 : row w1 w.heap.size = some (rgA o (.slice A l.length c)) := by rw [hw1]; exact row_alloc_at _ _ _ _ rfl
  have rF : w1.cell? ⟨F, 0, none⟩ = some (.func (.func 40) #[] #[]) := by rw [cell_row (carry b1 hF)]; rfl
  have H1 := Lib.hid (pisr_any o l A c w1 (hs.below b1) hl)
  obtain ⟨b, hb⟩ : ∃ b, b = rB ⟨o, l⟩ := ⟨_, rfl⟩
  rw [← hb] at H1 ⊢
  have HW1 := Lib.hid hw1
  have B1 := Lib.hid b1
  rw [hw1] at rF r1
  clear hw1 b1 hF hs hb
  go_enter Try.func46, Try.ntmps46
  go_wp2_with fail
  rw [← HW1.out]
  refine H1.out.mono ?_
  rintro e w2 ⟨rfl, hb⟩
  have HB := Lib.hid (onto B1.out B1.out.size hb)
  clear hb H1
  go_wp2_with fail
  go_ret
  exact ⟨rfl, HB.out⟩
theorem palr2_any (r : Rg) (A : Option Addr) (c F : Nat) (w : World) (hs : VRd w (.slice A r.l.length c) r.l) (hl : r.l.length ≤ 1000000) (hF : row w F = some #[.func (.func 40) #[] #[]]) :
    Calls Try.prog 46 #[.agg (rgA r.off (.slice A r.l.length c)), .pointer (some ⟨F, 0, none⟩)] w fun e w' => e = .returned (.bool (!rB r)) ∧ Below w.heap.size w w' := by
  obtain ⟨o, l⟩ := r
  exact palr1_any o l A c F w hs hl hF
set_option maxRecDepth 20000 in
set_option maxHeartbeats 4000000 in
theorem pixr_any (K : Ks) (s : Value) (F : Nat) (w : World) (hs : RRd w s K) (hK : K.length ≤ 1000000) (hV : ∀ r ∈ K, r.l.length ≤ 1000) (hF : row w F = some #[.func (.func 40) #[] #[]]) :
    Calls Try.prog 49 #[s, .func (.func 46) #[] #[.pointer (some ⟨F, 0, none⟩)]] w fun e w' => ∃ r : Int, e = .returned (.int .i64 r) ∧ ((K.all rB = true ∧ r = -1) ∨ (K.all rB = false ∧ 0 ≤ r)) ∧ Below w.heap.size w w' := by
  obtain ⟨A, c, rfl, hle, hmx, hat⟩ := hs.at_
  have HAT := Lib.hid hat
  have HF := Lib.hid hF
  have HVV := Lib.hid hV
  obtain ⟨n, hn⟩ : ∃ n, n = K.length := ⟨_, rfl⟩
  have HN := Lib.hid hn
  rw [← hn] at hle hK ⊢
  clear hs hat hF hn hV
  go_enter Try.func49, Try.ntmps49
  go_wp2_with fail
  go_loopw [8] (fun iv wr => ∃ i : Nat, i ≤ n ∧ iv = .int .i64 i ∧ Below w.heap.size w wr ∧ ∀ j (hj : j < K.length), j < i → rB K[j] = true) (fun iv _ => n - (intOf iv).toNat)
  case atStart => exact ⟨0, by omega, rfl, Below.refl _ _, fun j _ hj => absurd hj (by omega)⟩
  case round =>
    obtain ⟨k, hk, rfl, hb, hall⟩ := hrel
    obtain ⟨w1, rfl⟩ : ∃ w1 : World, w1 = wr := ⟨_, rfl⟩
    have HB := Lib.hid hb
    have HALL := Lib.hid hall
    clear hb hall
    by_cases hlk : k < n
    · have hkl : k < K.length := by have := HN.out; omega
      obtain ⟨g, o, rfl, hg, hc⟩ := HAT.out (by omega)
      obtain ⟨h0, vi, h1, h2⟩ := hc k hkl
      have hr1 := HVV.out _ (List.getElem_mem hkl)
      obtain ⟨r, hx⟩ : ∃ r, r = K[k] := ⟨_, rfl⟩
      rw [← hx] at h0 h2 hr1
      obtain ⟨A2, c2, rfl, -⟩ := h2.at_
      have q2 : ldR Try.prog 48 2 w1 g (o + k * 2) (row w1 g) = .ok (.agg (rgA r.off (.slice A2 r.l.length c2))) w1 :=
        rin_cells w1 g (o + k * 2) _ _ ((HB.out.cell (p := ⟨g, o + k * 2, none⟩) hg).trans h0) ((HB.out.cell (p := ⟨g, o + k * 2 + 1, none⟩) hg).trans h1)
      have HX := Lib.hid hx
      have HC := Lib.hid (palr2_any r A2 c2 F w1 (h2.below HB.out) (by omega) (carry HB.out HF.out))
      obtain ⟨b, hbv⟩ : ∃ b, b = rB r := ⟨_, rfl⟩
      rw [← hbv] at HC
      have HV := Lib.hid hbv
      obtain ⟨L, hL⟩ : ∃ L, L = r.l.length := ⟨_, rfl⟩
      rw [← hL] at HC q2
      clear hc hx hbv h0 h1 h2 hL
      go_wp2_with fail
      refine HC.out.mono ?_
      rintro e w2 ⟨rfl, hb2⟩
      have B2 := Lib.hid (onto HB.out HB.out.size hb2)
      clear HC hb2 q2
      cases b with
      | true =>
        go_wp2_with fail
        go_roundw
        case rel => exact ⟨k + 1, by omega, by go_num, B2.out, fun j hj hjk => by
          by_cases hjk2 : j < k
          · exact HALL.out j hj hjk2
          · obtain rfl : j = k := by omega
            rw [← HX.out]; exact HV.out.symm⟩
        case measure => simp [intOf]; omega
      | false =>
        have HE := Lib.hid (allR_no k hkl (by rw [← HX.out]; exact HV.out.symm))
        go_wp2_with fail
        go_ret
        exact ⟨_, rfl, .inr ⟨HE.out, by omega⟩, B2.out⟩
    · obtain rfl : k = n := by omega
      have HE := Lib.hid (allR_yes (l := K) fun j hj => HALL.out j hj (by have := HN.out; omega))
      have hd : decide ((k : Int) < (k : Int)) = false := by simp
      go_wp2_with fail
      go_ret
      exact ⟨_, rfl, .inl ⟨HE.out, rfl⟩, HB.out⟩
set_option maxRecDepth 20000 in
theorem pctr_any (K : Ks) (s : Value) (F : Nat) (w : World) (hs : RRd w s K) (hK : K.length ≤ 1000000) (hV : ∀ r ∈ K, r.l.length ≤ 1000) (hF : row w F = some #[.func (.func 40) #[] #[]]) :
    Calls Try.prog 45 #[s, .func (.func 46) #[] #[.pointer (some ⟨F, 0, none⟩)]] w fun e w' => e = .returned (.bool (!(K.all rB))) ∧ Below w.heap.size w w' := by
  have H1 := Lib.hid (pixr_any K s F w hs hK hV hF)
  obtain ⟨A, c, rfl, -⟩ := hs.at_
  obtain ⟨b, hb⟩ : ∃ b, b = K.all rB := ⟨_, rfl⟩
  rw [← hb] at H1 ⊢
  clear hs hF hb hV
  go_enter Try.func45, Try.ntmps45
  go_wp2_with fail
  refine H1.out.mono ?_
  rintro e w1 ⟨r, rfl, h, hb1⟩
  have B1 := Lib.hid hb1
  clear H1 hb1
  rcases h with ⟨rfl, rfl⟩ | ⟨rfl, h2⟩
  · go_wp2_with fail
    go_ret
    exact ⟨rfl, B1.out⟩
  · have hd : decide (0 ≤ r) = true := by simp; omega
    clear h2
    go_wp2_with fail
    go_ret
    exact ⟨rfl, B1.out⟩
set_option maxRecDepth 20000 in
theorem palr_any (K : Ks) (s : Value) (w : World) (hs : RRd w s K) (hK : K.length ≤ 1000000) (hV : ∀ r ∈ K, r.l.length ≤ 1000) :
    Calls Try.prog 39 #[s, .func (.func 40) #[] #[]] w fun e w' => e = .returned (.bool (K.all rB)) ∧ Below w.heap.size w w' := by
  obtain ⟨w1, hw1⟩ : ∃ w1, w1 = w.alloc (.cells #[.func (.func 40) #[] #[]] 80) := ⟨_, rfl⟩
  have b1 : Below w.heap.size w w1 := by rw [hw1]; exact (Below.refl w.heap.size w).alloc (by simp) _
  have r1 : row w1 w.heap.size = some #[.func (.func 40) #[] #[]] := by rw [hw1]; exact row_alloc_at _ _ _ _ rfl
  have H1 := Lib.hid (pctr_any K s w.heap.size w1 (hs.below b1) hK hV r1)
  obtain ⟨A, c, rfl, -⟩ := hs.at_
  obtain ⟨b, hb⟩ : ∃ b, b = K.all rB := ⟨_, rfl⟩
  rw [← hb] at H1 ⊢
  have HW1 := Lib.hid hw1
  have B1 := Lib.hid b1
  clear hs hb hw1 b1 r1 hV
  go_enter Try.func39, Try.ntmps39
  go_wp2_with fail
  rw [← HW1.out]
  refine H1.out.mono ?_
  rintro e w2 ⟨rfl, hb2⟩
  have B2 := Lib.hid (onto B1.out B1.out.size hb2)
  clear hb2 H1
  go_wp2_with fail
  go_ret
  exact ⟨by simp, B2.out⟩
/- Of -/
theorem pnew0_any (w : World) : Calls Try.prog 9 #[] w fun e w' => e = .returned (.pointer (some ⟨w.heap.size, 0, none⟩)) ∧ row w' w.heap.size = some ksZ ∧ Below w.heap.size w w' := by
  go_enter Try.func9, Try.ntmps9
  go_wp2_with fail
  go_ret
  exact ⟨rfl, row_alloc_at _ _ _ _ rfl, (Below.refl _ _).alloc (Nat.le_refl _) _⟩
/-- a keyring's cells while keys are laid into it -/
structure KoC (c : Array Value) (K : Ks) : Prop where
  size : c.size = 1105
  ones : Ones c
  key : ∀ i, i < 8 → KyC c (i * 138) (rgI K i)
theorem KoC.nil : KoC ksZ [] := ⟨ksZ_ok.size, ksZ_ok.ones, ksZ_ok.key⟩
theorem KoC.step {c x : Array Value} {K : Ks} {r : Rg} (h : KoC c K) (h8 : K.length < 8) (hx : x.size = 138) (ho : Ones x) (hk : KyC x 0 r) : KoC (spl c (K.length * 138) x.toList) (K ++ [r]) := by
  have hl : x.toList.length = 138 := by rw [Array.length_toList, hx]
  have hz := h.size
  refine ⟨by rw [spl_sizeK, hz], ones_spl _ _ _ h.ones (fun v hv => ?_), fun j hj => ?_⟩
  · unfold Ones at ho
    rw [← Array.all_toList, List.all_eq_true] at ho
    exact ho v hv
  · rw [rgI_app]
    by_cases hji : j = K.length
    · subst hji
      rw [if_pos rfl]
      exact hk.eq fun i hi => by rw [spl_get _ _ _ _ (by rw [hl, hz]; omega), hl, if_pos (by omega), Array.getElem?_toList, show K.length * 138 + i - K.length * 138 = 0 + i by omega]
    · rw [if_neg hji]
      exact (h.key j hj).eq fun i hi => by rw [spl_get _ _ _ _ (by rw [hl, hz]; omega), hl, if_neg (by omega)]
theorem KoC.done {c : Array Value} {K : Ks} (h : KoC c K) : KsC (c.setIfInBounds 1104 (.int .i64 (K.length : Int))) K :=
  ⟨by rw [Array.size_setIfInBounds]; exact h.size, ones_set h.ones rfl, by rw [Array.getElem?_setIfInBounds, if_pos rfl, if_pos (by rw [h.size]; omega)], fun i hi => (h.key i hi).eq fun j hj => by rw [Array.getElem?_setIfInBounds, if_neg (by omega)]⟩
theorem take_stepK {K : Ks} {i : Nat} (hi : i < K.length) : K.take i ++ [K[i]] = K.take (i + 1) := by rw [List.take_append_getElem]

set_option maxRecDepth 20000 in
set_option maxHeartbeats 8000000 in
theorem pof_any (T : Mk) (t : Nat) (K : Ks) (v : Value) (w : World) (h : RRd w v K) (hK : K.length ≤ 1000) (hV : ∀ r ∈ K, r.l.length ≤ 1000) (hfr : ∀ k, k < w.heap.size → ¬ Hk t (T k)) :
    Calls Try.prog 21 #[v] w fun e w' => ∃ q T', e = .returned (.tuple #[.pointer q, .int .i64 (ofE K)]) ∧ (ofE K ≠ 0 → q = none) ∧ (ofE K = 0 → ∃ B, q = some ⟨B, 0, none⟩ ∧ KpAt T' w' t B K) ∧ Nk T T' t w w' := by
  have hh := h
  obtain ⟨A, c, rfl, hle, hmx, hat⟩ := h.at_
  have HAT := Lib.hid hat
  have HV := Lib.hid hV
  have HH := Lib.hid hh
  obtain ⟨n, hn⟩ : ∃ n, n = K.length := ⟨_, rfl⟩
  have HN := Lib.hid hn
  have hno : ofB K = false → ∀ w2, Below w.heap.size w w2 → ∃ (q : Option Addr) (T' : Mk), Ending.returned (.tuple #[.pointer none, .int .i64 1]) = .returned (.tuple #[.pointer q, .int .i64 (ofE K)]) ∧ (ofE K ≠ 0 → q = none) ∧ (ofE K = 0 → ∃ B, q = some ⟨B, 0, none⟩ ∧ KpAt T' w2 t B K) ∧ Nk T T' t w w2 := by
    intro hb w2 h2
    have e : ofE K = 1 := by unfold ofE; rw [hb]; rfl
    rw [e]
    exact ⟨none, paint T w.heap.size t, rfl, fun _ => rfl, fun h => absurd h (by decide), Nk.of h2⟩
  have HNO := Lib.hid hno
  rw [← hn] at hle hK ⊢
  have hB : ofB K = (decide (n ≤ 8) && K.all rB) := by rw [hn]; rfl
  by_cases h8 : 8 < n
  · have hd : decide ((8 : Int) < (n : Int)) = true := by simp; omega
    have hb0 : ofB K = false := by rw [hB, show decide (n ≤ 8) = false by simp; omega]; rfl
    clear h hh hat hV hn hno hB
    go_enter Try.func21, Try.ntmps21
    go_wp2_with fail
    exact bodyPost_ret (v := .tuple #[.pointer none, .int .i64 1]) (by simp [results, Try.results21, go_sem]) rfl (HNO.out hb0 _ (Below.refl _ _))
  have hd : decide ((8 : Int) < (n : Int)) = false := by simp; omega
  have H1 := palr_any K _ w hh (by omega) hV
  obtain ⟨b, hbv⟩ : ∃ b, b = K.all rB := ⟨_, rfl⟩
  rw [← hbv] at H1 hB
  rw [show decide (n ≤ 8) = true by simp; omega, Bool.true_and] at hB
  rw [← hn] at H1
  have HB0 := Lib.hid hB
  have HC1 := Lib.hid H1
  clear h hh hat hV hn hno hB H1 hbv
  go_enter Try.func21, Try.ntmps21
  go_wp2_with fail
  refine HC1.out.mono ?_
  rintro e w1 ⟨rfl, hb1⟩
  have B1 := Lib.hid hb1
  clear hb1 HC1
  cases b with
  | false =>
    go_wp2_with fail
    exact bodyPost_ret (v := .tuple #[.pointer none, .int .i64 1]) (by simp [results, Try.results21, go_sem]) rfl (HNO.out HB0.out _ B1.out)
  | true =>
    have HOK := Lib.hid (ofB_iff.1 HB0.out)
    have HE := Lib.hid (show ofE K = 0 by unfold ofE; rw [HB0.out]; rfl)
    clear HNO
    go_wp2_with fail
    refine (pnew0_any w1).mono ?_
    rintro e w2 ⟨rfl, r2, hb2⟩
    obtain ⟨B, hBe⟩ : ∃ B, B = w1.heap.size := ⟨_, rfl⟩
    have hBs : w.heap.size ≤ B := by have := B1.out.size; omega
    rw [← hBe] at r2 ⊢
    have B2 := Lib.hid (onto B1.out B1.out.size hb2)
    have R2 := Lib.hid r2
    clear hb2 hBe r2
    go_wp2_with fail
    go_loopw [18] (fun iv wr => ∃ i : Nat, i ≤ n ∧ iv = .int .i64 i ∧ Below w.heap.size w wr ∧ ∃ cb, row wr B = some cb ∧ KoC cb (K.take i)) (fun iv _ => n - (intOf iv).toNat)
    case atStart => exact ⟨0, by omega, rfl, B2.out, ksZ, R2.out, KoC.nil⟩
    case round =>
      obtain ⟨i, hi, rfl, hb, cb, hrow, hko⟩ := hrel
      obtain ⟨w3, rfl⟩ : ∃ w3 : World, w3 = wr := ⟨_, rfl⟩
      have HB := Lib.hid hb
      have HROW := Lib.hid hrow
      have HKO := Lib.hid hko
      have h8' : n ≤ 8 := by omega
      clear hb hrow hko
      by_cases hlt : i < n
      · have hiK : i < K.length := by have := HN.out; omega
        obtain ⟨g, o, rfl, hg, hc⟩ := HAT.out (by omega)
        obtain ⟨h0, vi, h1, h2⟩ := hc i hiK
        have hok1 := (HOK.out.2 _ (List.getElem_mem hiK)).1
        obtain ⟨r, hx⟩ : ∃ r, r = K[i] := ⟨_, rfl⟩
        rw [← hx] at h0 h2 hok1
        obtain ⟨A2, c2, rfl, -⟩ := h2.at_
        have q2 : ldR Try.prog 48 2 w3 g (o + i * 2) (row w3 g) = .ok (.agg (rgA r.off (.slice A2 r.l.length c2))) w3 :=
          rin_cells w3 g (o + i * 2) _ _ ((HB.out.cell (p := ⟨g, o + i * 2, none⟩) hg).trans h0) ((HB.out.cell (p := ⟨g, o + i * 2 + 1, none⟩) hg).trans h1)
        have HX := Lib.hid hx
        obtain ⟨w4, hw4⟩ : ∃ w4, w4 = w3.alloc (.cells (rgA r.off (.slice A2 r.l.length c2)) 48) := ⟨_, rfl⟩
        have b4 : Below w3.heap.size w3 w4 := by rw [hw4]; exact (Below.refl _ _).alloc (Nat.le_refl _) _
        have r4 : row w4 w3.heap.size = some (rgA r.off (.slice A2 r.l.length c2)) := by rw [hw4]; exact row_alloc_at _ _ _ _ rfl
        have B4 := Lib.hid (onto HB.out HB.out.size b4)
        have rB4 := carry b4 HROW.out
        have hv4 : ∀ x : After w4, VRd x.val (.slice A2 r.l.length c2) r.l := fun x => h2.below (onto B4.out B4.out.size x.below)
        have hko4 : ∀ x : After w4, Calls Try.prog 41 #[.agg (rgA r.off (.slice A2 r.l.length c2))] x.val fun e w' => e = .returned (.agg (kyM r.off r.l)) ∧ Below x.val.heap.size x.val w' := fun x => pko_any r.off r.l A2 c2 x.val (hv4 x) hok1.1 hok1.2
        have HK4 := Lib.hid hko4
        have HW4 := Lib.hid hw4
        have RB4 := Lib.hid rB4
        have q4 := After.row r4
        obtain ⟨Z, hZ⟩ : ∃ Z, Z = w3.heap.size := ⟨_, rfl⟩
        rw [← hZ] at q4
        have HZ := Lib.hid hZ
        have hsz : i * 138 + 138 ≤ cb.size := by rw [HKO.out.size]; omega
        have hst : ∀ x : World, stR Try.prog 65 138 x B (i * 138) (.agg (kyM r.off r.l)) (some cb) = .ok () (x.setRow B (spl cb (i * 138) (kyM r.off r.l).toList)) := fun x => stR_spl hsz (kyM_size _ _) (kyM_ones _ _)
        have HS4 := Lib.hid (show KoC (spl cb (i * 138) (kyM r.off r.l).toList) (K.take (i + 1)) by
          have hlen : (K.take i).length = i := by rw [List.length_take]; omega
          have := HKO.out.step (r := r) (by rw [hlen]; omega) (kyM_size r.off r.l) (kyM_ones r.off r.l) (kyM_key r.off r.l hok1.2)
          rw [hlen, hx, take_stepK hiK] at this
          rw [hx]
          exact this)
        obtain ⟨L, hL⟩ : ∃ L, L = r.l.length := ⟨_, rfl⟩
        rw [← hL] at q2 q4 HK4 HW4
        obtain ⟨kx, hkx⟩ : ∃ kx, kx = kyM r.off r.l := ⟨_, rfl⟩
        rw [← hkx] at HK4 hst HS4
        clear hc hx h0 h1 h2 hL hkx hw4 b4 r4 rB4 hv4 hko4 hok1 hZ hsz
        have hi8 : i < 8 := by omega
        go_wp2_with fail
        rw [← HW4.out, ← HZ.out]
        refine seen_tail 0 7 (by kernel_rfl) (by kernel_rfl) (fun _ _ _ _ _ h => h) ?_
        simp only [List.take_succ_cons, List.take_zero, List.drop_succ_cons, List.drop_zero]
        repeat (go_big_quiet_step ((go_at_call 41; refine After.call _ (HK4.out _))))
        refine wpQuiet_nil ?_
        rintro _ ⟨x, rfl⟩
        obtain ⟨w5, hw5⟩ : ∃ w5, w5 = x.val := ⟨_, rfl⟩
        have bx := x.below
        rw [← hw5] at bx ⊢
        have r5 := carry bx RB4.out
        have B5 := Lib.hid (below_setRow (onto B4.out B4.out.size bx) hBs (spl cb (i * 138) kx.toList))
        have R5 := Lib.hid (row_setRow r5 (spl cb (i * 138) kx.toList))
        clear hw5 bx q4 q2
        go_wp2_with fail
        go_roundw
        case rel => exact ⟨i + 1, by omega, by go_num, B5.out, _, R5.out, HS4.out⟩
        case measure => simp [intOf]; omega
      · obtain rfl : i = n := by omega
        have hd2 : decide ((i : Int) < (i : Int)) = false := by simp
        have hKo := HKO.out
        rw [List.take_of_length_le (by rw [← HN.out]; exact Nat.le_refl _)] at hKo
        have hKs := hKo.done
        rw [← HN.out] at hKs
        have f3 : w3.frozen? ⟨B, 1104, none⟩ = false := froz_row HROW.out _
        have k3 : ∃ x, w3.cell? ⟨B, 1104, none⟩ = some x := ⟨_, by rw [cell_row HROW.out]; exact Array.getElem?_eq_getElem (by rw [hKo.size]; omega)⟩
        obtain ⟨x3, hx3⟩ := k3
        have HF := Lib.hid (show ∃ T', KpAt T' (w3.setCell ⟨B, 1104, none⟩ (.int .i64 (i : Int))) t B K ∧ Nk T T' t w (w3.setCell ⟨B, 1104, none⟩ (.int .i64 (i : Int))) by
          rw [setCell_row HROW.out]
          exact ⟨paint T w.heap.size t, ⟨paint_new hBs, ⟨_, row_setRow HROW.out _, hKs⟩, HOK.out⟩, Nk.of (below_setRow HB.out hBs _)⟩)
        clear hKo hKs
        go_wp2_with fail
        refine bodyPost_ret (v := .tuple #[.pointer (some ⟨B, 0, none⟩), .int .i64 0]) (by simp [results, Try.results21, go_sem]) rfl ?_
        obtain ⟨T', hk, hn⟩ := HF.out
        exact ⟨_, T', by rw [HE.out], fun e => absurd HE.out e, fun _ => ⟨B, rfl, hk⟩, hn⟩
end Go.Proofs.Ytabchkcieddhpaa.Oct
