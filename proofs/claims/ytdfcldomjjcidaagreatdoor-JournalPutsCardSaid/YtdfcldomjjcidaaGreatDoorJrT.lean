/- Contracts: journal's Fold. -/
import Derived.Test.YtdfcldomjjcidaaGreatDoorJrS
namespace Go.Proofs.YtdfcldomjjcidaaGreatDoor.Oct
open Go.ChangeShapes Go.WideShapes Go.ChangeAt Go.RowKit
set_option linter.unusedVariables false

/-- what the first j records come to -/
def fdS (R : Nat → Rc) : Nat → Option St
  | 0 => some St.zero
  | j + 1 => (fdS R j).bind fun s => stp s (R j)
theorem fdS_none (R : Nat → Rc) {j : Nat} (h : fdS R j = none) : ∀ d, fdS R (j + d) = none
  | 0 => h
  | d + 1 => by rw [← Nat.add_assoc, fdS, fdS_none R h d]; rfl
/-- entries that are read, in blocks from N on -/
structure EnS (N : Nat) (w : World) (A : Option Addr) (n c : Nat) (L : Nat → En) : Prop where
  le : n ≤ c
  at_ : ∀ i, i < n → ∃ g o D k D' k', A = some ⟨g, o, none⟩ ∧ g < w.heap.size ∧ (∀ j, j < 4 → w.cell? ⟨g, o + i * 4 + j, none⟩ = (#[.int .i64 (L i).t, .int .i64 (L i).k, .slice D (L i).T k, .slice D' (L i).n k'] : Array Value)[j]?) ∧ EnR w (L i) D k D' k' ∧
    N ≤ g ∧ Nw N (L i).T D ∧ (0 < (L i).n → ∀ a, D' = some a → N ≤ a.block)
theorem EnS.below {N : Nat} {w w' : World} {A : Option Addr} {n c : Nat} {L : Nat → En} (h : EnS N w A n c L) (hb : Below w.heap.size w w') : EnS N w' A n c L :=
  ⟨h.le, fun i hi => by
    obtain ⟨g, o, D, k, D', k', e, hg, hc, he, hx⟩ := h.at_ i hi
    exact ⟨g, o, D, k, D', k', e, Nat.lt_of_lt_of_le hg hb.size, fun j hj => by rw [hb.cell (p := ⟨g, o + i * 4 + j, none⟩) hg]; exact hc j hj, he.below hb, hx⟩⟩
theorem EnS.congr {N : Nat} {w : World} {A : Option Addr} {n c : Nat} {L L' : Nat → En} (h : EnS N w A n c L) (e : ∀ i, i < n → L i = L' i) : EnS N w A n c L' := ⟨h.le, fun i hi => by rw [← e i hi]; exact h.at_ i hi⟩
theorem EnS.low {N N' : Nat} {w : World} {A : Option Addr} {n c : Nat} {L : Nat → En} (h : EnS N w A n c L) (hN : N' ≤ N) : EnS N' w A n c L :=
  ⟨h.le, fun i hi => by
    obtain ⟨g, o, D, k, D', k', e, hg, hc, he, h1, h2, h3⟩ := h.at_ i hi
    exact ⟨g, o, D, k, D', k', e, hg, hc, he, by omega, fun k hk => h2 k (by omega), fun hn a ha => by have := h3 hn a ha; omega⟩⟩
theorem slG_put {B : Nat} {c : Array Value} {w w' : World} (h : Put B c w w') {A : Option Addr} {n m : Nat} {V : Nat → Value} (hs : SlG w w.heap.size A n m V) (ho : 0 < n → ∀ a, A = some a → a.block ≠ B) : SlG w' w'.heap.size A n m V := by
  by_cases hn : 0 < n
  · exact (h.slG hs (Nat.le_refl _) (ho hn)).more h.size
  · exact ⟨hs.le, fun e => absurd e hn⟩
theorem EnS.setRow {N : Nat} {w : World} {A : Option Addr} {n c : Nat} {L : Nat → En} (h : EnS N w A n c L) {B : Nat} (hB : B < N) {c0 : Array Value} (hr : row w B = some c0) (C : Array Value) : EnS N (w.setRow B C) A n c L :=
  ⟨h.le, fun i hi => by
    obtain ⟨g, o, D, k, D', k', e, hg, hc, he, h1, h2, h3⟩ := h.at_ i hi
    have hp : Put B C w (w.setRow B C) := Put.of (Below.refl _ _) (row_lt hr) C
    refine ⟨g, o, D, k, D', k', e, Nat.lt_of_lt_of_le hg hp.size, fun j hj => ?_, ⟨(hp.sl he.d (Nat.le_refl _) (h2 B hB)).more hp.size, slG_put hp he.m fun hn a ha => by have := h3 hn a ha; omega⟩, h1, h2, h3⟩
    rw [← hc j hj]
    unfold World.cell?
    rw [hp.block g hg (by omega)]⟩
abbrev ge (l : List En) (i : Nat) : En := l.getD i En.zero
theorem ElAt.ens {T : Mk} {w : World} {t : Nat} {A : Option Addr} {c : Nat} {l : List En} (h : ElAt 4 enEl T w t A c l) (N : Nat) (hN : ∀ k, k < N → T k ≠ 0 ∧ T k ≠ t) : EnS N w A l.length c (ge l) := by
  refine ⟨h.le, fun i hi => ?_⟩
  obtain ⟨g, o, cur, e, hr, hs, hT, hel⟩ := h.at_ (by have := h.le; omega)
  obtain ⟨vs, ⟨D, k, D', k', rfl, h1, h2⟩, h3⟩ := hel i hi
  have hg : ge l i = l[i] := by simp [ge, hi]
  rw [hg]
  refine ⟨g, o, D, k, D', k', e, row_lt hr, fun j hj => by rw [cell_row hr, h3 j hj, ← List.getElem?_toArray], ⟨h1.sl, h2.sl⟩, ?_, fun m hm hn a ha e => ?_, fun hn a ha => ?_⟩
  · by_cases hlt : g < N
    · exact absurd hT (hN g hlt).2
    · omega
  · have h4 := h1.tg hn a ha
    rw [e] at h4
    exact (hN m hm).1 h4
  · by_cases hlt : a.block < N
    · exact absurd (h2.tg hn a ha) (hN _ hlt).1
    · omega
/-- a record is loaded whole -/
theorem rc_lw {w : World} {g o : Nat} {r : Rc} {D M : Value} (h : ∀ j, j < 10 → w.cell? ⟨g, o + j, none⟩ = (rcC r D M)[j]?) : ldR Tryz.prog 29 10 w g o (row w g) = .ok (.agg (rcC r D M)) w := by
  rw [← rc_ld]
  have hx := run_loadAt_mid (P := Tryz.prog) w g o 29 (rcC r D M).toList _ (fun j y hy => by
    have hj : j < 10 := by
      have := (List.getElem?_eq_some_iff.1 hy).1
      rw [Array.length_toList, rc_size] at this
      exact this
    rw [h j hj, ← Array.getElem?_toList]
    exact hy) Tryz.underlying29 rfl (by rw [rc_i, Array.length_toList, rc_size])
  rw [Array.toArray_toList] at hx
  exact hx
theorem mvS_len (s : St) (pi pt f : Int) : (mvS s pi pt f).l.length ≤ s.l.length := by
  unfold mvS
  split
  · exact Nat.le_refl _
  · show (if mvT s pi pt then s.l.drop (mvC s pi) else []).length ≤ _
    split
    · rw [List.length_drop]; omega
    · simp
theorem stp_len {s s' : St} {r : Rc} (h : stp s r = some s') : s'.l.length ≤ s.l.length + 1 := by
  unfold stp at h
  split at h
  · cases h; simp
  split at h
  · unfold layS at h
    split at h
    · cases h; omega
    split at h
    · cases h
    · cases h
      show (s.l.take _ ++ [r.e]).length ≤ _
      rw [List.length_append, List.length_take]
      simp
      omega
  split at h
  · cases h; have := mvS_len s r.i r.t r.n; omega
  · cases h; omega
theorem stp_i {s s' : St} {r : Rc} (h : stp s r = some s') (hr : RcB r) (hs : -4398046511104 ≤ s.i ∧ s.i ≤ 4398046511104) : -4398046511104 ≤ s'.i ∧ s'.i ≤ 4398046511104 := by
  unfold stp at h
  split at h
  · cases h; exact hs
  split at h
  · unfold layS at h
    split at h
    · cases h; exact hs
    split at h
    · cases h
    · cases h; exact hs
  split at h
  · cases h
    unfold mvS
    split
    · exact hs
    · exact hr.i
  · cases h; exact hs
/-- what Fold's function ends in -/
def fd1P (T0 : Mk) (o : Option St) (W : World) (e : Ending) (w' : World) : Prop := ∃ T', Fr T0 T' Hst W w' ∧
  ((∃ s A c, o = some s ∧ e = .returned (.agg (stC s (.slice A s.l.length c))) ∧ ElAt 4 enEl T' w' 1 A c s.l) ∨ (o = none ∧ e = .panicked (pnE 110)))
set_option maxRecDepth 20000 in
set_option maxHeartbeats 4000000 in
theorem fold1_any (T0 : Mk) (X n c : Nat) (A : Option Addr) (R : Nat → Rc) (w : World) (hx : row w X = some #[.slice A n c]) (hR : RcS w A n c R) (hB : ∀ i, i < n → RcB (R i)) (hn : n ≤ 100000) (h0 : ∀ k, k < w.heap.size → T0 k = 0 ∨ T0 k = 3) :
    Calls Tryz.prog 32 #[.pointer (some ⟨X, 0, none⟩)] w (fd1P T0 (fdS R n) w) := by
  obtain ⟨w1, hw1⟩ : ∃ w1, w1 = (w.alloc (.cells #[.int .i64 0, .int .i64 0, .int .i64 0, .int .i64 0, .int .i64 0, .slice none 0 0] 51)).alloc (.cells #[.int .i64 0, .int .i64 0, .int .i64 0, .int .i64 0, .int .i64 0, .slice none 0 0] 51) := ⟨_, rfl⟩
  have bw : Below w.heap.size w w1 := by rw [hw1]; exact ((Below.refl _ _).alloc (Nat.le_refl _) _).alloc (by simp) _
  have r0 : row w1 w.heap.size = some (stC .zero nilS) := by rw [hw1, ← st_lit0]; exact row_alloc (row_alloc_at _ _ _ _ rfl) _
  have r1 : row w1 (w.heap.size + 1) = some (stC .zero nilS) := by rw [hw1, ← st_lit0]; exact row_alloc_at _ _ _ _ (by simp)
  have hz1 : w1.heap.size = w.heap.size + 2 := by rw [hw1]; simp
  obtain ⟨T1, hT1⟩ : ∃ T1 : Mk, T1 = fun k => if k < w.heap.size then T0 k else if k = w.heap.size + 1 then 2 else 4 := ⟨_, rfl⟩
  have F1 : Fr T0 T1 (fun _ => False) w w1 := Fr.calm bw fun k hk => by rw [hT1]; exact if_pos hk
  have hT1a : T1 w.heap.size = 4 := by rw [hT1]; simp
  have hT1b : T1 (w.heap.size + 1) = 2 := by rw [hT1]; show (if w.heap.size + 1 < w.heap.size then _ else if w.heap.size + 1 = w.heap.size + 1 then 2 else 4) = 2; rw [if_neg (by omega), if_pos rfl]
  have hX := row_lt hx
  have hTX : T1 X = 0 ∨ T1 X = 3 := by rw [F1.tag X hX]; exact h0 X hX
  have HX1 := Lib.hid (carry bw hx)
  have BW := Lib.hid bw
  have HRR := Lib.hid hR
  have HT1 := Lib.hid (show ∀ k, k < w.heap.size → ¬ Hst (T1 k) from fun k hk => by rw [F1.tag k hk]; show ¬ (_ ∨ _); rcases h0 k hk with e | e <;> rw [e] <;> decide)
  have S1 := Lib.hid (show StAt T1 w1 (w.heap.size + 1) .zero from ⟨⟨none, 0, r1, ElAt.nil T1 w1 1⟩, hT1b⟩)
  have FF1 := Lib.hid F1
  have HR0 := Lib.hid r0
  have HB := Lib.hid hB
  have H0 := Lib.hid h0
  have cX : w1.cell? ⟨X, 0, none⟩ = some (.slice A n c) := by rw [cell_row HX1.out]; rfl
  clear bw r0 r1 hT1 F1 hx hR hB h0
  go_enter Tryz.func32, Tryz.ntmps32
  go_upto_region 2 with fail
  simp only [← hw1]
  clear hw1
  go_wp2_with fail
  clear cX
  go_loopw [7] (fun iv wr => ∃ (j : Nat) (T : Mk) (s : St), j ≤ n ∧ iv = .int .i64 (j : Int) ∧ fdS R j = some s ∧ StAt T wr (w.heap.size + 1) s ∧ Fr T1 T Hst w1 wr ∧ s.l.length ≤ j ∧ (-4398046511104 ≤ s.i ∧ s.i ≤ 4398046511104)) (fun iv _ => n - (intOf iv).toNat)
  case atStart => exact ⟨0, T1, .zero, by omega, rfl, rfl, S1.out, Fr.refl _ _ _, Nat.le_refl _, by decide⟩
  case round =>
    obtain ⟨j, T, s, hj, rfl, hfs, hst, hfr, hlen, hsi⟩ := hrel
    obtain ⟨wo, rfl⟩ : ∃ wo : World, wo = wr := ⟨_, rfl⟩
    have HFS := Lib.hid hfs
    have HST := Lib.hid hst
    have HFR := Lib.hid hfr
    clear hfs hst hfr
    by_cases hlt : j < n
    · have hd : decide ((j : Int) < (n : Int)) = true := by simp; omega
      have hd' : 0 ≤ (j : Int) ∧ (j : Int) < (n : Int) := by omega
      -- the record, as it was
      have hbo : Below w.heap.size w wo := BW.out.trans (HFR.out.below (by omega) HT1.out)
      obtain ⟨g, o, D, k, D', k', hA, hg, hcl, he⟩ := (HRR.out.below hbo).at_ j hlt
      subst hA
      have q1 := rc_lw hcl
      have hRB := HB.out j hlt
      obtain ⟨w2, hw2⟩ : ∃ w2, w2 = wo.alloc (.cells (rcC (R j) (.slice D (R j).e.T k) (.slice D' (R j).e.n k')) 29) := ⟨_, rfl⟩
      have b2 : Below wo.heap.size wo w2 := by rw [hw2]; exact (Below.refl _ _).alloc (Nat.le_refl _) _
      have q2 : row w2 wo.heap.size = some (rcC (R j) (.slice D (R j).e.T k) (.slice D' (R j).e.n k')) := by rw [hw2]; exact row_alloc_at _ _ _ _ rfl
      obtain ⟨T2, hT2⟩ : ∃ T2, T2 = paint T wo.heap.size 0 := ⟨_, rfl⟩
      have F2 : Fr T T2 (fun _ => False) wo w2 := by rw [hT2]; exact Fr.new b2 0
      obtain ⟨V, cV, hrS, hel⟩ := HST.out.ex
      have S2 : StAt T2 w2 (w.heap.size + 1) s := ⟨⟨V, cV, carry b2 hrS, hel.fr enEl_ok F2 (fun e => e) (fun e => e)⟩, by rw [hT2, paint_old (row_lt hrS)]; exact HST.out.tB⟩
      have HL := Lib.hid (follow_any T2 (w.heap.size + 1) s (R j) D D' k k' w2 S2 (he.below b2) hRB hsi (by omega))
      have FF2 := Lib.hid (HFR.out.trans (F2.mono fun _ h => h.elim))
      have HRB := Lib.hid hRB
      clear hbo hcl he hRB b2 hT2 F2 hrS hel S2
      go_upto_region 5 with fail
      rw [← hw2]
      clear hw2 q1
      go_wp2_with fail
      refine HL.out.mono ?_
      rintro e w3 ⟨T3, f3, ⟨s', hs', rfl, S3⟩ | ⟨hs', rfl⟩⟩
      · have HS3 := Lib.hid S3
        have HF3 := Lib.hid (FF2.out.trans f3)
        have HE := Lib.hid (show fdS R (j + 1) = some s' by rw [fdS, HFS.out]; exact hs')
        have hl' := stp_len hs'
        have hi' := stp_i hs' HRB.out hsi
        clear S3 f3 hs' HL q2
        go_wp2_with fail
        go_roundw
        case rel => exact ⟨j + 1, T3, s', by omega, rfl, HE.out, HS3.out, HF3.out, by omega, hi'⟩
        case measure => simp [intOf]; omega
      · have HF3 := Lib.hid (FF2.out.trans f3)
        have HE := Lib.hid (show fdS R n = none by
          have h1 : fdS R (j + 1) = none := by rw [fdS, HFS.out]; exact hs'
          have h2 := fdS_none R h1 (n - (j + 1))
          rw [show j + 1 + (n - (j + 1)) = n by omega] at h2
          exact h2)
        clear f3 hs' HL q2
        go_wp2_with fail
        exact ⟨rfl, T3, (FF1.out.mono fun _ h => h.elim).trans HF3.out, .inr ⟨HE.out, rfl⟩⟩
    · have hd : decide ((j : Int) < (n : Int)) = false := by simp; omega
      obtain rfl : j = n := by omega
      obtain ⟨V, cV, hrS, hel⟩ := HST.out.ex
      have HEL := Lib.hid hel
      have r0 := HFR.out.rowAt HR0.out (by show ¬ (_ ∨ _); rw [hT1a]; decide)
      clear hel
      go_wp2_with fail
      have F3 : Fr T T (fun m => m = 4) wo (wo.setRow w.heap.size (stC s (.slice V s.l.length cV))) := Fr.row (by show T w.heap.size = 4; rw [HFR.out.tag _ (by omega)]; exact hT1a) _
      have FA : Fr T0 T (fun m => Hst m ∨ m = 4) w (wo.setRow w.heap.size (stC s (.slice V s.l.length cV))) := ((FF1.out.mono fun _ h => h.elim).trans (HFR.out.mono fun _ h => .inl h)).trans (F3.mono fun _ h => .inr h)
      have FB : Fr T0 T Hst w (wo.setRow w.heap.size (stC s (.slice V s.l.length cV))) := FA.old fun k hk h => by
        rcases H0.out k hk with e | e <;> rw [e] at h ⊢ <;> rcases h with (h | h) | h <;> omega
      exact bodyPost_ret (v := .agg (stC s (.slice V s.l.length cV))) (res_c Tryz.results32 _ _ w.heap.size _ _ rfl (row_setRow r0 _) Tryz.underlying51 rfl (by rw [stj_i, st_size])) rfl ⟨T, FB, .inl ⟨s, V, cV, HFS.out, rfl, HEL.out.fr enEl_ok F3 (by decide) (by decide)⟩⟩
/-- what Fold ends in -/
def fdP (o : Option St) (w : World) (e : Ending) (w' : World) : Prop := Below w.heap.size w w' ∧
  ((∃ s A c, o = some s ∧ e = .returned (.tuple #[.agg (stC s (.slice A s.l.length c)), .int .i64 0]) ∧ EnS w.heap.size w' A s.l.length c (ge s.l)) ∨ (o = none ∧ e = .returned (.tuple #[.agg (stC .zero nilS), .int .i64 110])))
set_option maxRecDepth 20000 in
set_option maxHeartbeats 2000000 in
theorem atts_any (F : FuncId) (cap : Array Value) (w : World) (hen : Entr F) (o : Option St)
    (h : ∀ (W : World) (T0 : Mk), Below w.heap.size w W → W.heap.size = w.heap.size + 2 → (∀ k, k < W.heap.size → T0 k = 0 ∨ T0 k = 3) → Calls Tryz.prog F cap W (fd1P T0 o W)) :
    Calls Tryz.prog 31 #[.func (.func F) #[] cap] w (fdP o w) := by
  obtain ⟨w1, hw1⟩ : ∃ w1, w1 = (w.alloc (.cells #[.int .i64 0, .int .i64 0, .int .i64 0, .int .i64 0, .int .i64 0, .slice none 0 0] 51)).alloc (.cells #[.int .i64 0] 31) := ⟨_, rfl⟩
  have bw : Below w.heap.size w w1 := by rw [hw1]; exact ((Below.refl _ _).alloc (Nat.le_refl _) _).alloc (by simp) _
  have r0 : row w1 w.heap.size = some (stC .zero nilS) := by rw [hw1, ← st_lit0]; exact row_alloc (row_alloc_at _ _ _ _ rfl) _
  have r1 : row w1 (w.heap.size + 1) = some #[.int .i64 0] := by rw [hw1]; exact row_alloc_at _ _ _ _ (by simp)
  have hz1 : w1.heap.size = w.heap.size + 2 := by rw [hw1]; simp
  obtain ⟨T0, hT0⟩ : ∃ T0 : Mk, T0 = fun _ => 3 := ⟨_, rfl⟩
  have hTa : T0 w.heap.size = 3 := by rw [hT0]
  have hT03 : ∀ k, k < w1.heap.size → T0 k = 0 ∨ T0 k = 3 := fun k _ => by rw [hT0]; exact .inr rfl
  have HT33 := Lib.hid (show ∀ k, T0 k = 3 from fun k => by rw [hT0])
  have H := Lib.hid (h w1 T0 bw hz1 hT03)
  have HT3 := Lib.hid hT03
  have B1 := Lib.hid bw
  have R0 := Lib.hid r0
  have R1 := Lib.hid r1
  clear h bw r0 r1 hT03 hT0
  unfold Entr at hen
  have hmf : ∀ (fn : Fn) (first cap : Array Value) (w : World), (Instr.makeFunc fn first cap).run Tryz.prog w = .ok (.func fn first cap) w := fun _ _ _ _ => rfl
  go_enter_defers Tryz.func31, Tryz.ntmps31
  go_upto_region 1 with fail
  simp only [← hw1]
  clear hw1
  go_wp2_with fail
  refine H.out.mono ?_
  rintro e w2 ⟨T2, f2, ⟨s, A, c, ho, rfl, hel⟩ | ⟨ho, rfl⟩⟩
  · have hb : Below w1.heap.size w1 w2 := f2.below (Nat.le_refl _) fun k hk => by show ¬ (_ ∨ _); rcases HT3.out k hk with e | e <;> rw [e] <;> decide
    have q0 := carry hb R0.out
    have q1 := carry hb R1.out
    have B2 := Lib.hid (onto B1.out B1.out.size hb)
    have hT2 : T2 w.heap.size = 3 := by rw [f2.tag _ (by omega)]; exact hTa
    have HN2 := Lib.hid (show ∀ k, k < w.heap.size → T2 k ≠ 0 ∧ T2 k ≠ 1 from fun k hk => by rw [f2.tag _ (by omega), HT33.out]; decide)
    have q1' : row (w2.setRow w.heap.size (stC s (.slice A s.l.length c))) (w.heap.size + 1) = some #[.int .i64 0] := by rw [row_setRow_other _ _ _ _ (by omega)]; exact q1
    have z1 := froz_row q1' 0
    have k1 : (w2.setRow w.heap.size (stC s (.slice A s.l.length c))).cell? ⟨w.heap.size + 1, 0, none⟩ = some (.int .i64 0) := by rw [cell_row q1']; rfl
    have hs : (w2.setRow w.heap.size (stC s (.slice A s.l.length c))).setCell ⟨w.heap.size + 1, 0, none⟩ (.int .i64 0) = w2.setRow w.heap.size (stC s (.slice A s.l.length c)) := by rw [setCell_row q1']; exact setRow_self q1'
    have HEL := Lib.hid hel
    have HO := Lib.hid ho
    clear hb hel ho f2 H
    go_wp2_with fail
    refine leaves_cons (f := 60) (args := #[.pointer (some ⟨w.heap.size + 1, 0, none⟩)]) (by simp) (by simp [go_sem]) ?_
    refine (catchs_idle (w.heap.size + 1) _).mono ?_
    rintro e u' w'' ⟨rfl, rfl, rfl⟩
    have F3 : Fr T2 T2 (fun m => m = 3) w2 (w2.setRow w.heap.size (stC s (.slice A s.l.length c))) := Fr.row hT2 _
    exact ⟨.tuple #[.agg (stC s (.slice A s.l.length c)), .int .i64 0],
      res_ci Tryz.results31 _ _ w.heap.size (w.heap.size + 1) _ _ _ rfl rfl (row_setRow q0 _) (by simp [loadVar, go_sem, k1]) Tryz.underlying51 rfl (by rw [stj_i, st_size]),
      below_setRow B2.out (Nat.le_refl _) _, .inl ⟨s, A, c, HO.out, rfl, (HEL.out.fr enEl_ok F3 (by decide) (by decide)).ens _ HN2.out⟩⟩
  · have hb : Below w1.heap.size w1 w2 := f2.below (Nat.le_refl _) fun k hk => by show ¬ (_ ∨ _); rcases HT3.out k hk with e | e <;> rw [e] <;> decide
    have q0 := carry hb R0.out
    have q1 := carry hb R1.out
    have B2 := Lib.hid (onto B1.out B1.out.size hb)
    have hc : w2.cell? ⟨w.heap.size + 1, 0, none⟩ = some (.int .i64 0) := by rw [cell_row q1]; rfl
    have hz := froz_row q1 0
    have k1 : (w2.setCell ⟨w.heap.size + 1, 0, none⟩ (.int .i64 110)).cell? ⟨w.heap.size + 1, 0, none⟩ = some (.int .i64 110) := by rw [setCell_row q1, cell_row (row_setRow q1 _)]; rfl
    have q0' : row (w2.setCell ⟨w.heap.size + 1, 0, none⟩ (.int .i64 110)) w.heap.size = some (stC .zero nilS) := by rw [setCell_row q1, row_setRow_other _ _ _ _ (by omega)]; exact q0
    have HO := Lib.hid ho
    clear hb ho f2 H
    go_wp2_with fail
    refine leaves_cons (f := 60) (args := #[.pointer (some ⟨w.heap.size + 1, 0, none⟩)]) (by simp) (by simp [go_sem]) ?_
    refine (catchs_panicking (w.heap.size + 1) 110 0 _ hc hz).mono ?_
    rintro e u' w'' ⟨rfl, rfl, rfl⟩
    exact ⟨.tuple #[.agg (stC .zero nilS), .int .i64 110],
      res_ci Tryz.results31 _ _ w.heap.size (w.heap.size + 1) _ _ _ rfl rfl q0' (by simp [loadVar, go_sem, k1]) Tryz.underlying51 rfl (by rw [stj_i, st_size]),
      B2.out.setCell (by show w.heap.size ≤ w.heap.size + 1; omega) _, .inr ⟨HO.out, rfl⟩⟩
set_option maxRecDepth 20000 in
set_option maxHeartbeats 2000000 in
theorem fold_any (n c : Nat) (A : Option Addr) (R : Nat → Rc) (w : World) (hR : RcS w A n c R) (hB : ∀ i, i < n → RcB (R i)) (hn : n ≤ 100000) :
    Calls Tryz.prog 15 #[.slice A n c] w (fdP (fdS R n) w) := by
  obtain ⟨w1, hw1⟩ : ∃ w1, w1 = (w.alloc (.cells #[.slice A n c] 43)).alloc (.cells #[.int .i64 0, .int .i64 0, .int .i64 0, .int .i64 0, .int .i64 0, .slice none 0 0] 51) := ⟨_, rfl⟩
  have bw : Below w.heap.size w w1 := by rw [hw1]; exact ((Below.refl _ _).alloc (Nat.le_refl _) _).alloc (by simp) _
  have rx : row w1 w.heap.size = some #[.slice A n c] := by rw [hw1]; exact row_alloc (row_alloc_at _ _ _ _ rfl) _
  have r0 : row w1 (w.heap.size + 1) = some (stC .zero nilS) := by rw [hw1, ← st_lit0]; exact row_alloc_at _ _ _ _ (by simp)
  have hz1 : w1.heap.size = w.heap.size + 2 := by rw [hw1]; simp
  have HC := Lib.hid (atts_any 32 #[.pointer (some ⟨w.heap.size, 0, none⟩)] w1 (entr (fn := Tryz.f32) (by kernel_rfl) (by kernel_rfl) (by kernel_rfl)) (fdS R n)
    (fun W T0 hb _ h3 => fold1_any T0 w.heap.size n c A R W (carry hb rx) ((hR.below bw).below hb) hB hn h3))
  have hmf : ∀ (fn : Fn) (first cap : Array Value) (w : World), (Instr.makeFunc fn first cap).run Tryz.prog w = .ok (.func fn first cap) w := fun _ _ _ _ => rfl
  have B1 := Lib.hid bw
  have R0 := Lib.hid r0
  clear bw rx r0 hR hB
  go_enter Tryz.func15, Tryz.ntmps15
  go_upto_region 1 with fail
  simp only [← hw1]
  clear hw1
  go_wp2_with fail
  refine HC.out.mono ?_
  rintro e w2 ⟨hb, ⟨s, A2, c2, ho, rfl, hE⟩ | ⟨ho, rfl⟩⟩
  · have q0 := carry hb R0.out
    have B2 := Lib.hid (onto B1.out B1.out.size hb)
    have HO := Lib.hid ho
    have HE := Lib.hid hE
    clear hb ho hE HC
    go_wp2_with fail
    exact bodyPost_ret (v := .tuple #[.agg (stC s (.slice A2 s.l.length c2)), .int .i64 0]) (res_ct Tryz.results15 _ _ (w.heap.size + 1) _ _ rfl (row_setRow q0 _) Tryz.underlying51 rfl (by rw [stj_i, st_size])) rfl ⟨below_setRow B2.out (by omega) _, .inl ⟨s, A2, c2, HO.out, rfl, (HE.out.setRow (by omega) q0 _).low (by omega)⟩⟩
  · have q0 := carry hb R0.out
    have B2 := Lib.hid (onto B1.out B1.out.size hb)
    have HO := Lib.hid ho
    have hs0 : w2.setRow (w.heap.size + 1) (stC .zero (.slice none 0 0)) = w2 := setRow_self q0
    clear hb ho HC
    go_wp2_with fail
    exact bodyPost_ret (v := .tuple #[.agg (stC .zero nilS), .int .i64 110]) (res_ct Tryz.results15 _ _ (w.heap.size + 1) _ _ rfl q0 Tryz.underlying51 rfl (by rw [stj_i, st_size])) rfl ⟨B2.out, .inr ⟨HO.out, rfl⟩⟩
end Go.Proofs.YtdfcldomjjcidaaGreatDoor.Oct
