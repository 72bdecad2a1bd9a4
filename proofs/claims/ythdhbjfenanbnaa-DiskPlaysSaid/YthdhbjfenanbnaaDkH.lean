/- Contracts: disk's tear. -/
import Derived.Test.YthdhbjfenanbnaaDkG
namespace Go.Proofs.Ythdhbjfenanbnaa.Oct
open Go.ChangeShapes Go.WideShapes Go.ChangeAt Go.RowKit
set_option linter.unusedVariables false

/-- a byte of a row of the call's own is written over -/
theorem Own.set {w : World} {base n : Nat} {u : TypeId} {v : Value} {f : Bf} (h : Own w base u v n f) {g i : Nat} {x : BitVec 8} (hg : v.ownBlock = some g) (hi : i < n) :
    w.frozen? ⟨g, i, none⟩ = false ∧ w.cell? ⟨g, i, none⟩ = some (.int .u8 (I (f i))) ∧ Own (w.setCell ⟨g, i, none⟩ (.int .u8 (I x))) base u v n (upd f i x) := by
  have h0 := h
  unfold Own at h ⊢
  rcases h.2 with ⟨rfl, h1⟩ | ⟨g', cap, cur, rfl, hb, hh, hc, hm, hcs, htk⟩
  · omega
  · obtain rfl : g' = g := by simpa [Value.ownBlock] using hg
    have hr := row_of hh
    have hcell : w.cell? ⟨g', i, none⟩ = some (.int .u8 (I (f i))) := by
      have e := World.ownsRow.cells h rfl i (.int .u8 (I (f i))) (by rw [Array.getElem?_toList, ba_get n f i hi])
      rw [add_mid, Nat.zero_add] at e
      exact e
    refine ⟨froz_row hr i, hcell, by rw [Array.length_toList, ba_size]; omega, .inr ⟨g', cap, cur.setIfInBounds i (.int .u8 (I x)), rfl, hb, ?_, hc, hm, by simp [hcs], ?_⟩⟩
    · rw [setCell_row hr]
      exact setRow_heap w g' cur _ u _ hh
    · apply List.ext_getElem?
      intro j
      rw [List.getElem?_take, Array.getElem?_toList, Array.getElem?_toList, Array.getElem?_setIfInBounds]
      have e2 : ∀ j, j < n → cur[j]? = some (.int .u8 (I (f j))) := fun j hj => by
        have := congrArg (fun l => l[j]?) htk
        simp only [List.getElem?_take, Array.getElem?_toList] at this
        rw [if_pos (by omega), ba_get n f j hj] at this
        exact this
      by_cases hj : j < n
      · rw [if_pos (by omega), ba_get n _ j hj]
        by_cases hij : i = j
        · subst hij
          rw [if_pos rfl, if_pos (by have := Nat.le_of_lt hj; omega)]
          simp [upd]
        · rw [if_neg hij, e2 j hj]
          simp [upd, Ne.symm hij]
      · rw [if_neg (by omega), ba_none n _ j hj]
theorem run_fromK {P : Program} {t u : TypeId} {m : Nat} (ht : P.underlying t = some (.slice u)) (hz : (P.info? u).map (·.size) = some m) (A : Option Addr) (n c k : Nat) (hk : k ≤ n) (w : World) :
    (Instr.slice t (.slice A n c) (some (.int .i64 (k : Int))) none none).run P w = .ok (.slice (if c = k then A else A.map (·.add (k * m))) (n - k) (c - k)) w := by
  have he : P.elem t = u := by simp [Program.elem, ht]
  have hs : (sizeOf u).run P w = .ok m w := by
    cases hq : P.info? u with
    | none => rw [hq] at hz; cases hz
    | some i =>
      rw [hq] at hz
      have h : i.size = m := Option.some.inj hz
      simp [sizeOf, typeInfo, hq, h]
  rw [run_slice_l w t A n c (by rw [he]; exact ht) .i64 k (by omega) (by omega), he, hs, Result.andThen_ok]
  simp [sliced, Int.toNat_natCast]
theorem run_uptoK {P : Program} {t u : TypeId} {m : Nat} (ht : P.underlying t = some (.slice u)) (hz : (P.info? u).map (·.size) = some m) (A : Option Addr) (n c k : Nat) (hk : k ≤ c) (w : World) : (Instr.slice t (.slice A n c) none (some (.int .i64 (k : Int))) none).run P w = .ok (.slice A k c) w := by
  have he : P.elem t = u := by simp [Program.elem, ht]
  have hs : (sizeOf u).run P w = .ok m w := by
    cases hq : P.info? u with
    | none => rw [hq] at hz; cases hz
    | some i =>
      rw [hq] at hz
      have h : i.size = m := Option.some.inj hz
      simp [sizeOf, typeInfo, hq, h]
  rw [run_slice_h w t A n c (by rw [he]; exact ht) .i64 k (by omega) (by omega), he, hs, Result.andThen_ok]
  by_cases h0 : c = 0
  · subst h0; simp [sliced]
  · simp [sliced, Int.toNat_natCast, h0]
    cases A with
    | none => rfl
    | some a => simp [Addr.add]
theorem ElSl.drop {k : Nat} {E : Mk → World → Ch → List Value → Prop} {T : Mk} {w : World} {t : Nat} {A : Option Addr} {c : Nat} {l : List Ch} (h : ElSl k E T w t A c l) (n : Nat) : ElSl k E T w t (if c = n then A else A.map (·.add (n * k))) (c - n) (l.drop n) :=
  ⟨by have := h.le; rw [List.length_drop]; omega, fun hn => by
    rw [List.length_drop] at hn
    obtain ⟨g, o, rfl, hg, hT, hc⟩ := h.at_ (by omega)
    have := h.le
    refine ⟨g, o + n * k, ?_, hg, hT, fun i hi => ?_⟩
    · rw [if_neg (by omega)]
      simp only [Option.map_some]
      rw [add_mid]
    have hi' : i < l.length - n := by rw [List.length_drop] at hi; exact hi
    obtain ⟨vs, h1, h2⟩ := hc (n + i) (by omega)
    refine ⟨vs, by rw [List.getElem_drop]; exact h1, fun j hj => ?_⟩
    rw [show o + n * k + i * k + j = o + (n + i) * k + j by rw [Nat.add_mul]; omega]
    exact h2 j hj⟩
theorem b8_int (v : Nat) : ((v : Int) % 256) = I (BitVec.ofNat 8 v) := by unfold I; rw [BitVec.toNat_ofNat]; rfl
/-- what is left of the first -/
def tor (m : List Ch) (p v : Nat) : By := match m with | [] => [] | x :: _ => flp (x.b.take (p % (x.b.length + 1))) v
theorem torn_tor (l : List Ch) (k p v : Nat) : torn l k p v = tor (l.drop k) p v := by
  unfold torn tor
  by_cases h : k < l.length
  · rw [List.getElem?_eq_getElem h, List.drop_eq_getElem_cons h]
  · rw [List.getElem?_eq_none (by omega), List.drop_eq_nil_of_le (by omega)]

theorem lf_set (l : By) (j i : Nat) (y : BitVec 8) (h : j < l.length) : lf (l.set j y) i = if i = j then y else lf l i := by
  unfold lf
  simp only [List.getD_eq_getElem?_getD, List.getElem?_set]
  by_cases hij : i = j
  · subst hij; rw [if_pos rfl, if_pos h, if_pos rfl]; rfl
  · rw [if_neg (fun e => hij e.symm), if_neg hij]
set_option maxHeartbeats 2000000 in
theorem tear_any (T : Mk) (tp c p v n : Nat) (A : Option Addr) (m : List Ch) (w : World) (hp : ElSl 2 chE T w tp A c m) (hn : n = m.length) (hl : ∀ x ∈ m, x.b.length ≤ maxF) (hn2 : m.length ≤ 1000000000000) (hp2 : p < 9223372036854775808) (hv2 : v < 9223372036854775808) :
    Calls Try.prog 44 #[.slice A n c, .int .i64 (p : Int), .int .i64 (v : Int)] w fun e w' => ∃ v', e = .returned v' ∧ Own w' w.heap.size 5 v' (tor m p v).length (lf (tor m p v)) ∧ Below w.heap.size w w' := by
  have hM := maxF_eq
  subst hn
  cases m with
  | nil =>
    go_enter Try.func44, Try.ntmps44
    go_wp2_with fail
    go_ret
    exact ⟨_, rfl, Own.nil _ _ _ _, Below.refl _ _⟩
  | cons x r =>
    have hx := hl x (.head _)
    obtain ⟨g, o, rfl, hg, hT, hcl⟩ := hp.at_ (by simp)
    obtain ⟨vs, ⟨A3, c3, rfl, hr3⟩, hcs⟩ := hcl 0 (by simp)
    have q0 := hcs 0 (by omega)
    have q1 := hcs 1 (by omega)
    simp only [List.getElem?_cons_zero, List.getElem?_cons_succ, Nat.add_zero, Nat.zero_mul, List.getElem_cons_zero] at q0 q1 hr3
    obtain ⟨N, hN⟩ : ∃ N, N = (x :: r).length := ⟨_, rfl⟩
    have hN0 : 0 < N := by rw [hN]; simp
    rw [← hN] at hn2 ⊢
    obtain ⟨L, hL⟩ : ∃ L, L = p % (x.b.length + 1) := ⟨_, rfl⟩
    have hLe : L ≤ x.b.length := by have := Nat.mod_lt p (show 0 < x.b.length + 1 by omega); omega
    have hpm : (p : Int).tmod ((x.b.length : Int) + 1) = (L : Int) := by rw [hL, Int.tmod_eq_emod_of_nonneg (by omega)]; rfl
    have R3 := Lib.hid (hr3.upto L hLe)
    have HL := Lib.hid hL
    have hup := run_upto sli_u u8_i A3 x.b.length c3 L (by have := hr3.sl.le; omega)
    have HN := Lib.hid hN
    clear hcl hcs hp hl hr3 hL hN q0
    go_enter Try.func44, Try.ntmps44
    go_wp2_with fail
    refine (clone_any L c3 A3 (lf x.b) w R3.out.sl (by omega)).mono ?_
    rintro e w2 ⟨v2, rfl, o2, b2⟩
    have O2 := Lib.hid o2
    have B2 := Lib.hid b2
    obtain ⟨A2, c2, hv2', hs2, hm2, hA2⟩ := o2.sl
    subst hv2'
    have ht : tor (x :: r) p v = flp (x.b.take L) v := by show flp (x.b.take (p % (x.b.length + 1))) v = _; rw [HL.out]
    have htl : (x.b.take L).length = L := by rw [List.length_take]; omega
    have HT := Lib.hid ht
    have HTL := Lib.hid htl
    clear q1 hup hpm o2 b2 ht htl
    by_cases h0 : L = 0
    · subst h0
      go_wp2_with fail
      go_ret
      refine ⟨_, rfl, ?_, B2.out⟩
      rw [HT.out, List.take_zero, flp_nil]
      exact O2.out.congr fun i hi => absurd hi (by omega)
    · have hd : decide ((0 : Int) < (L : Int)) = true := by simp; omega
      obtain ⟨J, hJ⟩ : ∃ J, L = J + 1 := ⟨L - 1, by omega⟩
      obtain ⟨g2, hA, hg2⟩ : ∃ g2, A2 = some ⟨g2, 0, none⟩ ∧ w.heap.size ≤ g2 := by
        rcases hA2 with rfl | h
        · obtain ⟨_, _, e, _⟩ := hs2.at_ (by omega); cases e
        · exact h
      subst hA
      have HJ := Lib.hid hJ
      have hJ1 : (L : Int) - 1 = (J : Int) := by omega
      obtain ⟨f1, f2, f3⟩ := O2.out.set (g := g2) (i := J) (x := lf x.b J ^^^ BitVec.ofNat 8 v) rfl (by omega)
      have f4 := b8_int v
      have f5 := I_xor (lf x.b J) (BitVec.ofNat 8 v)
      have F3 := Lib.hid f3
      have B3 := Lib.hid (B2.out.setCell (p := ⟨g2, J, none⟩) hg2 (.int .u8 (I (lf x.b J ^^^ BitVec.ofNat 8 v))))
      have hjl : J < L := by omega
      clear f3 hs2 hA2 hJ
      go_wp2_with fail
      go_ret
      refine ⟨_, rfl, ?_, B3.out⟩
      rw [HT.out, flp_len, HTL.out]
      refine F3.out.congr fun i hi => ?_
      unfold flp
      rw [HTL.out, lf_set _ _ _ _ (by rw [HTL.out]; omega), show L - 1 = J from by have := HJ.out; omega, lf_take _ _ _ (by omega : J < L)]
      unfold upd
      by_cases hij : i = J
      · rw [if_pos hij, if_pos hij]
      · rw [if_neg hij, if_neg hij, lf_take _ _ _ hi]
theorem rest_set (C : Array Value) (o : Nat) (a b c d : Value) : ((((C.setIfInBounds (o + 1) a).setIfInBounds o b).setIfInBounds (o + 1) c).setIfInBounds o d) = (C.setIfInBounds o d).setIfInBounds (o + 1) c := by
  apply Array.ext_getElem?
  intro k
  simp only [Array.getElem?_setIfInBounds, Array.size_setIfInBounds]
  by_cases h1 : o = k
  · subst h1
    simp
  · by_cases h2 : o + 1 = k
    · subst h2
      simp
    · simp [h1, h2]
set_option maxHeartbeats 4000000 in
theorem restart_any (T : Mk) (tb td tp B o c a p v : Nat) (A : Option Addr) (C : Array Value) (vd : Value) (s : By) (l : List Ch) (w : World) (hr : row w B = some C) (hT : T B = tb) (h1 : C[o]? = some vd) (h2 : C[o + 1]? = some (.slice A l.length c))
    (hd : OwB T w td 5 vd s) (hp : ElSl 2 chE T w tp A c l) (hok : Okc s l) (ht : td ≠ tb) (ht2 : tp ≠ td) (ht3 : tp ≠ tb) (ht0 : 0 ≠ td) (ht1 : 0 ≠ tb) (hl : l.length ≤ 1000000000000) (ha : a < 9223372036854775808) (hp2 : p < 9223372036854775808) (hv2 : v < 9223372036854775808) :
    Calls Try.prog 32 #[.pointer (some ⟨B, o, none⟩), .int .i64 (a : Int), .int .i64 (p : Int), .int .i64 (v : Int)] w fun e w' => e = .returned (.tuple #[]) ∧ ∃ T' v', Fr T T' (fun y => y = tb ∨ y = td) w w' ∧ row w' B = some ((C.setIfInBounds o v').setIfInBounds (o + 1) (.slice none 0 0)) ∧
      OwB T' w' td 5 v' (Fl.boot ⟨s, l⟩ a p v).s := by
  have HR := Lib.hid hr
  have HT := Lib.hid hT
  have H1 := Lib.hid h1
  have H2 := Lib.hid h2
  have HD := Lib.hid hd
  have HP := Lib.hid hp
  have HO := Lib.hid hok
  have hlen := hok.first
  have hM := maxF_eq
  have zB := row_lt hr
  obtain ⟨K, hK⟩ : ∃ K, K = a % (l.length + 1) := ⟨_, rfl⟩
  have hKl : K ≤ l.length := by have := Nat.mod_lt a (show 0 < l.length + 1 by omega); omega
  have hpm : (a : Int).tmod ((l.length : Int) + 1) = (K : Int) := by rw [hK, Int.tmod_eq_emod_of_nonneg (by omega)]; rfl
  have hlc := hp.le
  have HK := Lib.hid hK
  have q2 := (cell_row hr (o + 1)).trans h2
  have hfr := run_fromK slc_u chg_i A l.length c K hKl
  have HTE := Lib.hid (tear_any T tp (c - K) p v (l.length - K) (if c = K then A else A.map (·.add (K * 2))) (l.drop K) w (hp.drop K) (by rw [List.length_drop]) (fun x hx => by
    obtain ⟨i, hi, rfl⟩ := List.getElem_of_mem (List.mem_of_mem_drop hx)
    have := (hok.at_ i hi).2
    omega) (by rw [List.length_drop]; omega) hp2 hv2)
  obtain ⟨A', hA'⟩ : ∃ A', A' = (if c = K then A else A.map (·.add (K * 2))) := ⟨_, rfl⟩
  rw [← hA'] at hfr HTE
  obtain ⟨tr, htr⟩ : ∃ tr, tr = tor (l.drop K) p v := ⟨_, rfl⟩
  have HTR := Lib.hid htr
  rw [← htr] at HTE
  clear hr hT h1 h2 hd hp hok hK hA' htr
  go_enter Try.func32, Try.ntmps32
  go_wp2_with fail
  refine HTE.out.mono ?_
  rintro e w2 ⟨v2, rfl, o2, b2⟩
  have O2 := Lib.hid (OwB.of_new (l := tr) o2 rfl (fun _ _ => rfl) T 0)
  have B2 := Lib.hid b2
  have R2 := Lib.hid (carry b2 HR.out)
  have F2 := Lib.hid (Fr.new (T := T) (H := fun y => y = tb ∨ y = td) b2 0)
  have D2 := Lib.hid (HD.out.fr (Fr.new (T := T) (H := fun _ => False) b2 0) (fun e => e))
  have P2 := Lib.hid (HP.out.fr chE_ok (Fr.new (T := T) (H := fun _ => False) b2 0) (fun e => e) (fun e => e))
  have hup := run_uptoK slc_u chg_i A l.length c K (by omega)
  have q2 : w2.cell? ⟨B, o + 1, none⟩ = some (.slice A l.length c) := by rw [cell_row R2.out]; exact H2.out
  have k1 := froz_row R2.out (o + 1)
  have k2 := Lib.hid (setCell_row R2.out (o + 1) (.slice A K c))
  clear o2 b2 HTE hfr hpm
  go_wp2_with fail
  rw [k2.out]
  have hTB : paint T w.heap.size 0 B = tb := by rw [paint_old zB]; exact HT.out
  obtain ⟨C2, hC2⟩ : ∃ C2, C2 = C.setIfInBounds (o + 1) (.slice A K c) := ⟨_, rfl⟩
  have hos : o + 1 < C.size := (Array.getElem?_eq_some_iff.1 H2.out).1
  have c1 : C2[o]? = some vd := by rw [hC2, Array.getElem?_setIfInBounds_ne (by omega)]; exact H1.out
  have c2 : C2[o + 1]? = some (.slice A (l.take K).length c) := by rw [hC2, Array.getElem?_setIfInBounds_self_of_lt hos, List.length_take, Nat.min_eq_left hKl]
  rw [← hC2]
  have f3 := fun H h => Fr.row (T := paint T w.heap.size 0) (w := w2) (H := H) (B := B) h C2
  have R3 := Lib.hid (row_setRow R2.out C2)
  have F3 := Lib.hid (F2.out.trans (f3 _ (.inl hTB)))
  have D3 := Lib.hid (D2.out.fr (f3 (fun y => y = tb) hTB) ht)
  have P3 := Lib.hid ((P2.out.fr chE_ok (f3 (fun y => y = tb) hTB) ht3 ht1).take K)
  have O3 := Lib.hid (O2.out.fr (f3 (fun y => y = tb) hTB) ht1)
  have HC2 := Lib.hid hC2
  obtain ⟨w3, hw3⟩ : ∃ w3, w3 = w2.setRow B C2 := ⟨_, rfl⟩
  rw [← hw3] at R3 F3 D3 P3 O3 ⊢
  clear hw3 f3 k1 k2 q2 hup hC2
  refine (settle_any _ tb td tp B o c A C2 vd s (l.take K) w3 R3.out hTB c1 c2 D3.out P3.out (HO.out.take K) ht ht2 ht0 (by rw [List.length_take]; omega)).mono ?_
  rintro e w4 ⟨rfl, T4, v4, f4, r4, o4⟩
  have F4 := Lib.hid (F3.out.trans f4)
  have O4 := Lib.hid (O3.out.fr f4 (fun e => by omega))
  have R4 := Lib.hid r4
  have D4 := Lib.hid o4
  obtain ⟨A5, c5, hv5, hr5, -⟩ := o4.rd
  obtain ⟨A6, c6, hv6, hr6, -⟩ := (O3.out.fr f4 (fun e => by omega)).rd
  obtain ⟨Ls, hLs⟩ : ∃ Ls, Ls = (has s (l.take K)).length := ⟨_, rfl⟩
  have HLS := Lib.hid hLs
  have hlm : Ls ≤ maxF := by rw [hLs]; exact (HO.out.take K).len
  rw [← hLs] at hv5
  subst hv5
  subst hv6
  have htl : tr.length ≤ maxF := by
    have h1 := torn_len l K p v
    rw [HTR.out, ← torn_tor]
    by_cases hk : K < l.length
    · rw [List.getElem?_eq_getElem hk] at h1
      have h2 := (HO.out.at_ K hk).2
      have h3 : (torn l K p v).length ≤ (l[K]).b.length := h1
      omega
    · rw [List.getElem?_eq_none (by omega)] at h1
      have h3 : (torn l K p v).length ≤ 0 := h1
      omega
  have C4o : ((C2.setIfInBounds o (.slice A5 Ls c5)).setIfInBounds (o + 1) (.slice none 0 0))[o]? = some (.slice A5 Ls c5) := by
    rw [Array.getElem?_setIfInBounds_ne (by omega), Array.getElem?_setIfInBounds_self_of_lt (by rw [HC2.out]; simp; omega)]
  have q2 : w4.cell? ⟨B, o, none⟩ = some (.slice A5 Ls c5) := by rw [cell_row R4.out]; exact C4o
  have S6 := Lib.hid hr6
  have O5 := Lib.hid o4.own
  rw [← hLs] at O5
  clear f4 o4 r4 hr5 hr6 c1 c2 R3 F3 D3 P3 O3 O2 R2 F2 D2 P2 hLs hos C4o
  have HB4 := Lib.hid (show (Value.slice A5 Ls c5).ownBlock ≠ some B from fun e => by
    have h1 := D4.out.tg B e
    rw [F4.out.tag B zB, HT.out] at h1
    exact ht h1.symm)
  have hos : o < ((C2.setIfInBounds o (.slice A5 Ls c5)).setIfInBounds (o + 1) (.slice none 0 0)).size := by
    have := (Array.getElem?_eq_some_iff.1 H2.out).1
    rw [HC2.out]; simp; omega
  go_wp2_with (refine wpl_appB rfl (.tmp 42) (.tmp 43) rfl sli_u u8_info O5.out S6.out.sl (by omega) (Nat.zero_le _) rfl rfl ?_; intro v7 w7 ho7 hg7 ht7
               obtain ⟨A7, c7, hv7, -, -, -⟩ := ho7.sl
               subst hv7
               have R7 := Lib.hid (grown_row hg7 R4.out HB4.out)
               have q7 : w7.cell? ⟨B, o, none⟩ = some (.slice A5 Ls c5) := by rw [cell_row R7.out, ← cell_row R4.out]; exact q2
               have k7 := froz_row R7.out o
               have s7 := Lib.hid (setCell_row R7.out o (.slice A7 (Ls + tr.length) c7)))
  rw [s7.out]
  have D7 := Lib.hid (D4.out.app (m := tr) (by rw [← HLS.out]; exact ho7) hg7 ht7)
  have f7 := Fr.grown (H := fun y => y = tb ∨ y = td) hg7 (fun g hg => .inr (D4.out.tg g hg)) td
  have F7 := Lib.hid (F4.out.trans f7)
  have hTB7 : paint T4 w4.heap.size td B = tb := by rw [F7.out.tag B zB]; exact HT.out
  obtain ⟨C8, hC8⟩ : ∃ C8, C8 = (((C2.setIfInBounds o (.slice A5 Ls c5)).setIfInBounds (o + 1) (.slice none 0 0)).setIfInBounds o (.slice A7 (Ls + tr.length) c7)) := ⟨_, rfl⟩
  have HC8 := Lib.hid (show C8 = (C.setIfInBounds o (.slice A7 (Ls + tr.length) c7)).setIfInBounds (o + 1) (.slice none 0 0) by rw [hC8, HC2.out]; exact rest_set _ _ _ _ _ _)
  rw [← hC8]
  have f8 := fun H h => Fr.row (T := paint T4 w4.heap.size td) (w := w7) (H := H) (B := B) h C8
  have F8 := Lib.hid (F7.out.trans (f8 _ (.inl hTB7)))
  have D8 := Lib.hid (D7.out.fr (f8 (fun y => y = tb) hTB7) ht)
  have R8 := Lib.hid (row_setRow R7.out C8)
  obtain ⟨w8, hw8⟩ : ∃ w8, w8 = w7.setRow B C8 := ⟨_, rfl⟩
  rw [← hw8] at F8 D8 R8 ⊢
  clear hw8 f7 f8 hC8 q7 k7 s7
  go_end0
  refine ⟨rfl, _, _, F8.out, by rw [R8.out, HC8.out], ?_⟩
  show OwB _ _ _ _ _ (has s (l.take (a % (l.length + 1))) ++ torn l (a % (l.length + 1)) p v)
  rw [← HK.out, torn_tor, ← HTR.out]
  exact D8.out
end Go.Proofs.Ythdhbjfenanbnaa.Oct
