/- Contracts: Done, Expire of the reference. -/
import Derived.Test.YthokiohdeclmhaaSsQ
namespace Go.Proofs.Ythokiohdeclmhaa.Oct
open Go.ChangeShapes Go.WideShapes Go.ChangeAt Go.RowKit Go.Maps
set_option linter.unusedVariables false

/-- one seat is written over, but for its number -/
theorem ElAt.put {T T' : Mk} {w w' : World} {t g o c : Nat} {l : List Se} {cur : Array Value} (h : ElAt 6 seEl T w t (some ⟨g, o, none⟩) c l) (hr : row w g = some cur) {i : Nat} (hi : i < l.length) (x : Se) (hx : (l[i]).id = x.id) {V : Option Addr} {cV : Nat}
    (hV : RdS T' w' 0 V x.T cV x.f) {H : Nat → Prop} (hf : Fr T T' H w w') (h0 : ¬ H 0)
    (hr' : row w' g = some (spl (cur.setIfInBounds (o + i * 6 + 1) (.int .i64 x.q)) (o + i * 6 + 2) [.int .i64 x.c, .int .i64 x.n, .int .i64 x.m, .slice V x.T cV])) : ElAt 6 seEl T' w' t (some ⟨g, o, none⟩) c (l.set i x) := by
  have hle := h.le
  refine ⟨by rw [List.length_set]; exact hle, h.big, fun hc => ?_⟩
  obtain ⟨g2, o2, cur2, e, hr2, hs, hT, hel⟩ := h.at_ hc
  cases e
  rw [hr] at hr2
  cases hr2
  have hm : (i + 1) * 6 ≤ c * 6 := Nat.mul_le_mul_right 6 (by omega)
  have hsz : (cur.setIfInBounds (o + i * 6 + 1) (.int .i64 x.q)).size = cur.size := by simp
  refine ⟨g, o, _, rfl, hr', by rw [spl_size, hsz]; exact hs, by rw [hf.tag g (row_lt hr)]; exact hT, fun j hj => ?_⟩
  have hj' : j < l.length := by rw [List.length_set] at hj; exact hj
  have hb : o + i * 6 + 2 + 4 ≤ (cur.setIfInBounds (o + i * 6 + 1) (.int .i64 x.q)).size := by rw [hsz]; omega
  by_cases hji : j = i
  · subst hji
    refine ⟨_, ⟨V, cV, by rw [List.getElem_set_self], by rw [List.getElem_set_self]; exact hV⟩, fun k hk => ?_⟩
    obtain ⟨vs, ⟨A', c', rfl, -⟩, hcs⟩ := hel j hj'
    have hc0 := hcs 0 (by omega)
    rw [spl_get _ _ _ _ hb]
    match k with
    | 0 => rw [if_neg (by simp only [List.length_cons, List.length_nil]; omega), Array.getElem?_setIfInBounds_ne (by omega), hc0]; rw [hx]; rfl
    | 1 => rw [if_neg (by simp only [List.length_cons, List.length_nil]; omega), Array.getElem?_setIfInBounds_self_of_lt (by omega)]; rfl
    | 2 => rw [if_pos (by simp only [List.length_cons, List.length_nil]; omega), show o + j * 6 + 2 - (o + j * 6 + 2) = 0 by omega]; rfl
    | 3 => rw [if_pos (by simp only [List.length_cons, List.length_nil]; omega), show o + j * 6 + 3 - (o + j * 6 + 2) = 1 by omega]; rfl
    | 4 => rw [if_pos (by simp only [List.length_cons, List.length_nil]; omega), show o + j * 6 + 4 - (o + j * 6 + 2) = 2 by omega]; rfl
    | 5 => rw [if_pos (by simp only [List.length_cons, List.length_nil]; omega), show o + j * 6 + 5 - (o + j * 6 + 2) = 3 by omega]; rfl
    | k + 6 => omega
  · obtain ⟨vs, hv, hcs⟩ := hel j hj'
    rw [List.getElem_set_ne (by omega)]
    refine ⟨vs, seEl_ok.fr hv hf h0, fun k hk => ?_⟩
    rw [← hcs k hk, spl_get _ _ _ _ hb]
    have hne : o + j * 6 + k < o + i * 6 + 1 ∨ o + i * 6 + 5 < o + j * 6 + k := by
      rcases Nat.lt_or_ge j i with h1 | h1
      · have : (j + 1) * 6 ≤ i * 6 := Nat.mul_le_mul_right 6 h1
        omega
      · have : (i + 1) * 6 ≤ j * 6 := Nat.mul_le_mul_right 6 (by omega)
        omega
    rw [if_neg (by simp only [List.length_cons, List.length_nil]; omega), Array.getElem?_setIfInBounds_ne (by omega)]
theorem ssD_set {l : List Se} (hup : l.Pairwise fun a b => a.id < b.id) {i : Nat} (hi : i < l.length) {x : Se} (hx : (l[i]).id = x.id) : ssD l x = l.set i x := by
  induction l generalizing i with
  | nil => exact absurd hi (by simp)
  | cons a r ih =>
    obtain ⟨p1, p2⟩ := List.pairwise_cons.1 hup
    unfold ssD
    rw [List.map_cons]
    cases i with
    | zero =>
      have hx : a.id = x.id := hx
      rw [if_pos (by simpa using hx)]
      show x :: r.map _ = x :: r
      congr 1
      refine (List.map_congr_left fun s hs => ?_).trans (List.map_id r)
      have := p1 s hs
      rw [if_neg (by simp; omega)]
      rfl
    | succ i =>
      have hi' : i < r.length := by simpa using hi
      have hx' : (r[i]).id = x.id := hx
      have h1 := p1 _ (List.getElem_mem hi')
      rw [if_neg (by simp; omega)]
      show a :: ssD r x = a :: r.set i x
      rw [ih p2 hi' hx']
set_option maxRecDepth 20000 in
set_option maxHeartbeats 8000000 in
theorem rdone_any (T : Mk) (t B : Nat) (A : Option Addr) (c : Nat) (l : List Se) (g : Int) (x : Se) (Ax : Option Addr) (cx : Nat) (w : World) (hY : YtAt T w t B A c l g) (ht : 0 < t) (hK : SsOk l g) {tx : Nat} (hs : RdS T w tx Ax x.T cx x.f) (htx : ¬ H2 t tx) (hn : x.T ≤ 140737488355328) :
    Calls Try.prog 21 #[.pointer (some ⟨B, 0, none⟩), .int .i64 x.id, .int .i64 x.q, repV x.c x.n x.m (.slice Ax x.T cx)] w fun e w' => e = .returned (.int .i64 (dnE l x.id x.q)) ∧ ∃ T' A' c', Fr T T' (H2 t) w w' ∧ YtAt T' w' t B A' c' (dnL l x) g := by
  obtain ⟨w1, hw1⟩ : ∃ w1, w1 = w.alloc (.cells #[.int .i64 x.c, .int .i64 x.n, .int .i64 x.m, .slice Ax x.T cx] 31) := ⟨_, rfl⟩
  have bw : Below w.heap.size w w1 := by rw [hw1]; exact (Below.refl _ _).alloc (by simp) _
  have Y1 := Lib.hid (hY.fr (Fr.new (H := fun _ => False) bw t) (fun h => h) (fun h => h) (fun h => h))
  have F1 := Lib.hid (show Fr T (paint T w.heap.size t) (H2 t) w w1 from Fr.new bw t)
  have S1 := Lib.hid (hs.fr (Fr.new (H := fun _ => False) bw t) (fun h => h))
  have R1 := Lib.hid (show row w1 w.heap.size = some #[.int .i64 x.c, .int .i64 x.n, .int .i64 x.m, .slice Ax x.T cx] by rw [hw1]; exact row_alloc_at _ _ _ _ rfl)
  have X1 := Lib.hid (show paint T w.heap.size t w.heap.size = t from paint_new (Nat.le_refl _))
  have HU := Lib.hid hK.up
  have HBW := Lib.hid (show B ≠ w.heap.size by have := row_lt hY.row; omega)
  have hn8 := hK.n
  obtain ⟨T1, hT1⟩ : ∃ T1, T1 = paint T w.heap.size t := ⟨_, rfl⟩
  rw [← hT1] at Y1 F1 S1 X1
  have H1 := Lib.hid (rat_any T1 t B A c l g x.id w1 Y1.out (by omega))
  clear bw hY hs hT1 hK
  go_enter Try.func21, Try.ntmps21
  go_upto_region 1 with fail
  rw [← hw1]
  clear hw1
  go_wp2_with fail
  refine H1.out.mono ?_
  rintro e w2 ⟨rfl, ⟨i, hi, rfl, h1, h2⟩ | ⟨rfl, h⟩⟩
  · have hG := ssG_at hi h1 h2
    have hd0 : decide ((i : Int) < 0) = false := decide_eq_false (by omega)
    obtain ⟨a0, a1⟩ := cells2S Y1.out.row
    obtain ⟨gk, ok, cur, A', c', rfl, hr, hTk, hcur, hrd, b0, b1, -, -⟩ := Y1.out.el.seat hi
    have hle := Y1.out.el.le
    have HI := Lib.hid h1
    obtain ⟨sq, hsq⟩ : ∃ sq, sq = (l[i]).q := ⟨_, rfl⟩
    rw [← hsq] at b1
    have hE : dnE l x.id x.q = if x.q ≤ sq then 151 else 0 := by unfold dnE; rw [hG, hsq]
    have HR := Lib.hid hr
    have HT := Lib.hid hTk
    have HC := Lib.hid hcur
    clear hr hTk hrd b0 h1 h2 hG hsq hcur
    by_cases q1 : x.q ≤ sq
    · have d1 : decide (x.q ≤ sq) = true := decide_eq_true q1
      rw [if_pos q1] at hE
      have E1 := Lib.hid hE
      have E2 := Lib.hid (show dnL l x = l by unfold dnL; rw [hE]; exact if_neg (by omega))
      clear hE q1
      go_wp2_with fail
      go_ret
      rw [E1.out, E2.out]
      exact ⟨rfl, T1, _, _, F1.out, Y1.out⟩
    · have d1 : decide (x.q ≤ sq) = false := decide_eq_false q1
      rw [if_neg q1] at hE
      have E1 := Lib.hid hE
      have E2 := Lib.hid (show dnL l x = l.set i x by unfold dnL; rw [hE, if_pos rfl]; exact ssD_set HU.out hi HI.out)
      clear hE q1
      have fz := froz_row HR.out (ok + i * 6 + 1)
      have hgw : gk ≠ w.heap.size := fun e => by have a := HT.out; rw [e, X1.out] at a; omega
      have hgB : gk ≠ B := fun e => by have a := HT.out; rw [e, Y1.out.tg] at a; omega
      have HGW := Lib.hid hgw
      have HGB := Lib.hid hgB
      clear hgw hgB
      go_upto_region 7 with fail
      rw [setCell_row HR.out]
      obtain ⟨cur1, hcur1⟩ : ∃ cur1, cur1 = cur.setIfInBounds (ok + i * 6 + 1) (.int .i64 x.q) := ⟨_, rfl⟩
      rw [← hcur1]
      have hsz1 : cur1.size = cur.size := by rw [hcur1]; simp
      have f3 := Fr.row (T := T1) (H := fun c => c = t + 1) (w := w2) (B := gk) HT.out cur1
      have R3 := Lib.hid (row_setRow HR.out cur1)
      have Q3 := Lib.hid ((row_setRow_other w2 gk w.heap.size cur1 (fun e => HGW.out e.symm)).trans R1.out)
      have S3 := Lib.hid (S1.out.fr f3 (fun e => htx (.inr e)))
      have N3 := Lib.hid ((row_setRow_other w2 gk B cur1 (fun e => HGB.out e.symm)).trans Y1.out.row)
      have F3 := Lib.hid f3
      have hz3 : w.heap.size < (w2.setRow gk cur1).heap.size := row_lt Q3.out
      have HCUR := Lib.hid hcur1
      obtain ⟨w3, hw3⟩ : ∃ w3, w3 = w2.setRow gk cur1 := ⟨_, rfl⟩
      rw [← hw3] at R3 Q3 S3 F3 N3 hz3 ⊢
      clear hw3 f3 a0 a1 b1 fz hcur1
      have O3 := Lib.hid (show Own (w3.alloc (.cells #[] 5)) w3.heap.size 5 (.slice (some ⟨w3.heap.size, 0, none⟩) 0 0) 0 x.f from Own.empty w3 w3.heap.size 5 _ (Nat.le_refl _))
      have b3 := (Below.refl w3.heap.size w3).alloc (Nat.le_refl _) (.cells #[] 5)
      have B3 := Lib.hid b3
      have S3x := Lib.hid (S3.out.sl.below b3)
      have hb : w3.heap.size ≤ (w3.alloc (.cells #[] 5)).heap.size := by simp
      obtain ⟨e0, e1, e2, e3⟩ := cells4 Q3.out
      clear b3
      go_upto_region 8 with (at_builtin; refine wpl_appB rfl (.tmp 33) (.tmp 35) rfl sli_u u8_info O3.out S3x.out (by omega) hb rfl rfl ?_; intro v4 w4 ho4 hg4 ht4; have B4 := O3.out.after hg4 B3.out hb (Nat.le_refl _); rw [Nat.zero_add, catF_zero] at ho4; obtain ⟨A4, c4, hv4, -, -, -⟩ := ho4.sl; subst hv4; have R4 := carry B4 Q3.out; have f4 := froz_row R4 3; have e3' := (cells4 R4).2.2.2)
      rw [setCell_row R4, show (#[.int .i64 x.c, .int .i64 x.n, .int .i64 x.m, .slice Ax x.T cx] : Array Value).setIfInBounds 3 (.slice A4 x.T c4) = #[.int .i64 x.c, .int .i64 x.n, .int .i64 x.m, .slice A4 x.T c4] from rfl]
      have fA := Fr.new (T := T1) (H := fun _ => False) B4 0
      have DA := ho4.rdS T1 0
      obtain ⟨T4, hT4⟩ : ∃ T4, T4 = paint T1 w3.heap.size 0 := ⟨_, rfl⟩
      rw [← hT4] at fA DA
      clear hT4
      have hX4 : T4 w.heap.size = t := by rw [fA.tag _ hz3]; exact X1.out
      have f5 := Fr.row (T := T4) (H := fun c => c = t) (w := w4) (B := w.heap.size) hX4 (#[.int .i64 x.c, .int .i64 x.n, .int .i64 x.m, .slice A4 x.T c4] : Array Value)
      have R5 := Lib.hid (row_setRow R4 #[.int .i64 x.c, .int .i64 x.n, .int .i64 x.m, .slice A4 x.T c4])
      have hG4 : T4 gk = t + 1 := by rw [fA.tag _ (row_lt R3.out)]; exact HT.out
      have hB4 : T4 B = t := by rw [fA.tag _ (row_lt N3.out)]; exact Y1.out.tg
      have K5 := Lib.hid (f5.rowAt (carry B4 R3.out) (by rw [hG4]; omega))
      have N5 := Lib.hid ((row_setRow_other w4 w.heap.size B #[.int .i64 x.c, .int .i64 x.n, .int .i64 x.m, .slice A4 x.T c4] HBW.out).trans (carry B4 N3.out))
      have D5 := Lib.hid (DA.fr f5 (by omega))
      have F5 := Lib.hid ((fA.mono (H' := H2 t) fun c hc => hc.elim).trans (f5.mono fun c hc => (.inl hc : H2 t c)))
      have T5 := Lib.hid (And.intro hG4 hB4)
      obtain ⟨w5, hw5⟩ : ∃ w5, w5 = w4.setRow w.heap.size #[.int .i64 x.c, .int .i64 x.n, .int .i64 x.m, .slice A4 x.T c4] := ⟨_, rfl⟩
      rw [← hw5] at R5 K5 N5 D5 F5 ⊢
      clear hw5 f5 fA DA hX4 hG4 hB4 R4 f4 e3' ho4 hg4 ht4 B4 e0 e1 e2 e3 hb O3 B3 S3x R3 Q3 S3 N3 hz3
      refine flow_seen [([0, 1, 2, 3, 4, 5, 6, 7], 8, true)] [] (by kernel_rfl) (by kernel_rfl) (fun _ _ _ _ _ h => h) fun Z => ?_
      have R6 := Lib.hid (carry Z.below R5.out)
      have K6 := Lib.hid (carry Z.below K5.out)
      have N6 := Lib.hid (carry Z.below N5.out)
      have f6 := Fr.calm (T := T4) (T' := T4) (H := fun _ => False) Z.below fun _ _ => rfl
      have D6 := Lib.hid (D5.out.fr f6 (fun h => h))
      have F6 := Lib.hid (F5.out.trans (f6.mono (H' := H2 t) fun c hc => hc.elim))
      obtain ⟨w6, hw6⟩ : ∃ w6, w6 = Z.val := ⟨_, rfl⟩
      rw [← hw6] at R6 K6 N6 D6 F6 ⊢
      clear hw6 Z f6 R5 K5 N5 D5 F5
      have cB := fun y : After w6 => cells2S (After.row N6.out y)
      have cR := fun y : After w6 => After.row R6.out y
      have hst : stR Try.prog 31 4 w6 gk (ok + i * 6 + 2) (.agg #[.int .i64 x.c, .int .i64 x.n, .int .i64 x.m, .slice A4 x.T c4]) (some cur1) = .ok () (w6.setRow gk (spl cur1 (ok + i * 6 + 2) [.int .i64 x.c, .int .i64 x.n, .int .i64 x.m, .slice A4 x.T c4])) := by
        unfold stR
        have hm : (i + 1) * 6 ≤ c * 6 := Nat.mul_le_mul_right 6 (by omega)
        have h3 := HC.out
        simp only [if_pos (show ok + i * 6 + 2 + 4 ≤ cur1.size ∧ (Value.agg #[.int .i64 x.c, .int .i64 x.n, .int .i64 x.m, .slice A4 x.T c4]).cells.size = 4 ∧ Ones (Value.agg #[.int .i64 x.c, .int .i64 x.n, .int .i64 x.m, .slice A4 x.T c4]).cells from ⟨by omega, rfl, ones4 _ _ _ _ _ _⟩)]
        rfl
      have kk := K6.out
      simp only [wpFs, pk, List.getElem?_cons_zero, List.getElem?_cons_succ]
      repeat (go_big_quiet_step (fail))
      refine wpQuiet_nil ?_
      clear cB cR
      go_wp2_with fail
      first | refine ⟨.inl trivial, ?_⟩ | skip
      show wpQuiet _ _ _ _ _ _
      refine wpQuiet_nil ?_
      have f7 := Fr.row (T := T4) (H := fun c => c = t + 1) (w := w6) (B := gk) T5.out.1 (spl cur1 (ok + i * 6 + 2) [.int .i64 x.c, .int .i64 x.n, .int .i64 x.m, .slice A4 x.T c4])
      go_wp2_with fail
      go_ret
      rw [E1.out, E2.out]
      have FF := ((F1.out.trans (F3.out.mono (H' := H2 t) fun c hc => .inr hc)).trans F6.out).trans (f7.mono (H' := H2 t) fun c hc => .inr hc)
      have FF2 := ((F3.out.mono (H' := H2 t) fun c hc => .inr hc).trans F6.out).trans (f7.mono (H' := H2 t) fun c hc => .inr hc)
      exact ⟨rfl, T4, some ⟨gk, ok, none⟩, c, FF, ⟨by rw [List.length_set]; exact f7.rowAt N6.out (by rw [T5.out.2]; omega), T5.out.2, Y1.out.el.put HR.out hi x HI.out (D6.out.fr f7 (by omega)) FF2 (by unfold H2; omega) (by rw [← HCUR.out]; exact row_setRow K6.out _)⟩⟩
  · have hG := ssG_not h
    have hd0 : decide ((-1 : Int) < 0) = true := rfl
    have hE : dnE l x.id x.q = 150 := by unfold dnE; rw [hG]
    have E1 := Lib.hid hE
    have E2 := Lib.hid (show dnL l x = l by unfold dnL; rw [hE]; exact if_neg (by omega))
    clear hG h hE
    go_wp2_with fail
    go_ret
    rw [E1.out, E2.out]
    exact ⟨rfl, T1, _, _, F1.out, Y1.out⟩
theorem ssX_at {l : List Se} (hup : l.Pairwise fun a b => a.id < b.id) {i : Nat} (hi : i < l.length) {id : Int} (hx : (l[i]).id = id) : ssX l id = l.take i ++ l.drop (i + 1) := by
  induction l generalizing i with
  | nil => exact absurd hi (by simp)
  | cons a r ih =>
    obtain ⟨p1, p2⟩ := List.pairwise_cons.1 hup
    unfold ssX
    rw [List.filter_cons]
    cases i with
    | zero =>
      have hx : a.id = id := hx
      rw [show (a.id == id) = true by simpa using hx]
      show r.filter _ = r
      rw [List.filter_eq_self]
      intro s hs
      have := p1 s hs
      simp
      omega
    | succ i =>
      have hi' : i < r.length := by simpa using hi
      have hx' : (r[i]).id = id := hx
      have h1 := p1 _ (List.getElem_mem hi')
      rw [show (a.id == id) = false by simp; omega]
      show a :: ssX r id = a :: (r.take i ++ r.drop (i + 1))
      rw [ih p2 hi' hx']
set_option maxRecDepth 20000 in
set_option maxHeartbeats 8000000 in
theorem rexp15_any (T : Mk) (t B : Nat) (A : Option Addr) (c : Nat) (l : List Se) (g id : Int) (w : World) (hY : YtAt T w t B A c l g) (ht : 0 < t) (hK : SsOk l g) (hid : i64B id) :
    Calls Try.prog 15 #[.pointer (some ⟨B, 0, none⟩), .int .i64 id] w fun e w' => e = .returned (.int .i64 (exE l id)) ∧ ∃ T' A' c', Fr T T' (H2 t) w w' ∧ YtAt T' w' t B A' c' (ssX l id) g := by
  have HY := Lib.hid hY
  have HU := Lib.hid hK.up
  have hn8 := hK.n
  have H1 := Lib.hid (rat_any T t B A c l g id w hY (by omega))
  clear hY hK
  go_enter Try.func15, Try.ntmps15
  go_wp2_with fail
  refine H1.out.mono ?_
  rintro e w2 ⟨rfl, ⟨i, hi, rfl, h1, h2⟩ | ⟨rfl, h⟩⟩
  · have hG := ssG_at hi h1 h2
    have hd0 : decide ((i : Int) < 0) = false := decide_eq_false (by omega)
    have hE : exE l id = 0 := by unfold exE; rw [ssH_G, hG]; rfl
    have E1 := Lib.hid hE
    have E2 := Lib.hid (ssX_at HU.out hi h1)
    obtain ⟨a0, a1⟩ := cells2S HY.out.row
    have hle := HY.out.el.le
    have qu := run_uptoJ (P := Try.prog) (m := 6) ssl_u se_i A l.length c i (by omega)
    have qf := run_fromJ (P := Try.prog) (m := 6) ssl_u se_i A l.length c (i + 1) (by omega)
    clear hG hE h1 h2
    have hBl := row_lt HY.out.row
    have b3 := (Below.refl w2.heap.size w2).alloc (Nat.le_refl _) (.cells #[] 50)
    have f3 := Fr.new (T := T) (H := fun _ => False) b3 0
    have Y3 := HY.out.fr f3 (fun h => h) (fun h => h) (fun h => h)
    obtain ⟨e1, E3⟩ := Y3.el.upto i (by omega)
    have E3 := Lib.hid E3
    have Y3 := Lib.hid Y3
    have F3 := Lib.hid (f3.mono (H' := H2 t) fun c hc => hc.elim)
    have e1 := Lib.hid e1
    have he1 := e1.out
    have hEq : (Value.slice A i c) = .slice A (l.take i).length c := by rw [e1.out]
    clear b3 f3
    go_upto_region 5 with (at_builtin; refine wpl_appNilS seEl_ok rfl (.tmp 12) (.tmp 18) rfl ssl_u se_info rfl (by decide) (by decide) E3.out (by omega) w2.heap.size (t + 1) (by simp [Act.eval]) (by simp [Act.eval, he1]) ?_; intro q4 c4 w4 e4 b4; simp only [he1])
    have f4 := Fr.new (T := paint T w2.heap.size 0) (H := fun _ => False) b4 (t + 1)
    have Y4 := Lib.hid (Y3.out.fr f4 (fun h => h) (fun h => h) (fun h => h))
    have F4 := Lib.hid (F3.out.trans (f4.mono (H' := H2 t) fun c hc => hc.elim))
    have E4 := Lib.hid e4
    obtain ⟨T4, hT4⟩ : ∃ T4, T4 = paint (paint T w2.heap.size 0) (w2.alloc (.cells #[] 50)).heap.size (t + 1) := ⟨_, rfl⟩
    rw [← hT4] at Y4 F4 E4
    clear hT4 e4 b4 f4 Y3 F3 E3 a0 a1 qu
    obtain ⟨e5, D4⟩ := Y4.out.el.from_ (i + 1) (by omega)
    have e5 := Lib.hid e5
    obtain ⟨AF, hAF⟩ : ∃ AF, AF = (if c = i + 1 then A else A.map (·.add ((i + 1) * 6))) := ⟨_, rfl⟩
    obtain ⟨nF, hnF⟩ : ∃ nF, nF = l.length - (i + 1) := ⟨_, rfl⟩
    obtain ⟨cF, hcF⟩ : ∃ cF, cF = c - (i + 1) := ⟨_, rfl⟩
    rw [← hAF, ← hcF] at D4
    have D4 := Lib.hid D4
    have qf2 : ∀ w : World, (Instr.slice 43 (.slice A l.length c) (some (.int .i64 ((i : Int) + 1))) none none).run Try.prog w = .ok (.slice AF nF cF) w := fun w => by
      have h := qf w
      rw [← hAF, ← hnF, ← hcF, Int.natCast_succ] at h
      exact h
    rw [← hnF] at e5
    have HN := Lib.hid hnF
    clear hAF hnF hcF qf
    obtain ⟨a0, a1⟩ := cells2S Y4.out.row
    have hw : IntKind.i64.wrap ((i : Int) + 1) = (i : Int) + 1 := IntWalk.i64_in _ (by omega)
    by_cases hn0 : nF = 0
    · subst hn0
      have hdrop : l.drop (i + 1) = [] := List.eq_nil_of_length_eq_zero e5.out
      have hle4 : i ≤ c4 := by have := E4.out.le; rw [e1.out] at this; exact this
      have r6 := Y4.out.row
      have fz := froz_row r6 0
      have t6 := Y4.out.tg
      obtain ⟨T6, hT6⟩ : ∃ T6, T6 = T4 := ⟨_, rfl⟩
      have E6 := E4
      have F6 := F4
      rw [← hT6] at E6 F6 t6
      clear hT6 he1 hEq
      go_upto_region 6 with (at_builtin; refine wpl_appNo rfl (.tmp 21) (.tmp 28) rfl ssl_u se_i (q := q4) (V := AF) (cV := cF) hle4 (by simp [Act.eval]) (by simp [Act.eval]) ?_)
      rw [setCell_row r6, show (#[.slice A l.length c, .int .i64 (g + 1)] : Array Value).setIfInBounds 0 (.slice (some ⟨q4, 0, none⟩) i c4) = #[.slice (some ⟨q4, 0, none⟩) i c4, .int .i64 (g + 1)] from rfl]
      have f7 := Fr.row (T := T6) (H := fun c => c = t) (w := w4) (B := B) t6 (#[.slice (some ⟨q4, 0, none⟩) i c4, .int .i64 (g + 1)] : Array Value)
      have r7 := row_setRow r6 #[.slice (some ⟨q4, 0, none⟩) i c4, .int .i64 (g + 1)]
      have E7 := Lib.hid (E6.out.fr seEl_ok f7 (by omega) (by omega))
      have F7 := Lib.hid (F6.out.trans (f7.mono fun c hc => (.inl hc : H2 t c)))
      have R7 := Lib.hid r7
      go_wp2_with fail
      go_ret
      rw [E1.out, E2.out]
      refine ⟨rfl, T6, some ⟨q4, 0, none⟩, c4, F7.out, ⟨?_, t6, by rw [hdrop, List.append_nil]; exact E7.out⟩⟩
      rw [R7.out]
      rw [hdrop, List.append_nil, e1.out]
    · have hpos : 0 < (l.drop (i + 1)).length := by rw [e5.out]; omega
      obtain ⟨vs, hvl, hx, hone, hSS⟩ := ElAt.src seEl_ok (P := Try.prog) (tt := 43) ssl_u se_i D4.out hpos
      have he5 := e5.out
      rw [he5] at hSS
      have HT := Lib.hid e1.out
      go_upto_region 6 with (at_builtin; refine wpl_appSrc seEl_ok rfl (.tmp 21) (.tmp 28) rfl ssl_u se_info rfl (by decide) (by decide) E4.out (V := .slice AF nF cF) (xs := l.drop (i + 1)) (vs := vs) (by rw [he5]; exact hSS) hvl hx hpos hone (by rw [e1.out, e5.out]; omega) (by omega) (by simp [Act.eval, he1]) (by simp [Act.eval]) ?_; intro A6 c6 w6 e6 f6; have r6 := f6.rowAt Y4.out.row (by rw [Y4.out.tg]; omega); have fz := froz_row r6 0; have a0' := (cells2S r6).1; simp only [he1, he5])
      rw [setCell_row r6, show (#[.slice A l.length c, .int .i64 (g + 1)] : Array Value).setIfInBounds 0 (.slice A6 (i + nF) c6) = #[.slice A6 (i + nF) c6, .int .i64 (g + 1)] from rfl]
      have t6 : paint T4 w4.heap.size (t + 1) B = t := by rw [f6.tag B (row_lt Y4.out.row)]; exact Y4.out.tg
      obtain ⟨T6, hT6⟩ : ∃ T6, T6 = paint T4 w4.heap.size (t + 1) := ⟨_, rfl⟩
      rw [← hT6] at e6 f6 t6
      have f7 := Fr.row (T := T6) (H := fun c => c = t) (w := w6) (B := B) t6 (#[.slice A6 (i + nF) c6, .int .i64 (g + 1)] : Array Value)
      have r7 := row_setRow r6 #[.slice A6 (i + nF) c6, .int .i64 (g + 1)]
      have E7 := Lib.hid (e6.fr seEl_ok f7 (by omega) (by omega))
      have F7 := Lib.hid ((F4.out.trans (f6.mono (H' := H2 t) fun c hc => .inr hc)).trans (f7.mono fun c hc => (.inl hc : H2 t c)))
      have R7 := Lib.hid r7
      go_wp2_with fail
      go_ret
      rw [E1.out, E2.out]
      refine ⟨rfl, T6, A6, c6, F7.out, ⟨?_, t6, E7.out⟩⟩
      rw [R7.out, List.length_append, e1.out, e5.out]
  · have hG := ssG_not h
    have hd0 : decide ((-1 : Int) < 0) = true := rfl
    have hH : ssH l id = false := by rw [ssH_G, hG]; rfl
    have E1 := Lib.hid (show exE l id = 150 by unfold exE; rw [hH]; rfl)
    have E2 := Lib.hid (ssX_none hH)
    clear hG h hH
    go_wp2_with fail
    go_ret
    rw [E1.out, E2.out]
    exact ⟨rfl, T, _, _, Fr.refl _ _ _, HY.out⟩
end Go.Proofs.Ythokiohdeclmhaa.Oct
