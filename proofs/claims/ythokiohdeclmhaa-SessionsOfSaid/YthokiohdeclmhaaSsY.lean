/- Contracts: sessions' isZero, isNone; slices.IndexFunc and ContainsFunc with it; inOrder. -/
import Derived.Test.YthokiohdeclmhaaSsX
namespace Go.Proofs.Ythokiohdeclmhaa.Oct
open Go.ChangeShapes Go.WideShapes Go.ChangeAt Go.RowKit Go.Maps
set_option linter.unusedVariables false

/-- a reply that tells nothing; a session that no session can be like -/
def zB (c n m : Int) (T : Nat) : Bool := (c == 0) && ((n == 0) && ((m == 0) && ((T : Int) == 0)))
def noB (s : Se) : Bool := decide (s.q < 0) || (decide (1099511627776 < s.q) || ((((repE s.c s.n s.m s.T : Nat) : Int) != 0) || ((s.q == 0) && !zB s.c s.n s.m s.T)))
set_option maxRecDepth 20000 in
set_option maxHeartbeats 4000000 in
theorem pzero_any (c n m : Int) (T k : Nat) (A : Option Addr) (w : World) : Calls Try.prog 45 #[repV c n m (.slice A T k)] w fun e w' => e = .returned (.bool (zB c n m T)) ∧ Below w.heap.size w w' := by
  have HB := Lib.hid (show ∀ z, Below w.heap.size w (w.alloc z) from fun z => (Below.refl w.heap.size w).alloc (by simp) z)
  have hV : zB c n m T = ((c == 0) && ((n == 0) && ((m == 0) && ((T : Int) == 0)))) := rfl
  cases h0 : (c == 0) <;> cases h1 : (n == 0) <;> cases h2 : (m == 0) <;> cases h3 : ((T : Int) == 0) <;> rw [h0, h1, h2, h3] at hV <;> rw [hV] <;> clear hV <;>
  · go_enter Try.func45, Try.ntmps45
    go_wp2_with fail
    go_ret
    exact ⟨rfl, HB.out _⟩
set_option maxRecDepth 20000 in
set_option maxHeartbeats 8000000 in
theorem pnone_any (s : Se) (c : Nat) (A : Option Addr) (w : World) (hs : Sl w w.heap.size A s.T c s.f) (hb : ∀ j, -9223372036854775808 ≤ repN s.c s.n s.m j ∧ repN s.c s.n s.m j < 9223372036854775808) :
    Calls Try.prog 36 #[seV s (.slice A s.T c)] w fun e w' => e = .returned (.bool (noB s)) ∧ Below w.heap.size w w' := by
  obtain ⟨w1, hw1⟩ : ∃ w1, w1 = w.alloc (.cells #[.int .i64 s.id, .int .i64 s.q, .int .i64 s.c, .int .i64 s.n, .int .i64 s.m, .slice A s.T c] 50) := ⟨_, rfl⟩
  have bw : Below w.heap.size w w1 := by rw [hw1]; exact (Below.refl _ _).alloc (by simp) _
  have B1 := Lib.hid bw
  have R1 := Lib.hid (show row w1 w.heap.size = some #[.int .i64 s.id, .int .i64 s.q, .int .i64 s.c, .int .i64 s.n, .int .i64 s.m, .slice A s.T c] by rw [hw1]; exact row_alloc_at _ _ _ _ rfl)
  have H1 := Lib.hid (reply_any s.c s.n s.m s.T c A s.f w1 ((hs.below bw).more bw.size) hb)
  have HN := Lib.hid (show noB s = (decide (s.q < 0) || (decide (1099511627776 < s.q) || ((((repE s.c s.n s.m s.T : Nat) : Int) != 0) || ((s.q == 0) && !zB s.c s.n s.m s.T)))) from rfl)
  obtain ⟨N, hN⟩ : ∃ N, N = noB s := ⟨_, rfl⟩
  obtain ⟨E, hE⟩ : ∃ E, E = repE s.c s.n s.m s.T := ⟨_, rfl⟩
  rw [← hE, ← hN] at HN
  rw [← hE] at H1
  rw [← hN]
  clear hs hb bw hE hN
  go_enter Try.func36, Try.ntmps36
  go_upto_region 1 with fail
  rw [← hw1]
  clear hw1
  have r1 := R1.out
  obtain ⟨a0, a1, a2, a3, a4, a5⟩ := cells6 r1
  go_wp2_with fail
  refine H1.out.mono ?_
  intro e w2 hp
  obtain ⟨V, rfl, hb2⟩ : ∃ V, e = .returned (.tuple #[V, .int .i64 ((E : Nat) : Int)]) ∧ Below w1.heap.size w1 w2 := by
    rcases hp with ⟨-, rfl, hb⟩ | ⟨rfl, v, rfl, -, hb⟩
    · exact ⟨_, rfl, hb⟩
    · exact ⟨v, rfl, hb⟩
  have R2 := Lib.hid (carry hb2 r1)
  have B2 := Lib.hid (onto B1.out B1.out.size hb2)
  clear hp hb2 a0 a1 a2 a3 a4 a5 r1 H1 R1 B1
  obtain ⟨b1, hb1⟩ : ∃ b, b = decide (s.q < 0) := ⟨_, rfl⟩
  obtain ⟨b2, hb2⟩ : ∃ b, b = decide (1099511627776 < s.q) := ⟨_, rfl⟩
  obtain ⟨b3, hb3⟩ : ∃ b, b = ((E : Int) != 0) := ⟨_, rfl⟩
  obtain ⟨b4, hb4⟩ : ∃ b, b = (s.q == 0) := ⟨_, rfl⟩
  obtain ⟨b5, hb5⟩ : ∃ b, b = zB s.c s.n s.m s.T := ⟨_, rfl⟩
  rw [← hb1, ← hb2, ← hb3, ← hb4, ← hb5] at HN
  have d1 := hb1.symm
  have d2 := hb2.symm
  have d3 := hb3.symm
  have d4 := hb4.symm
  have H5 := fun w => pzero_any s.c s.n s.m s.T c A w
  rw [← hb5] at H5
  have H5' := Lib.hid H5
  clear hb1 hb2 hb3 hb4 hb5 H5
  have r2 := R2.out
  obtain ⟨a0, a1, a2, a3, a4, a5⟩ := cells6 r2
  cases b1 with
  | true =>
    have HN2 := Lib.hid (show N = true by rw [HN.out]; simp)
    clear HN
    go_wp2_with fail
    go_ret
    exact ⟨by rw [HN2.out] <;> rfl, B2.out⟩
  | false =>
    cases b2 with
    | true =>
      have HN2 := Lib.hid (show N = true by rw [HN.out]; simp)
      clear HN
      go_wp2_with fail
      go_ret
      exact ⟨by rw [HN2.out] <;> rfl, B2.out⟩
    | false =>
      cases b3 with
      | true =>
        have HN2 := Lib.hid (show N = true by rw [HN.out]; simp)
        clear HN
        go_wp2_with fail
        go_ret
        exact ⟨by rw [HN2.out] <;> rfl, B2.out⟩
      | false =>
        cases b4 with
        | false =>
          have HN2 := Lib.hid (show N = false by rw [HN.out]; simp)
          clear HN
          go_wp2_with fail
          go_ret
          exact ⟨by rw [HN2.out] <;> rfl, B2.out⟩
        | true =>
          have HN2 := Lib.hid (show N = !b5 by rw [HN.out]; simp)
          clear HN
          go_wp2_with fail
          refine (H5'.out w2).mono ?_
          rintro e w4 ⟨rfl, hb⟩
          have B4 := Lib.hid (onto B2.out B2.out.size hb)
          clear hb
          go_wp2_with fail
          go_ret
          exact ⟨by rw [HN2.out] <;> rfl, B4.out⟩
set_option maxRecDepth 20000 in
set_option maxHeartbeats 4000000 in
theorem pixs_any (l : List Se) (A : Option Addr) (c : Nat) (w : World) (h : SeRd w A c l) (hl : l.length ≤ 1000000) (hb : ∀ s ∈ l, ∀ j, -9223372036854775808 ≤ repN s.c s.n s.m j ∧ repN s.c s.n s.m j < 9223372036854775808) :
    Calls Try.prog 43 #[.slice A l.length c, .func (.func 36) #[] #[]] w fun e w' => ∃ r : Int, e = .returned (.int .i64 r) ∧ (((∀ s ∈ l, noB s = false) ∧ r = -1) ∨ ((∃ s ∈ l, noB s = true) ∧ 0 ≤ r)) ∧ Below w.heap.size w w' := by
  have H1 := Lib.hid h
  have HB := Lib.hid hb
  have hle := h.le
  obtain ⟨n, hn⟩ : ∃ n, n = l.length := ⟨_, rfl⟩
  have HN := Lib.hid hn
  rw [← hn] at hle hl ⊢
  clear h hb hn
  go_enter Try.func43, Try.ntmps43
  go_wp2_with fail
  go_loopw [8] (fun iv wr => ∃ i : Nat, i ≤ n ∧ iv = .int .i64 i ∧ Below w.heap.size w wr ∧ ∀ j (hj : j < l.length), j < i → noB l[j] = false) (fun iv _ => n - (intOf iv).toNat)
  case atStart => exact ⟨0, by omega, rfl, Below.refl _ _, fun j _ hj => absurd hj (by omega)⟩
  case round =>
    obtain ⟨k, hk, rfl, hb, hall⟩ := hrel
    obtain ⟨w1, rfl⟩ : ∃ w1 : World, w1 = wr := ⟨_, rfl⟩
    have Bo := Lib.hid hb
    have HALL := Lib.hid hall
    clear hb hall
    by_cases hlk : k < n
    · have hkl : k < l.length := by have := HN.out; omega
      have hd : decide ((k : Int) < (n : Int)) = true := by simp; omega
      obtain ⟨g2, o2, V, kk, rfl, f2⟩ := H1.out.seat hkl
      obtain ⟨x, hx⟩ : ∃ x, x = l[k] := ⟨_, rfl⟩
      have f3 := f2 w1 Bo.out
      have hbx := HB.out l[k] (List.getElem_mem hkl)
      rw [← hx] at f3 hbx
      have q2 := f3.2.2.2.1
      have HC := Lib.hid (pnone_any x kk V w1 f3.2.2.2.2 hbx)
      have HX := Lib.hid hx
      obtain ⟨b, hbv⟩ : ∃ b, b = noB x := ⟨_, rfl⟩
      rw [← hbv] at HC
      have HV := Lib.hid hbv
      clear hx hbv f2 f3 hbx
      go_wp2_with fail
      refine HC.out.mono ?_
      rintro e w2 ⟨rfl, hb2⟩
      have B2 := Lib.hid (onto Bo.out Bo.out.size hb2)
      clear HC hb2 q2
      cases b with
      | false =>
        go_wp2_with fail
        go_roundw
        case rel => exact ⟨k + 1, by omega, by go_num, B2.out, fun j hj hjk => by
          by_cases hjk2 : j < k
          · exact HALL.out j hj hjk2
          · obtain rfl : j = k := by omega
            rw [← HX.out]; exact HV.out.symm⟩
        case measure => simp [intOf]; omega
      | true =>
        go_wp2_with fail
        go_ret
        exact ⟨_, rfl, .inr ⟨⟨l[k], List.getElem_mem hkl, by rw [← HX.out]; exact HV.out.symm⟩, by omega⟩, B2.out⟩
    · obtain rfl : k = n := by omega
      have hd : decide ((k : Int) < (k : Int)) = false := by simp
      go_wp2_with fail
      go_ret
      exact ⟨_, rfl, .inl ⟨fun s hs => by
        obtain ⟨i, hi, rfl⟩ := List.getElem_of_mem hs
        exact HALL.out i hi (by have := HN.out; omega), rfl⟩, Bo.out⟩
set_option maxRecDepth 20000 in
theorem pcts_any (l : List Se) (A : Option Addr) (c : Nat) (w : World) (h : SeRd w A c l) (hl : l.length ≤ 1000000) (hb : ∀ s ∈ l, ∀ j, -9223372036854775808 ≤ repN s.c s.n s.m j ∧ repN s.c s.n s.m j < 9223372036854775808) :
    Calls Try.prog 35 #[.slice A l.length c, .func (.func 36) #[] #[]] w fun e w' => ∃ b : Bool, e = .returned (.bool b) ∧ (b = true ↔ ∃ s ∈ l, noB s = true) ∧ Below w.heap.size w w' := by
  have H1 := Lib.hid (pixs_any l A c w h hl hb)
  clear h hb
  go_enter Try.func35, Try.ntmps35
  go_wp2_with fail
  refine H1.out.mono ?_
  rintro e w1 ⟨r, rfl, h, hb1⟩
  have B1 := Lib.hid hb1
  clear H1 hb1
  rcases h with ⟨h1, rfl⟩ | ⟨h1, h2⟩
  · have HQ := Lib.hid h1
    clear h1
    go_wp2_with fail
    go_ret
    exact ⟨_, rfl, ⟨fun h => (by simp at h), fun ⟨s, hs, e⟩ => (by rw [HQ.out s hs] at e; cases e)⟩, B1.out⟩
  · have hd : decide (0 ≤ r) = true := by simp; omega
    have HQ := Lib.hid h1
    clear h1 h2
    go_wp2_with fail
    go_ret
    exact ⟨_, rfl, ⟨fun _ => HQ.out, fun _ => rfl⟩, B1.out⟩
/-- the number ahead of number i -/
def lst (l : List Se) (i : Nat) : Int := if h : 0 < i ∧ i - 1 < l.length then (l[i - 1]).id else 0
theorem lst_0 (l : List Se) : lst l 0 = 0 := by unfold lst; rw [dif_neg (by omega)]
theorem lst_s (l : List Se) (i : Nat) (h : i < l.length) : lst l (i + 1) = (l[i]).id := by unfold lst; rw [dif_pos ⟨by omega, by omega⟩]; rfl
set_option maxRecDepth 20000 in
set_option maxHeartbeats 4000000 in
theorem pord_any (l : List Se) (A : Option Addr) (c : Nat) (next : Int) (w : World) (h : SeRd w A c l) (hl : l.length ≤ 1000000) :
    Calls Try.prog 34 #[.slice A l.length c, .int .i64 next] w fun e w' => ∃ b : Bool, e = .returned (.bool b) ∧ (b = true ↔ (∀ i, i < l.length → lst l i < lst l (i + 1)) ∧ lst l l.length < next) ∧ Below w.heap.size w w' := by
  have H1 := Lib.hid h
  have hle := h.le
  obtain ⟨n, hn⟩ : ∃ n, n = l.length := ⟨_, rfl⟩
  have HN := Lib.hid hn
  rw [← hn] at hle hl ⊢
  clear h hn
  go_enter Try.func34, Try.ntmps34
  go_wp2_with fail
  go_loopw [5, 10] (fun lv iv wr => ∃ i : Nat, i ≤ n ∧ iv = .int .i64 i ∧ lv = .int .i64 (lst l i) ∧ Below w.heap.size w wr ∧ ∀ j, j < i → lst l j < lst l (j + 1)) (fun _ iv _ => n - (intOf iv).toNat)
  case atStart => exact ⟨0, by omega, rfl, by rw [lst_0], Below.refl _ _, fun j hj => absurd hj (by omega)⟩
  case round =>
    obtain ⟨k, hk, rfl, rfl, hb, hall⟩ := hrel
    obtain ⟨w1, rfl⟩ : ∃ w1 : World, w1 = wr := ⟨_, rfl⟩
    have Bo := Lib.hid hb
    have HALL := Lib.hid hall
    clear hb hall
    obtain ⟨la, hla⟩ : ∃ la, la = lst l k := ⟨_, rfl⟩
    rw [← hla]
    have HLA := Lib.hid hla
    clear hla
    by_cases hlk : k < n
    · have hkl : k < l.length := by have := HN.out; omega
      have hd : decide ((k : Int) < (n : Int)) = true := by simp; omega
      have hw : IntKind.i64.wrap ((k : Int) + 1) = (k : Int) + 1 := IntWalk.i64_in _ (by omega)
      obtain ⟨g2, o2, V, kk, rfl, f2⟩ := H1.out.seat hkl
      obtain ⟨x, hx⟩ : ∃ x, x = l[k] := ⟨_, rfl⟩
      have f3 := f2 w1 Bo.out
      rw [← hx] at f3
      have q2 := f3.2.2.2.1
      have HX := Lib.hid (show lst l (k + 1) = x.id by rw [lst_s l k hkl, hx])
      obtain ⟨w2, hw2⟩ : ∃ w2, w2 = w1.alloc (.cells #[.int .i64 x.id, .int .i64 x.q, .int .i64 x.c, .int .i64 x.n, .int .i64 x.m, .slice V x.T kk] 50) := ⟨_, rfl⟩
      have B2 := Lib.hid (show Below w.heap.size w w2 by rw [hw2]; exact Bo.out.alloc Bo.out.size _)
      have R2 := Lib.hid (show row w2 w1.heap.size = some #[.int .i64 x.id, .int .i64 x.q, .int .i64 x.c, .int .i64 x.n, .int .i64 x.m, .slice V x.T kk] by rw [hw2]; exact row_alloc_at _ _ _ _ rfl)
      clear hx f2 f3
      go_upto_region 5 with fail
      rw [← hw2]
      clear hw2 q2
      obtain ⟨a0, a1, a2, a3, a4, a5⟩ := cells6 R2.out
      by_cases hlt : x.id ≤ la
      · have d2 : decide (x.id ≤ la) = true := decide_eq_true hlt
        have HF := Lib.hid (show ¬ (∀ i, i < n → lst l i < lst l (i + 1)) from fun h => by have := h k hlk; rw [HX.out, ← HLA.out] at this; omega)
        clear hlt
        go_wp2_with fail
        go_ret
        exact ⟨_, rfl, ⟨fun h => (by cases h), fun h => absurd h.1 HF.out⟩, B2.out⟩
      · have d2 : decide (x.id ≤ la) = false := decide_eq_false hlt
        have HF := Lib.hid (show lst l k < lst l (k + 1) by rw [HX.out, ← HLA.out]; omega)
        clear hlt
        go_wp2_with fail
        refine ⟨⟨k + 1, by omega, by rw [Int.natCast_succ], by rw [HX.out], B2.out, fun j hj => ?_⟩, ?_⟩
        · by_cases hjk : j < k
          · exact HALL.out j hjk
          · obtain rfl : j = k := by omega
            exact HF.out
        · simp only [intOf]
          omega
    · obtain rfl : k = n := by omega
      have hd : decide ((k : Int) < (k : Int)) = false := by simp
      go_wp2_with fail
      go_ret
      exact ⟨_, rfl, ⟨fun h => ⟨HALL.out, by rw [← HLA.out]; exact of_decide_eq_true h⟩, fun h => decide_eq_true (by rw [HLA.out]; exact h.2)⟩, Bo.out⟩
end Go.Proofs.Ythokiohdeclmhaa.Oct
