/- Contracts of the laws on sessions: kind, own; a table on the way; shown. -/
import Derived.Test.YthokiohdeclmhaaSsE
namespace Go.Proofs.Ythokiohdeclmhaa.Oct
open Go.ChangeShapes Go.WideShapes Go.ChangeAt Go.RowKit Go.Maps
set_option linter.unusedVariables false

/-- which of n kinds -/
def kdS (c : Int) (n : Int) : Int := (if c < 0 then -(c + 1) else c) % n
theorem kdS_nn (c n : Int) (hn : 0 < n) : 0 ≤ kdS c n ∧ kdS c n < n := ⟨Int.emod_nonneg _ (by omega), Int.emod_lt_of_pos _ hn⟩
theorem kindS_any (c n : Int) (hc : -9223372036854775808 ≤ c ∧ c < 9223372036854775808) (hn : 0 < n ∧ n < 1000) (w : World) :
    Calls Try.prog 11 #[.int .i64 c, .int .i64 n] w fun e w' => e = .returned (.int .i64 (kdS c n)) ∧ w = w' := by
  by_cases h : c < 0
  · have hd : decide (c < 0) = true := by simpa using h
    have e : kdS c n = (-(c + 1)).tmod n := by unfold kdS; rw [if_pos h, Int.tmod_eq_emod_of_nonneg (by omega)]
    rw [e]
    have h1 : -9223372036854775808 ≤ (-(c + 1)).tmod n ∧ (-(c + 1)).tmod n < 9223372036854775808 := by
      rw [Int.tmod_eq_emod_of_nonneg (by omega)]
      have := Int.emod_nonneg (-(c + 1)) (show n ≠ 0 by omega)
      have := Int.emod_lt_of_pos (-(c + 1)) hn.1
      omega
    go_enter Try.func11, Try.ntmps11
    go_wp2
    go_ret
    refine ⟨?_, rfl⟩
    show Ending.returned (Value.int .i64 (-((c + 1).tmod n))) = _
    rw [Int.neg_tmod]
  · have hd : decide (c < 0) = false := by simpa using h
    have e : kdS c n = c % n := by unfold kdS; rw [if_neg h]
    rw [e]
    have h1 : -9223372036854775808 ≤ c % n ∧ c % n < 9223372036854775808 := by
      have := Int.emod_nonneg c (show n ≠ 0 by omega)
      have := Int.emod_lt_of_pos c hn.1
      omega
    go_enter Try.func11, Try.ntmps11
    go_wp2
    go_ret
    exact ⟨rfl, rfl⟩
set_option maxRecDepth 20000 in
set_option maxHeartbeats 4000000 in
/-- a reply of one's own, of 100 bytes at most -/
theorem sown_any (x n m : Int) (N c : Nat) (A : Option Addr) (f : Bf) (w : World) (hs : Sl w w.heap.size A N c f) :
    Calls Try.prog 19 #[repV x n m (.slice A N c)] w fun e w' => ∃ A' c', e = .returned (repV x n m (.slice A' (min N 100) c')) ∧ Own w' w.heap.size 5 (.slice A' (min N 100) c') (min N 100) f ∧ Below w.heap.size w w' := by
  obtain ⟨K, hKm⟩ : ∃ K, K = min N 100 := ⟨_, rfl⟩
  rw [← hKm]
  have HKm := Lib.hid hKm
  clear hKm
  obtain ⟨w1, hw1⟩ : ∃ w1, w1 = (w.alloc (.cells #[.int .i64 x, .int .i64 n, .int .i64 m, .slice A N c] 31)).alloc (.cells #[.int .i64 0, .int .i64 0, .int .i64 0, .slice none 0 0] 31) := ⟨_, rfl⟩
  have bw : Below w.heap.size w w1 := by rw [hw1]; exact ((Below.refl _ _).alloc (by simp) _).alloc (by simp) _
  have hz : w1.heap.size = w.heap.size + 2 := by rw [hw1]; simp
  have B1 := Lib.hid bw
  have R1 := Lib.hid (show row w1 w.heap.size = some #[.int .i64 x, .int .i64 n, .int .i64 m, .slice A N c] by rw [hw1]; exact row_alloc (row_alloc_at _ _ _ _ rfl) _)
  have R2 := Lib.hid (show row w1 (w.heap.size + 1) = some #[.int .i64 0, .int .i64 0, .int .i64 0, .slice none 0 0] by rw [hw1]; exact row_alloc_at _ _ _ _ (by simp))
  have S1 := Lib.hid ((hs.below bw).more bw.size)
  have HS := Lib.hid hs
  clear hs bw
  go_enter Try.func19, Try.ntmps19
  go_upto_region 1 with fail
  rw [← hw1]
  clear hw1
  obtain ⟨a0, a1, a2, a3⟩ := cells4 R1.out
  by_cases h : 100 < N
  · have d1 : decide ((100 : Int) < (N : Int)) = true := decide_eq_true (by omega)
    have f3 := froz_row R1.out 3
    have hc100 := S1.out.le
    have qu := run_uptoJ (P := Try.prog) (m := 1) sli_u (by kernel_rfl) A N c 100 (by omega) w1
    obtain ⟨w2, hw2⟩ : ∃ w2, w2 = w1.setRow w.heap.size #[.int .i64 x, .int .i64 n, .int .i64 m, .slice A 100 c] := ⟨_, rfl⟩
    have eK : K = 100 := by have := HKm.out; omega
    have EK := Lib.hid eK
    have hK : K ≤ 100 := by omega
    have R2x := Lib.hid (show row w2 w.heap.size = some #[.int .i64 x, .int .i64 n, .int .i64 m, .slice A K c] by rw [hw2, eK]; exact row_setRow R1.out _)
    have Q2 := Lib.hid (show row w2 (w.heap.size + 1) = some #[.int .i64 0, .int .i64 0, .int .i64 0, .slice none 0 0] by rw [hw2, row_setRow_other _ _ _ _ (by omega)]; exact R2.out)
    have B2 := Lib.hid (show Below w.heap.size w w2 by rw [hw2]; exact below_setRow B1.out (Nat.le_refl _) _)
    have hz2 : w2.heap.size = w.heap.size + 2 := by rw [hw2, setRow_sizeS, hz]
    have S2 := Lib.hid (show Sl w2 w2.heap.size A K c f by rw [hz2]; exact (HS.out.below B2.out).more (by omega) |>.upto K (by omega))
    clear eK
    go_upto_region 3 with fail
    rw [setCell_row R1.out, show (#[.int .i64 x, .int .i64 n, .int .i64 m, .slice A N c] : Array Value).setIfInBounds 3 (.slice A 100 c) = #[.int .i64 x, .int .i64 n, .int .i64 m, .slice A 100 c] from rfl, ← hw2]
    clear qu hw2 f3 a0 a1 a2 a3 R1 R2 S1 B1 hz
    have HZ2 := Lib.hid hz2
    have hlt : w.heap.size < w2.heap.size := by omega
    clear hz2
    have O3 := Lib.hid (show Own (w2.alloc (.cells #[] 5)) w2.heap.size 5 (.slice (some ⟨w2.heap.size, 0, none⟩) 0 0) 0 f from Own.empty w2 w2.heap.size 5 _ (Nat.le_refl _))
    have b3 := (Below.refl w2.heap.size w2).alloc (Nat.le_refl _) (.cells #[] 5)
    have B3 := Lib.hid b3
    have S3 := Lib.hid (S2.out.below b3)
    have hb : w2.heap.size ≤ (w2.alloc (.cells #[] 5)).heap.size := by simp
    have Rx := Lib.hid (carry b3 R2x.out)
    have Qx := Lib.hid (carry b3 Q2.out)
    obtain ⟨a0, a1, a2, a3⟩ := cells4 R2x.out
    clear b3
    go_upto_region 4 with (at_builtin; refine wpl_appB rfl (.tmp 11) (.tmp 13) rfl sli_u u8_info O3.out S3.out (by omega) hb rfl rfl ?_; intro v4 w4 ho4 hg4 ht4; have B4 := O3.out.after hg4 B3.out hb (Nat.le_refl _); rw [Nat.zero_add, catF_zero] at ho4; obtain ⟨A', c', hv4, -, -, -⟩ := ho4.sl; subst hv4; have R4 := carry B4 R2x.out; have f3 := froz_row R4 3; have a3' := (cells4 R4).2.2.2)
    rw [setCell_row R4, show (#[.int .i64 x, .int .i64 n, .int .i64 m, .slice A K c] : Array Value).setIfInBounds 3 (.slice A' K c') = #[.int .i64 x, .int .i64 n, .int .i64 m, .slice A' K c'] from rfl]
    have Q4 := carry B4 Q2.out
    have BB := Lib.hid (below_setRow (onto B2.out B2.out.size B4) (Nat.le_refl w.heap.size) #[.int .i64 x, .int .i64 n, .int .i64 m, .slice A' K c'])
    have OO := Lib.hid (ho4.setRow w.heap.size (fun e => by have := (World.ownsRow.lt ho4 _ e).1; omega) #[.int .i64 x, .int .i64 n, .int .i64 m, .slice A' K c'])
    obtain ⟨w5, hw5⟩ : ∃ w5, w5 = w4.setRow w.heap.size #[.int .i64 x, .int .i64 n, .int .i64 m, .slice A' K c'] := ⟨_, rfl⟩
    have R5 : row w5 w.heap.size = some #[.int .i64 x, .int .i64 n, .int .i64 m, .slice A' K c'] := by rw [hw5]; exact row_setRow R4 _
    have Q5 : row w5 (w.heap.size + 1) = some #[.int .i64 0, .int .i64 0, .int .i64 0, .slice none 0 0] := by rw [hw5, row_setRow_other _ _ _ _ (by omega)]; exact Q4
    rw [← hw5] at BB OO ⊢
    clear hw5 Q4 R4 f3 a3' ho4 hg4 ht4 B4 a0 a1 a2 a3 hb
    go_wp2_with fail
    exact bodyPost_ret (v := repV x n m (.slice A' K c')) (res_cS Try.results19 _ _ (w.heap.size + 1) _ _ rfl (row_setRow Q5 _) Try.underlying31 rfl (by kernel_rfl)) rfl
      ⟨A', c', rfl, (OO.out.setRow _ (fun e => by have := (World.ownsRow.lt OO.out _ e).1; have := HZ2.out; omega) _).base (by have := HZ2.out; omega), below_setRow BB.out (by omega) _⟩
  · have d1 : decide ((100 : Int) < (N : Int)) = false := decide_eq_false (by omega)
    have eK : K = N := by have := HKm.out; omega
    subst eK
    obtain ⟨w2, hw2⟩ : ∃ w2, w2 = w1 := ⟨_, rfl⟩
    have hK : K ≤ 100 := by omega
    have R2x := R1
    have Q2 := R2
    have B2 := B1
    have S2 := S1
    have hz2 := hz
    go_upto_region 3 with fail
    rw [← hw2] at R2x Q2 B2 S2 hz2 ⊢
    clear hw2 a0 a1 a2 a3 R1 R2 S1 B1 hz
    have HZ2 := Lib.hid hz2
    have hlt : w.heap.size < w2.heap.size := by omega
    clear hz2
    have O3 := Lib.hid (show Own (w2.alloc (.cells #[] 5)) w2.heap.size 5 (.slice (some ⟨w2.heap.size, 0, none⟩) 0 0) 0 f from Own.empty w2 w2.heap.size 5 _ (Nat.le_refl _))
    have b3 := (Below.refl w2.heap.size w2).alloc (Nat.le_refl _) (.cells #[] 5)
    have B3 := Lib.hid b3
    have S3 := Lib.hid (S2.out.below b3)
    have hb : w2.heap.size ≤ (w2.alloc (.cells #[] 5)).heap.size := by simp
    have Rx := Lib.hid (carry b3 R2x.out)
    have Qx := Lib.hid (carry b3 Q2.out)
    obtain ⟨a0, a1, a2, a3⟩ := cells4 R2x.out
    clear b3
    go_upto_region 4 with (at_builtin; refine wpl_appB rfl (.tmp 11) (.tmp 13) rfl sli_u u8_info O3.out S3.out (by omega) hb rfl rfl ?_; intro v4 w4 ho4 hg4 ht4; have B4 := O3.out.after hg4 B3.out hb (Nat.le_refl _); rw [Nat.zero_add, catF_zero] at ho4; obtain ⟨A', c', hv4, -, -, -⟩ := ho4.sl; subst hv4; have R4 := carry B4 R2x.out; have f3 := froz_row R4 3; have a3' := (cells4 R4).2.2.2)
    rw [setCell_row R4, show (#[.int .i64 x, .int .i64 n, .int .i64 m, .slice A K c] : Array Value).setIfInBounds 3 (.slice A' K c') = #[.int .i64 x, .int .i64 n, .int .i64 m, .slice A' K c'] from rfl]
    have Q4 := carry B4 Q2.out
    have BB := Lib.hid (below_setRow (onto B2.out B2.out.size B4) (Nat.le_refl w.heap.size) #[.int .i64 x, .int .i64 n, .int .i64 m, .slice A' K c'])
    have OO := Lib.hid (ho4.setRow w.heap.size (fun e => by have := (World.ownsRow.lt ho4 _ e).1; omega) #[.int .i64 x, .int .i64 n, .int .i64 m, .slice A' K c'])
    obtain ⟨w5, hw5⟩ : ∃ w5, w5 = w4.setRow w.heap.size #[.int .i64 x, .int .i64 n, .int .i64 m, .slice A' K c'] := ⟨_, rfl⟩
    have R5 : row w5 w.heap.size = some #[.int .i64 x, .int .i64 n, .int .i64 m, .slice A' K c'] := by rw [hw5]; exact row_setRow R4 _
    have Q5 : row w5 (w.heap.size + 1) = some #[.int .i64 0, .int .i64 0, .int .i64 0, .slice none 0 0] := by rw [hw5, row_setRow_other _ _ _ _ (by omega)]; exact Q4
    rw [← hw5] at BB OO ⊢
    clear hw5 Q4 R4 f3 a3' ho4 hg4 ht4 B4 a0 a1 a2 a3 hb
    go_wp2_with fail
    exact bodyPost_ret (v := repV x n m (.slice A' K c')) (res_cS Try.results19 _ _ (w.heap.size + 1) _ _ rfl (row_setRow Q5 _) Try.underlying31 rfl (by kernel_rfl)) rfl
      ⟨A', c', rfl, (OO.out.setRow _ (fun e => by have := (World.ownsRow.lt OO.out _ e).1; have := HZ2.out; omega) _).base (by have := HZ2.out; omega), below_setRow BB.out (by omega) _⟩
/-- what no call on the program's table changes -/
abbrev Kp := Mk → World → Prop
def Stb (K : Kp) : Prop := ∀ (T T' : Mk) (H : Nat → Prop) (w w' : World), K T w → Fr T T' H w w' → (∀ c, H c → 0 < c ∧ c < 50) → K T' w'
theorem Stb.triv : Stb fun _ _ => True := fun _ _ _ _ _ _ _ _ => trivial
theorem Stb.and {K K' : Kp} (h : Stb K) (h' : Stb K') : Stb fun T w => K T w ∧ K' T w := fun T T' H w w' k f hH => ⟨h T T' H w w' k.1 f hH, h' T T' H w w' k.2 f hH⟩
theorem Stb.rd (t : Nat) (A : Option Addr) (n c : Nat) (f : Bf) (ht : t = 0 ∨ 50 ≤ t) : Stb fun T w => RdS T w t A n c f := fun T T' H w w' k f hH => k.fr f fun h => by have := hH _ h; omega
theorem Stb.row (t b : Nat) (c : Array Value) (ht : 50 ≤ t) : Stb fun T w => Oct.row w b = some c ∧ T b = t := fun T T' H w w' k f hH => ⟨f.rowAt k.1 fun h => by have := hH _ h; omega, by rw [f.tag b (row_lt k.1)]; exact k.2⟩
/-- a table on the way, in a world that began as W, and what stays beside it -/
def PS (K : Kp) (W w : World) (B : Nat) (l : List Se) (g : Int) : Prop := ∃ T mv, Fr (fun _ => 50) T (fun c => 0 < c ∧ c < 50) W w ∧ PtAt T w 1 B mv l g ∧ SsOk l g ∧ K T w
section
variable {K K' : Kp} {W w w' : World} {B : Nat} {l : List Se} {g : Int}
theorem PS.bel (h : PS K W w B l g) : Below W.heap.size W w := by
  obtain ⟨T, mv, hf, -, -⟩ := h
  exact hf.below (Nat.le_refl _) fun k _ => by omega
theorem PS.mono (h : PS K W w B l g) (hk : ∀ T, K T w → K' T w) : PS K' W w B l g := by
  obtain ⟨T, mv, hf, hp, ho, k⟩ := h
  exact ⟨T, mv, hf, hp, ho, hk T k⟩
theorem PS.ok (h : PS K W w B l g) : SsOk l g := by obtain ⟨T, mv, hf, hp, ho, k⟩ := h; exact ho
theorem PS.fact (h : PS K W w B l g) : ∃ T, K T w := by obtain ⟨T, mv, hf, hp, ho, k⟩ := h; exact ⟨T, k⟩
theorem PS.add (h : PS K W w B l g) (hK : Stb K) (hb : Below w.heap.size w w') (t : Nat) (ht : 50 ≤ t) (hk : ∀ T, K' (paint T w.heap.size t) w') : PS (fun T w => K T w ∧ K' T w) W w' B l g := by
  obtain ⟨T, mv, hf, hp, ho, k⟩ := h
  exact ⟨_, mv, hf.trans (Fr.new hb t), hp.fr (Fr.new (H := fun _ => False) hb t) (fun h => h) (fun h => h) (fun h => h), ho, hK _ _ _ _ _ k (Fr.new (H := fun _ => False) hb t) (fun _ h => h.elim), hk T⟩
theorem PS.calm (h : PS K W w B l g) (hK : Stb K) (hb : Below w.heap.size w w') : PS K W w' B l g := (h.add hK hb 50 (Nat.le_refl _) (K' := fun _ _ => True) fun _ => trivial).mono fun _ h => h.1
theorem PS.reads (h : PS K W w B l g) (hK : Stb K) {A : Option Addr} {n c : Nat} {f : Bf} {u : TypeId} (ho : Own w' w.heap.size u (.slice A n c) n f) (hb : Below w.heap.size w w') : PS (fun T w => K T w ∧ RdS T w 51 A n c f) W w' B l g :=
  h.add hK hb 51 (by omega) fun T => ho.rdS T 51
theorem ps_new (w : World) : Calls Try.prog 9 #[] w fun e w' => ∃ B, e = .returned (.pointer (some ⟨B, 0, none⟩)) ∧ PS (fun _ _ => True) w w' B [] 0 := by
  refine (snew_any (fun _ => 50) 1 w).mono ?_
  rintro e w' ⟨B, rfl, hp, hb⟩
  exact ⟨B, rfl, _, none, Fr.new hb 1, hp, SsOk.nil, trivial⟩
theorem H2_1 {c : Nat} (h : H2 1 c) : 0 < c ∧ c < 50 := by unfold H2 at h; omega
theorem ps_open (h : PS K W w B l g) (hK : Stb K) : Calls Try.prog 12 #[.pointer (some ⟨B, 0, none⟩)] w fun e w' => e = .returned (.tuple #[.int .i64 (opN l g), .int .i64 (opE l g)]) ∧ PS K W w' B (opL l g) (opG l g) := by
  obtain ⟨T, mv, hf, hp, hk, k⟩ := h
  refine (popen_any T 1 B mv l g w hp (by omega) hk).mono ?_
  rintro e w' ⟨rfl, T', mv', hf', hp'⟩
  exact ⟨rfl, T', mv', hf.trans (hf'.mono fun c hc => H2_1 hc), hp', hk.opn, hK _ _ _ _ _ k hf' fun c hc => H2_1 hc⟩
theorem ps_exp (h : PS K W w B l g) (hK : Stb K) (id : Int) (hi : i64B id) : Calls Try.prog 14 #[.pointer (some ⟨B, 0, none⟩), .int .i64 id] w fun e w' => e = .returned (.int .i64 (exE l id)) ∧ PS K W w' B (ssX l id) g := by
  obtain ⟨T, mv, hf, hp, hk, k⟩ := h
  refine (pexp_any T 1 B mv l g id w hp (by omega) hk hi).mono ?_
  rintro e w' ⟨rfl, T', mv', hf', hp'⟩
  exact ⟨rfl, T', mv', hf.trans (hf'.mono fun c hc => H2_1 hc), hp', hk.drop id, hK _ _ _ _ _ k hf' fun c hc => H2_1 hc⟩
theorem ps_ask (h : PS K W w B l g) (hK : Stb K) (id q : Int) (hi : i64B id) : Calls Try.prog 16 #[.pointer (some ⟨B, 0, none⟩), .int .i64 id, .int .i64 q] w fun e w' => ∃ A c, e = .returned (.tuple #[repV (akS l id q).c (akS l id q).n (akS l id q).m (.slice A (akS l id q).T c), .bool (akB l id q), .int .i64 (akE l id q)]) ∧
      Own w' w.heap.size 5 (.slice A (akS l id q).T c) (akS l id q).T (akS l id q).f ∧ Sl w' w'.heap.size A (akS l id q).T c (akS l id q).f ∧ PS K W w' B l g ∧ Below w.heap.size w w' := by
  obtain ⟨T, mv, hf, hp, hk, k⟩ := h
  refine (pask_any T 1 B mv l g id q w hp hk hi).mono ?_
  rintro e w' ⟨A, c, rfl, ho, hb⟩
  refine ⟨A, c, rfl, ho, ?_, PS.calm ⟨T, mv, hf, hp, hk, k⟩ hK hb, hb⟩
  obtain ⟨A1, c1, e1, hs, -, -⟩ := ho.sl
  cases e1
  exact hs
theorem ps_done (x : Se) {A : Option Addr} {c : Nat} (h : PS (fun T w => K T w ∧ RdS T w 51 A x.T c x.f) W w B l g) (hK : Stb K) (hi : i64B x.id) (hn : x.T ≤ 140737488355328) : Calls Try.prog 20 #[.pointer (some ⟨B, 0, none⟩), .int .i64 x.id, .int .i64 x.q, repV x.c x.n x.m (.slice A x.T c)] w fun e w' => e = .returned (.int .i64 (dnE l x.id x.q)) ∧ PS (fun T w => K T w ∧ RdS T w 51 A x.T c x.f) W w' B (dnL l x) g := by
  obtain ⟨T, mv, hf, hp, hk, k, hs⟩ := h
  refine (pdone_any T 1 B mv l g x A c w hp (by omega) hk hi hs (by unfold H2; omega) hn).mono ?_
  rintro e w' ⟨rfl, T', mv', hf', hp'⟩
  exact ⟨rfl, T', mv', hf.trans (hf'.mono fun c hc => H2_1 hc), hp', hk.dn x hn, hK _ _ _ _ _ k hf' fun c hc => H2_1 hc, hs.fr hf' (by unfold H2; omega)⟩
theorem PS.nobytes (h : PS K W w B l g) (f : Bf) : PS (fun T w => K T w ∧ RdS T w 51 none 0 0 f) W w B l g := h.mono fun T k => ⟨k, RdS.nil _ _ _ _⟩
theorem ps_seats (h : PS K W w B l g) (hK : Stb K) : Calls Try.prog 23 #[.pointer (some ⟨B, 0, none⟩)] w fun e w' => ∃ A c, e = .returned (.tuple #[.slice A l.length c, .int .i64 (g + 1)]) ∧ PS (fun T w => K T w ∧ ElAt 6 seEl T w 20 A c l) W w' B l g := by
  obtain ⟨T, mv, hf, hp, hk, k⟩ := h
  refine (pseats_any T 1 20 B mv l g w hp (by omega) (by omega) (by omega) (by omega) hk).mono ?_
  rintro e w' ⟨A, c, T', rfl, he, hf'⟩
  exact ⟨A, c, rfl, T', mv, hf.trans (hf'.mono fun c hc => by omega), hp.fr hf' (by omega) (by omega) (by omega), hk, hK _ _ _ _ _ k hf' fun c hc => by omega, he⟩
theorem ps_own (h : PS K W w B l g) (hK : Stb K) (x n m : Int) (N c : Nat) (A : Option Addr) (f : Bf) (hs : Sl w w.heap.size A N c f) :
    Calls Try.prog 19 #[repV x n m (.slice A N c)] w fun e w' => ∃ A' c', e = .returned (repV x n m (.slice A' (min N 100) c')) ∧ PS (fun T w => K T w ∧ RdS T w 51 A' (min N 100) c' f) W w' B l g ∧ Own w' w.heap.size 5 (.slice A' (min N 100) c') (min N 100) f ∧ Sl w' w'.heap.size A' (min N 100) c' f ∧ Below w.heap.size w w' := by
  refine (sown_any x n m N c A f w hs).mono ?_
  rintro e w' ⟨A', c', rfl, ho, hb⟩
  refine ⟨A', c', rfl, h.reads hK ho hb, ho, ?_, hb⟩
  obtain ⟨A1, c1, e1, hs, -, -⟩ := ho.sl
  cases e1
  exact hs
end
end Go.Proofs.Ythokiohdeclmhaa.Oct
