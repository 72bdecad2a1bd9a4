/- Both tables on SessionsPlay's way. -/
import Derived.Test.YthokiohdeclmhaaSsW
namespace Go.Proofs.Ythokiohdeclmhaa.Oct
open Go.ChangeShapes Go.WideShapes Go.ChangeAt Go.RowKit Go.Maps
set_option linter.unusedVariables false

/-- what no call on either table changes -/
def Stz (K : Kp) : Prop := ∀ (T T' : Mk) (H : Nat → Prop) (w w' : World), K T w → Fr T T' H w w' → (∀ c, H c → (0 < c ∧ c < 50) ∨ 60 ≤ c) → K T' w'
/-- nor what is written over -/
def Sto (K : Kp) : Prop := ∀ (T T' : Mk) (H : Nat → Prop) (w w' : World), K T w → Fr T T' H w w' → (∀ c, H c → c ≠ 0 ∧ c ≠ 50) → K T' w'
theorem Sto.stz {K : Kp} (h : Sto K) : Stz K := fun T T' H w w' k f hH => h T T' H w w' k f fun c hc => by have := hH c hc; omega
theorem Sto.triv : Sto fun _ _ => True := fun _ _ _ _ _ _ _ _ => trivial
theorem Sto.row (b : Nat) (c : Array Value) : Sto fun T w => Oct.row w b = some c ∧ T b = 50 := fun T T' H w w' k f hH => ⟨f.rowAt k.1 fun h => by have := hH _ h; rw [k.2] at this; omega, by rw [f.tag b (row_lt k.1)]; exact k.2⟩
theorem Sto.and {K K' : Kp} (h : Sto K) (h' : Sto K') : Sto fun T w => K T w ∧ K' T w := fun T T' H w w' k f hH => ⟨h T T' H w w' k.1 f hH, h' T T' H w w' k.2 f hH⟩
theorem Stz.and {K K' : Kp} (h : Stz K) (h' : Stz K') : Stz fun T w => K T w ∧ K' T w := fun T T' H w w' k f hH => ⟨h T T' H w w' k.1 f hH, h' T T' H w w' k.2 f hH⟩
theorem Stz.rd (t : Nat) (A : Option Addr) (n c : Nat) (f : Bf) (ht : t = 0 ∨ (50 ≤ t ∧ t < 60)) : Stz fun T w => RdS T w t A n c f := fun T T' H w w' k fr hH => k.fr fr fun h => by have := hH _ h; omega
/-- cells that may be written over -/
def WrB (t : Nat) (A : Option Addr) (n : Nat) : Kp := fun T w => 0 < n → ∃ g o cur, A = some ⟨g, o, none⟩ ∧ row w g = some cur ∧ o + n ≤ cur.size ∧ T g = t
theorem Stz.wr (t : Nat) (A : Option Addr) (n : Nat) (ht : 50 ≤ t ∧ t < 60) : Stz (WrB t A n) := fun T T' H w w' k f hH hn => by
  obtain ⟨g, o, cur, e, hr, hs, hT⟩ := k hn
  exact ⟨g, o, cur, e, f.rowAt hr fun h => by have := hH _ h; omega, hs, by rw [f.tag g (row_lt hr)]; exact hT⟩
theorem Own.wr {w' : World} {D n c : Nat} {A : Option Addr} {f : Bf} {u : TypeId} (h : Own w' D u (.slice A n c) n f) (T : Mk) (t : Nat) : WrB t A n (paint T D t) w' := fun hn => by
  have hl := h
  unfold Own at h
  rcases h.2 with ⟨e, h0⟩ | ⟨g, cap, cur, e, hb, hh, hc, hm, hcs, htk⟩
  · omega
  · cases e
    exact ⟨g, 0, cur, rfl, row_of hh, by omega, paint_new hb⟩
theorem ElAt.wr {T : Mk} {w : World} {t : Nat} {A : Option Addr} {c : Nat} {l : List Se} (h : ElAt 6 seEl T w t A c l) : WrB t A (l.length * 6) T w := fun hn => by
  obtain ⟨g, o, cur, e, hr, hs, hT, -⟩ := h.at_ (by have := h.le; omega)
  have := Nat.mul_le_mul_right 6 h.le
  exact ⟨g, o, cur, e, hr, by omega, hT⟩
theorem PtAt.re {T T2 : Mk} {w : World} {t t2 B : Nat} {mv : Option Nat} {l : List Se} {g : Int} (h : PtAt T w t B mv l g) (h1 : ∀ j, T j = t → T2 j = t2) (h2 : ∀ j, T j = t + 1 → T2 j = t2 + 1) (h0 : ∀ j, T j = 0 → T2 j = 0) : PtAt T2 w t2 B mv l g :=
  ⟨h.row, h1 _ h.tg, by
    rcases h.mp with e | ⟨M, e, hT, hM⟩
    · exact .inl e
    · exact .inr ⟨M, e, h2 _ hT, hM.re h0⟩⟩
theorem ElAt.reS {T T2 : Mk} {w : World} {t : Nat} {A : Option Addr} {c : Nat} {l : List Se} (h : ElAt 6 seEl T w t A c l) (h1 : ∀ j, T j = t → T2 j = t) (h0 : ∀ j, T j = 0 → T2 j = 0) : ElAt 6 seEl T2 w t A c l :=
  ⟨h.le, h.big, fun hc => by
    obtain ⟨g, o, cur, e, hr, hs, hT, hel⟩ := h.at_ hc
    exact ⟨g, o, cur, e, hr, hs, h1 _ hT, fun i hi => by obtain ⟨vs, a, b⟩ := hel i hi; exact ⟨vs, seEl_ok.re a h0, b⟩⟩⟩
/-- both tables, in a world that began as W, and what stays beside them -/
def PZ (K : Kp) (W w : World) (B B' : Nat) (l l' : List Se) (g g' : Int) : Prop :=
  ∃ T mv A c, Fr (fun _ => 50) T (fun c => 0 < c ∧ c ≠ 50) W w ∧ PtAt T w 1 B mv l g ∧ YtAt T w 60 B' A c l' g' ∧ SsOk l g ∧ SsOk l' g' ∧ K T w
section
variable {K K' : Kp} {W w w' : World} {B B' : Nat} {l l' : List Se} {g g' : Int}
theorem PZ.bel (h : PZ K W w B B' l l' g g') : Below W.heap.size W w := by
  obtain ⟨T, mv, A, c, hf, -⟩ := h
  exact hf.below (Nat.le_refl _) fun k _ => by omega
theorem PZ.mono (h : PZ K W w B B' l l' g g') (hk : ∀ T, K T w → K' T w) : PZ K' W w B B' l l' g g' := by
  obtain ⟨T, mv, A, c, hf, hp, hy, h1, h2, k⟩ := h
  exact ⟨T, mv, A, c, hf, hp, hy, h1, h2, hk T k⟩
theorem PZ.ok (h : PZ K W w B B' l l' g g') : SsOk l g ∧ SsOk l' g' := by obtain ⟨T, mv, A, c, hf, hp, hy, h1, h2, k⟩ := h; exact ⟨h1, h2⟩
theorem PZ.fact (h : PZ K W w B B' l l' g g') : ∃ T, K T w := by obtain ⟨T, mv, A, c, hf, hp, hy, h1, h2, k⟩ := h; exact ⟨T, k⟩
/-- the reference's row -/
theorem PZ.rows (h : PZ K W w B B' l l' g g') : ∃ A c, row w B' = some #[.slice A l'.length c, .int .i64 (g' + 1)] ∧ SeRd w A c l' := by obtain ⟨T, mv, A, c, hf, hp, hy, h1, h2, k⟩ := h; exact ⟨A, c, hy.row, hy.el.serd⟩
theorem PZ.add (h : PZ K W w B B' l l' g g') (hK : Stz K) (hb : Below w.heap.size w w') (t : Nat) (ht : 50 ≤ t ∧ t < 60) (hk : ∀ T, K' (paint T w.heap.size t) w') : PZ (fun T w => K T w ∧ K' T w) W w' B B' l l' g g' := by
  obtain ⟨T, mv, A, c, hf, hp, hy, h1, h2, k⟩ := h
  have f := Fr.new (T := T) (H := fun _ => False) hb t
  exact ⟨_, mv, A, c, hf.trans (f.mono fun _ h => h.elim), hp.fr f (fun h => h) (fun h => h) (fun h => h), hy.fr f (fun h => h) (fun h => h) (fun h => h), h1, h2, hK _ _ _ _ _ k f (fun _ h => h.elim), hk T⟩
theorem PZ.calm (h : PZ K W w B B' l l' g g') (hK : Stz K) (hb : Below w.heap.size w w') : PZ K W w' B B' l l' g g' := (h.add hK hb 50 (by omega) (K' := fun _ _ => True) fun _ => trivial).mono fun _ h => h.1
/-- a block of mark t is written over -/
theorem PZ.over (h : PZ (fun T w => K T w ∧ K' T w) W w B B' l l' g g') (hK : Sto K) {b t : Nat} (ht : 50 < t ∧ t < 60) (c : Array Value) (hT : ∀ T, K T w ∧ K' T w → T b = t) (hk : ∀ T, K' T w → T b = t → K' T (w.setRow b c)) : PZ (fun T w => K T w ∧ K' T w) W (w.setRow b c) B B' l l' g g' := by
  obtain ⟨T, mv, A, c', hf, hp, hy, h1, h2, k, k'⟩ := h
  have hTb := hT T ⟨k, k'⟩
  have f := Fr.row (T := T) (H := fun x => x = t) (w := w) (B := b) hTb c
  exact ⟨T, mv, A, c', hf.trans (f.mono fun x hx => by omega), hp.fr f (by omega) (by omega) (by omega), hy.fr f (by omega) (by omega) (by omega), h1, h2, hK _ _ _ _ _ k f (fun x hx => by omega), hk T k' hTb⟩
theorem H2_60 {c : Nat} (h : H2 60 c) : 60 ≤ c := by unfold H2 at h; omega
theorem pz_open (h : PZ K W w B B' l l' g g') (hK : Stz K) : Calls Try.prog 12 #[.pointer (some ⟨B, 0, none⟩)] w fun e w' => e = .returned (.tuple #[.int .i64 (opN l g), .int .i64 (opE l g)]) ∧ PZ K W w' B B' (opL l g) l' (opG l g) g' := by
  obtain ⟨T, mv, A, c, hf, hp, hy, h1, h2, k⟩ := h
  refine (popen_any T 1 B mv l g w hp (by omega) h1).mono ?_
  rintro e w' ⟨rfl, T', mv', hf', hp'⟩
  exact ⟨rfl, T', mv', A, c, hf.trans (hf'.mono fun c hc => by have := H2_1 hc; omega), hp', hy.fr hf' (by unfold H2; omega) (by unfold H2; omega) (by unfold H2; omega), h1.opn, h2, hK _ _ _ _ _ k hf' fun c hc => .inl (H2_1 hc)⟩
theorem rz_open (h : PZ K W w B B' l l' g g') (hK : Stz K) : Calls Try.prog 13 #[.pointer (some ⟨B', 0, none⟩)] w fun e w' => e = .returned (.tuple #[.int .i64 (opN l' g'), .int .i64 (opE l' g')]) ∧ PZ K W w' B B' l (opL l' g') g (opG l' g') := by
  obtain ⟨T, mv, A, c, hf, hp, hy, h1, h2, k⟩ := h
  refine (ropen15_any T 60 B' A c l' g' w hy (by omega) h2).mono ?_
  rintro e w' ⟨rfl, T', A', c', hf', hy'⟩
  exact ⟨rfl, T', mv, A', c', hf.trans (hf'.mono fun c hc => by have := H2_60 hc; omega), hp.fr hf' (by unfold H2; omega) (by unfold H2; omega) (by unfold H2; omega), hy', h1, h2.opn, hK _ _ _ _ _ k hf' fun c hc => .inr (H2_60 hc)⟩
theorem pz_exp (h : PZ K W w B B' l l' g g') (hK : Stz K) (id : Int) (hi : i64B id) : Calls Try.prog 14 #[.pointer (some ⟨B, 0, none⟩), .int .i64 id] w fun e w' => e = .returned (.int .i64 (exE l id)) ∧ PZ K W w' B B' (ssX l id) l' g g' := by
  obtain ⟨T, mv, A, c, hf, hp, hy, h1, h2, k⟩ := h
  refine (pexp_any T 1 B mv l g id w hp (by omega) h1 hi).mono ?_
  rintro e w' ⟨rfl, T', mv', hf', hp'⟩
  exact ⟨rfl, T', mv', A, c, hf.trans (hf'.mono fun c hc => by have := H2_1 hc; omega), hp', hy.fr hf' (by unfold H2; omega) (by unfold H2; omega) (by unfold H2; omega), h1.drop id, h2, hK _ _ _ _ _ k hf' fun c hc => .inl (H2_1 hc)⟩
theorem rz_exp (h : PZ K W w B B' l l' g g') (hK : Stz K) (id : Int) (hi : i64B id) : Calls Try.prog 15 #[.pointer (some ⟨B', 0, none⟩), .int .i64 id] w fun e w' => e = .returned (.int .i64 (exE l' id)) ∧ PZ K W w' B B' l (ssX l' id) g g' := by
  obtain ⟨T, mv, A, c, hf, hp, hy, h1, h2, k⟩ := h
  refine (rexp15_any T 60 B' A c l' g' id w hy (by omega) h2 hi).mono ?_
  rintro e w' ⟨rfl, T', A', c', hf', hy'⟩
  exact ⟨rfl, T', mv, A', c', hf.trans (hf'.mono fun c hc => by have := H2_60 hc; omega), hp.fr hf' (by unfold H2; omega) (by unfold H2; omega) (by unfold H2; omega), hy', h1, h2.drop id, hK _ _ _ _ _ k hf' fun c hc => .inr (H2_60 hc)⟩
theorem pz_ask (h : PZ K W w B B' l l' g g') (hK : Stz K) (id q : Int) (hi : i64B id) : Calls Try.prog 16 #[.pointer (some ⟨B, 0, none⟩), .int .i64 id, .int .i64 q] w fun e w' => ∃ A c, e = .returned (.tuple #[repV (akS l id q).c (akS l id q).n (akS l id q).m (.slice A (akS l id q).T c), .bool (akB l id q), .int .i64 (akE l id q)]) ∧
      Sl w' w'.heap.size A (akS l id q).T c (akS l id q).f ∧ PZ (fun T w => K T w ∧ WrB 51 A (akS l id q).T T w) W w' B B' l l' g g' ∧ Below w.heap.size w w' := by
  have h' := h
  obtain ⟨T, mv, A, c, hf, hp, hy, h1, h2, k⟩ := h
  refine (pask_any T 1 B mv l g id q w hp h1 hi).mono ?_
  rintro e w' ⟨A, c, rfl, ho, hb⟩
  refine ⟨A, c, rfl, ?_, h'.add hK hb 51 (by omega) fun T => ho.wr T 51, hb⟩
  obtain ⟨A1, c1, e1, hs, -, -⟩ := ho.sl
  cases e1
  exact hs
theorem rz_ask (h : PZ K W w B B' l l' g g') (hK : Stz K) (id q : Int) (hi : i64B id) : Calls Try.prog 17 #[.pointer (some ⟨B', 0, none⟩), .int .i64 id, .int .i64 q] w fun e w' => ∃ A c, e = .returned (.tuple #[repV (akS l' id q).c (akS l' id q).n (akS l' id q).m (.slice A (akS l' id q).T c), .bool (akB l' id q), .int .i64 (akE l' id q)]) ∧
      Sl w' w'.heap.size A (akS l' id q).T c (akS l' id q).f ∧ PZ K W w' B B' l l' g g' ∧ Below w.heap.size w w' := by
  have h' := h
  obtain ⟨T, mv, A, c, hf, hp, hy, h1, h2, k⟩ := h
  refine (rask_any T 60 B' A c l' g' id q w hy (by have := h2.n; omega) hi).mono ?_
  rintro e w' ⟨A, c, rfl, hs, hb⟩
  exact ⟨A, c, rfl, hs, h'.calm hK hb, hb⟩
theorem pz_own (h : PZ K W w B B' l l' g g') (hK : Stz K) (t : Nat) (ht : 50 ≤ t ∧ t < 60) (x n m : Int) (N c : Nat) (A : Option Addr) (f : Bf) (hs : Sl w w.heap.size A N c f) :
    Calls Try.prog 19 #[repV x n m (.slice A N c)] w fun e w' => ∃ A' c', e = .returned (repV x n m (.slice A' (min N 100) c')) ∧ PZ (fun T w => K T w ∧ RdS T w t A' (min N 100) c' f ∧ WrB t A' (min N 100) T w) W w' B B' l l' g g' ∧ Below w.heap.size w w' := by
  refine (sown_any x n m N c A f w hs).mono ?_
  rintro e w' ⟨A', c', rfl, ho, hb⟩
  exact ⟨A', c', rfl, h.add hK hb t ht fun T => ⟨ho.rdS T t, ho.wr T t⟩, hb⟩
theorem pz_done (x : Se) {t : Nat} (ht : 50 ≤ t ∧ t < 60) {A : Option Addr} {c : Nat} (h : PZ K W w B B' l l' g g') (hK : Stz K) (hs : ∀ T, K T w → RdS T w t A x.T c x.f) (hi : i64B x.id) (hn : x.T ≤ 140737488355328) : Calls Try.prog 20 #[.pointer (some ⟨B, 0, none⟩), .int .i64 x.id, .int .i64 x.q, repV x.c x.n x.m (.slice A x.T c)] w fun e w' => e = .returned (.int .i64 (dnE l x.id x.q)) ∧ PZ K W w' B B' (dnL l x) l' g g' := by
  obtain ⟨T, mv, A, c, hf, hp, hy, h1, h2, k⟩ := h
  refine (pdone_any T 1 B mv l g x _ _ w hp (by omega) h1 hi (hs T k) (by unfold H2; omega) hn).mono ?_
  rintro e w' ⟨rfl, T', mv', hf', hp'⟩
  exact ⟨rfl, T', mv', A, c, hf.trans (hf'.mono fun c hc => by have := H2_1 hc; omega), hp', hy.fr hf' (by unfold H2; omega) (by unfold H2; omega) (by unfold H2; omega), h1.dn x hn, h2, hK _ _ _ _ _ k hf' fun c hc => .inl (H2_1 hc)⟩
theorem rz_done (x : Se) {t : Nat} (ht : 50 ≤ t ∧ t < 60) {A : Option Addr} {c : Nat} (h : PZ K W w B B' l l' g g') (hK : Stz K) (hs : ∀ T, K T w → RdS T w t A x.T c x.f) (hn : x.T ≤ 140737488355328) : Calls Try.prog 21 #[.pointer (some ⟨B', 0, none⟩), .int .i64 x.id, .int .i64 x.q, repV x.c x.n x.m (.slice A x.T c)] w fun e w' => e = .returned (.int .i64 (dnE l' x.id x.q)) ∧ PZ K W w' B B' l (dnL l' x) g g' := by
  obtain ⟨T, mv, A, c, hf, hp, hy, h1, h2, k⟩ := h
  refine (rdone_any T 60 B' A c l' g' x _ _ w hy (by omega) h2 (hs T k) (by unfold H2; omega) hn).mono ?_
  rintro e w' ⟨rfl, T', A', c', hf', hy'⟩
  exact ⟨rfl, T', mv, A', c', hf.trans (hf'.mono fun c hc => by have := H2_60 hc; omega), hp.fr hf' (by unfold H2; omega) (by unfold H2; omega) (by unfold H2; omega), hy', h1, h2.dn x hn, hK _ _ _ _ _ k hf' fun c hc => .inr (H2_60 hc)⟩
/-- what Seats tells lies in a row of mark 20, which is made mark 53 -/
theorem pz_seats (h : PZ K W w B B' l l' g g') (hK : Sto K) : Calls Try.prog 23 #[.pointer (some ⟨B, 0, none⟩)] w fun e w' => ∃ A c, e = .returned (.tuple #[.slice A l.length c, .int .i64 (g + 1)]) ∧ SeRd w' A c l ∧ PZ (fun T w => K T w ∧ WrB 53 A (l.length * 6) T w) W w' B B' l l' g g' := by
  obtain ⟨T, mv, A, c, hf, hp, hy, h1, h2, k⟩ := h
  refine (pseats_any T 1 53 B mv l g w hp (by omega) (by omega) (by omega) (by omega) h1).mono ?_
  rintro e w' ⟨A2, c2, T', rfl, he, hf'⟩
  exact ⟨A2, c2, rfl, he.serd, T', mv, A, c, hf.trans (hf'.mono fun c hc => by omega), hp.fr hf' (by omega) (by omega) (by omega), hy.fr hf' (by omega) (by omega) (by omega), h1, h2, hK _ _ _ _ _ k hf' fun c hc => by omega, he.wr⟩
/-- the new table stands beside the old one -/
theorem pz_clone (h : PZ K W w B B' l l' g g') (hK : Stz K) : Calls Try.prog 22 #[.pointer (some ⟨B, 0, none⟩)] w fun e w' => ∃ B2, e = .returned (.pointer (some ⟨B2, 0, none⟩)) ∧ PZ (fun T w => K T w ∧ ∃ mv, PtAt T w 55 B2 mv l g) W w' B B' l l' g g' := by
  obtain ⟨T, mv, A, c, hf, hp, hy, h1, h2, k⟩ := h
  refine (pclone_any T 1 55 B mv l g w hp (by omega)).mono ?_
  rintro e w' ⟨B2, T', mv', rfl, hp2, hp', hf'⟩
  have f := hf' fun _ => False
  exact ⟨B2, rfl, T', mv, A, c, hf.trans (hf' _), hp', hy.fr f (fun h => h) (fun h => h) (fun h => h), h1, h2, hK _ _ _ _ _ k f (fun _ h => h.elim), mv', hp2⟩
theorem Stz.pt (B2 : Nat) (l : List Se) (g : Int) : Stz fun T w => ∃ mv, PtAt T w 55 B2 mv l g := fun T T' H w w' ⟨mv, k⟩ f hH => ⟨mv, k.fr f (fun h => by have := hH _ h; omega) (fun h => by have := hH _ h; omega) (fun h => by have := hH _ h; omega)⟩
/-- the new table takes the old one's place -/
theorem PZ.swap {B2 : Nat} {l2 : List Se} {g2 : Int} (h : PZ (fun T w => K T w ∧ ∃ mv, PtAt T w 55 B2 mv l2 g2) W w B B' l l' g g') (hok : SsOk l2 g2) (hre : ∀ (T T2 : Mk), K T w → (∀ j, T j = 50 → T2 j = 50) → K T2 w) : PZ K W w B2 B' l2 l' g2 g' := by
  obtain ⟨T, mv, A, c, hf, hp, hy, h1, h2, k, mv2, hp2⟩ := h
  have e : ∃ T2 : Mk, T2 = fun j => if T j = 55 then 1 else if T j = 56 then 2 else if T j = 1 then 57 else if T j = 2 then 57 else T j := ⟨_, rfl⟩
  obtain ⟨T2, e⟩ := e
  have r (j v : Nat) (hv : T j = v) : T2 j = if v = 55 then 1 else if v = 56 then 2 else if v = 1 then 57 else if v = 2 then 57 else v := by rw [e]; show (if T j = 55 then _ else _) = _; rw [hv]
  have r0 : ∀ j, T j = 0 → T2 j = 0 := fun j hj => (r j 0 hj).trans rfl
  refine ⟨T2, mv2, A, c, ⟨hf.os, hf.tape, hf.output, hf.size, hf.keep, fun j hj => (r j 50 (hf.tag j hj)).trans rfl⟩, hp2.re (fun j hj => (r j 55 hj).trans rfl) (fun j hj => (r j 56 hj).trans rfl) r0, ⟨hy.row, (r B' 60 hy.tg).trans rfl, hy.el.reS (fun j hj => (r j 61 hj).trans rfl) r0⟩, hok, h2, hre T T2 k fun j hj => (r j 50 hj).trans rfl⟩
end
end Go.Proofs.Ythokiohdeclmhaa.Oct
