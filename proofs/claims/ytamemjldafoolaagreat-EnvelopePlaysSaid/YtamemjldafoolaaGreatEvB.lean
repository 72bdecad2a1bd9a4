/- The program's keyring by its block alone: what a call changes is that block, and what is new. -/
import Derived.Test.YtamemjldafoolaaGreatEvA
import Derived.Test.YtamemjldafoolaaGreatKpAll
import Derived.Test.YtamemjldafoolaaGreatLib
namespace Go.Proofs.YtamemjldafoolaaGreat.Oct
open Go.ChangeShapes Go.WideShapes Go.ChangeAt Go.RowKit
set_option linter.unusedVariables false

structure KpW (w : World) (B : Nat) (K : Ks) : Prop where
  at_ : ∃ c, row w B = some c ∧ KsC c K
  ok : okK K
/-- what there was is as it was, but for block B -/
structure Chg (B : Nat) (w w' : World) : Prop where
  os : w'.os = w.os
  tape : w'.tape = w.tape
  output : w'.output = w.output
  size : w.heap.size ≤ w'.heap.size
  keep : ∀ k, k < w.heap.size → k ≠ B → w'.heap[k]? = w.heap[k]?
/-- the marks of one block -/
def oneM (B : Nat) : Mk := fun k => if k = B then 1 else 0
section
variable {T T' : Mk} {w w' w2 : World} {t B D : Nat} {K : Ks}
theorem KpAt.kw (h : KpAt T w t B K) : KpW w B K := ⟨h.at_, h.ok⟩
theorem KpW.mk' (h : KpW w B K) (hT : T B = t) : KpAt T w t B K := ⟨hT, h.at_, h.ok⟩
theorem KpW.one (h : KpW w B K) : KpAt (oneM B) w 1 B K := ⟨if_pos rfl, h.at_, h.ok⟩
theorem KpW.lt (h : KpW w B K) : B < w.heap.size := by obtain ⟨c, hr, _⟩ := h.at_; exact row_lt hr
theorem KpW.below (h : KpW w B K) (hb : Below w.heap.size w w') : KpW w' B K := by obtain ⟨c, hr, hc⟩ := h.at_; exact ⟨⟨c, carry hb hr, hc⟩, h.ok⟩
theorem Fk.chg (h : Fk (oneM B) T' 1 w w') : Chg B w w' := ⟨h.fr.os, h.fr.tape, h.fr.output, h.fr.size, fun k hk hB => h.fr.keep k hk (by unfold oneM; rw [if_neg hB]; intro e; exact absurd e.1 (by decide))⟩
theorem Chg.refl (B : Nat) (w : World) : Chg B w w := ⟨rfl, rfl, rfl, Nat.le_refl _, fun _ _ _ => rfl⟩
theorem Chg.trans (h : Chg B w w') (k : Chg B w' w2) : Chg B w w2 := ⟨k.os.trans h.os, k.tape.trans h.tape, k.output.trans h.output, Nat.le_trans h.size k.size, fun i hi hB => (k.keep i (Nat.lt_of_lt_of_le hi h.size) hB).trans (h.keep i hi hB)⟩
theorem Chg.of (h : Below w.heap.size w w') : Chg B w w' := ⟨h.1, h.2, h.3, h.size, fun k hk _ => h.block k hk⟩
theorem Chg.more (h : Chg B w w') (k : Below w'.heap.size w' w2) : Chg B w w2 := h.trans (Chg.of k)
theorem Chg.low (h : Chg B w w') (hB : D ≤ B) (hD : D ≤ w.heap.size) : Below D w w' := ⟨h.os, h.tape, h.output, h.size, fun k hk => h.keep k (by omega) (by omega)⟩
theorem Chg.on {w1 : World} (h : Below D w w1) (hc : Chg B w1 w2) (hB : D ≤ B) (hD : D ≤ w.heap.size) : Below D w w2 := h.trans (hc.low hB (by have := h.size; omega))
theorem Off.at {A : Option Addr} {g o n : Nat} (h : g ≠ B) (hA : A = some ⟨g, o, none⟩) : Off B n A := fun _ a ha e => by rw [hA] at ha; cases ha; exact h e
theorem Chg.fr {H : Nat → Prop} (h : Chg B w w') (hB : H (T B)) (t : Nat) : Fr T (paint T w.heap.size t) H w w' := ⟨h.os, h.tape, h.output, h.size, fun k hk hn => h.keep k hk (fun e => hn (e ▸ hB)), fun k hk => paint_old hk⟩
theorem Chg.row (h : Chg B w w') {k : Nat} {c : Array Value} (hr : Oct.row w k = some c) (hk : k ≠ B) : Oct.row w' k = some c := by rw [row_heap (h.keep k (row_lt hr) hk)]; exact hr
theorem Chg.sl (h : Chg B w w') {A : Option Addr} {n m D : Nat} {b : Bf} (hs : Sl w D A n m b) (hD : D ≤ w.heap.size) (ho : Off B n A) : Sl w' D A n m b :=
  ⟨hs.le, fun hn => by
    obtain ⟨g, o, e, hg, hc⟩ := hs.at_ hn
    refine ⟨g, o, e, hg, fun i hi => ?_⟩
    have hb := h.keep g (by omega) (ho hn _ e)
    rw [show w'.cell? ⟨g, o + i, none⟩ = w.cell? ⟨g, o + i, none⟩ by unfold World.cell?; rw [hb]]
    exact hc i hi⟩
theorem Chg.sl_up (h : Chg B w w') {A : Option Addr} {n m : Nat} {b : Bf} (hs : Sl w w.heap.size A n m b) (ho : Off B n A) : Sl w' w'.heap.size A n m b := (h.sl hs (Nat.le_refl _) ho).more h.size
theorem Off.nil : Off B 0 none := fun h => absurd h (by omega)
theorem Off.of_zero {A : Option Addr} : Off B 0 A := fun h => absurd h (by omega)
theorem Off.own {D n c : Nat} {A : Option Addr} {b : Bf} {u : TypeId} (h : Own w D u (.slice A n c) n b) (hB : B < D) : Off B n A := fun hn a ha e => by
  obtain ⟨A', c', e', hs, _, h3⟩ := h.sl
  simp only [Value.slice.injEq] at e'
  obtain ⟨rfl, _, rfl⟩ := e'
  rcases h3 with h0 | ⟨g, h0, hg⟩
  · rw [h0] at ha; cases ha
  · rw [h0] at ha; cases ha; simp only at e; omega
theorem Own.chg {D n : Nat} {v : Value} {b : Bf} {u : TypeId} (h : Own w D u v n b) (hc : Chg B w w') (hB : v.ownBlock ≠ some B) : Own w' D u v n b := by
  unfold Own at h ⊢
  refine ⟨h.1, ?_⟩
  rcases h.2 with hn | ⟨g, cap, cur, rfl, hbg, hg, rest⟩
  · exact .inl hn
  · exact .inr ⟨g, cap, cur, rfl, hbg, by rw [hc.keep g (Array.getElem?_eq_some_iff.1 hg).1 (fun e => hB (by rw [← e]; rfl))]; exact hg, rest⟩
theorem Own.chg_up {D n : Nat} {v : Value} {b : Bf} {u : TypeId} (h : Own w D u v n b) (hc : Chg B w w') (hB : B < D) : Own w' D u v n b :=
  h.chg hc fun e => by have := (h.lt e).1; omega
end
set_option maxRecDepth 20000 in
theorem wnew_any (w : World) : Calls Tryz.prog 5 #[] w fun e w' => ∃ B, e = .returned (.pointer (some ⟨B, 0, none⟩)) ∧ KpW w' B [] ∧ w.heap.size ≤ B ∧ Below w.heap.size w w' := by
  refine (pnew_any (fun _ => 0) 1 w).mono ?_
  rintro e w' ⟨B, T', rfl, hp, hn⟩
  refine ⟨B, rfl, hp.kw, ?_, hn.below⟩
  rcases Nat.lt_or_ge B w.heap.size with h | h
  · have h1 := hn.tag B h
    rw [hp.tg] at h1
    omega
  · exact h
theorem wcr_any (B : Nat) (K : Ks) (m : Bf) (w : World) (h : KpW w B K) :
    Calls Tryz.prog 8 #[.pointer (some ⟨B, 0, none⟩), .agg (ba 32 m)] w fun e w' => e = .returned (.tuple #[.int .i64 (crN K), .int .i64 (crE K)]) ∧ KpW w' B (crK K m) ∧ Chg B w w' := by
  refine (pcr_any _ 1 B K m w h.one).mono ?_
  rintro e w' ⟨rfl, T', hp, hf⟩
  exact ⟨rfl, hp.kw, hf.chg⟩
theorem wrt_any (B : Nat) (K : Ks) (id : Int) (m : Bf) (w : World) (h : KpW w B K) :
    Calls Tryz.prog 10 #[.pointer (some ⟨B, 0, none⟩), .int .i64 id, .agg (ba 32 m)] w fun e w' => e = .returned (.tuple #[.int .i64 (rtN K id), .int .i64 (rtE K id)]) ∧ KpW w' B (rtK K id m) ∧ Chg B w w' := by
  refine (prt_any _ 1 B K id m w h.one).mono ?_
  rintro e w' ⟨rfl, T', hp, hf⟩
  exact ⟨rfl, hp.kw, hf.chg⟩
theorem wus_any (B : Nat) (K : Ks) (id : Int) (w : World) (h : KpW w B K) :
    Calls Tryz.prog 31 #[.pointer (some ⟨B, 0, none⟩), .int .i64 id] w fun e w' => e = .returned (.tuple #[.int .i64 (usV K id), .int .i64 (usC K id), .agg (ba 32 (usM K id)), .int .i64 (usE K id)]) ∧ KpW w' B (usK K id) ∧ Chg B w w' := by
  refine (pus_any _ 1 B K id w h.one).mono ?_
  rintro e w' ⟨rfl, T', hp, hf⟩
  exact ⟨rfl, hp.kw, hf.chg⟩
theorem wmt_any (B : Nat) (K : Ks) (id ver : Int) (w : World) (h : KpW w B K) :
    Calls Tryz.prog 55 #[.pointer (some ⟨B, 0, none⟩), .int .i64 id, .int .i64 ver] w fun e w' => e = .returned (.tuple #[.agg (ba 32 (mtM K id ver)), .int .i64 (mtE K id ver)]) ∧ Below w.heap.size w w' := pmt_any _ 1 B K id ver w h.one
end Go.Proofs.YtamemjldafoolaaGreat.Oct
