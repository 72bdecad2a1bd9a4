/- A press of sha by tables of the schedule and of the states. -/
import Derived.Test.YtbncangoaldmiaaDoorShaR
namespace Go.Proofs.YtbncangoaldmiaaDoor.Oct
open Go.RowKit

def lw (l : List (BitVec 32)) : Wf := fun i => l.getD i 0#32
def ls (l : List (List (BitVec 32))) (t : Nat) : Wf := lw (l.getD t [])
theorem sch_tab (m : Bf) (W : Wf) (h : ∀ t, t < 64 → W t = if t < 16 then wrd m t else nxt W t) : ∀ t, t ≤ 64 → ∀ j, j < t → sch m t j = W j := by
  intro t
  induction t with
  | zero => intro _ j hj; omega
  | succ t ih =>
    intro ht j hj
    have i1 := ih (by omega)
    simp only [sch]
    unfold updA
    by_cases e : j = t
    · subst e
      rw [if_pos rfl, h j (by omega)]
      by_cases hl : j < 16
      · rw [if_pos hl, if_pos hl]
      · rw [if_neg hl, if_neg hl]
        unfold nxt
        rw [i1 _ (by omega), i1 _ (by omega), i1 _ (by omega), i1 _ (by omega)]
    · rw [if_neg e]; exact i1 j (by omega)
theorem prF_tab (m : Bf) (h W : Wf) (S : Nat → Wf) (hW : ∀ t, t < 64 → W t = if t < 16 then wrd m t else nxt W t) (h0 : ∀ i, i < 8 → h i = S 0 i)
    (hS : ∀ t, t < 64 → ∀ i, i < 8 → rnd (kF t) (W t) (S t) i = S (t + 1) i) : ∀ i, i < 8 → prF kF h m i = S 64 i + h i := by
  have key : ∀ t, t ≤ 64 → ∀ i, i < 8 → rds kF (sch m 64) h t i = S t i := by
    intro t
    induction t with
    | zero => intro _; exact h0
    | succ t ih =>
      intro ht i hi
      simp only [rds]
      rw [rnd_congr _ _ (ih (by omega)), sch_tab m W hW 64 (by omega) t (by omega)]
      exact hS t (by omega) i hi
  intro i hi
  unfold prF
  rw [key 64 (by omega) i hi]

/-- a hash of two pieces, by tables of both -/
theorem sha_two {b M1 M2 : Bf} {n : Nat} (hn : nbk n = 2) {W1 W2 : Wf} {S1 S2 : Nat → Wf} (hm1 : ∀ i, i < 64 → msg b n i = M1 i) (hm2 : ∀ i, i < 64 → msg b n (64 + i) = M2 i)
    (hW1 : ∀ t, t < 64 → W1 t = if t < 16 then wrd M1 t else nxt W1 t) (h1 : ∀ i, i < 8 → iF i = S1 0 i) (hS1 : ∀ t, t < 64 → ∀ i, i < 8 → rnd (kF t) (W1 t) (S1 t) i = S1 (t + 1) i)
    (hW2 : ∀ t, t < 64 → W2 t = if t < 16 then wrd M2 t else nxt W2 t) (h2 : ∀ i, i < 8 → S1 64 i + iF i = S2 0 i) (hS2 : ∀ t, t < 64 → ∀ i, i < 8 → rnd (kF t) (W2 t) (S2 t) i = S2 (t + 1) i) :
    ∀ i, i < 32 → shaF kF iF b n i = outF (fun k => S2 64 k + S2 0 k) i := by
  have p1 : ∀ i, i < 8 → prF kF iF (offF (msg b n) (64 * 0)) i = S2 0 i := fun i hi => by
    rw [← h2 i hi, ← prF_tab M1 iF W1 S1 hW1 h1 hS1 i hi]
    exact prF_congr (fun _ _ => rfl) (fun _ _ => rfl) (fun k hk => by unfold offF; rw [Nat.mul_zero, Nat.zero_add]; exact hm1 k hk) i hi
  intro i hi
  unfold shaF
  refine outF_congr (fun k hk => ?_) i hi
  rw [hn]
  simp only [hst]
  rw [← prF_tab M2 (S2 0) W2 S2 hW2 (fun _ _ => rfl) hS2 k hk]
  exact prF_congr (fun _ _ => rfl) p1 (fun i hi => by unfold offF; exact hm2 i hi) k hk
end Go.Proofs.YtbncangoaldmiaaDoor.Oct
