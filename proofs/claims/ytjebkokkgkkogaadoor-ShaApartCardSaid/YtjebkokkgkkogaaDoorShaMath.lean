/- SHA-256 over words of 32 bits: the plain mathematics. No program is named here. -/
import Derived.Test.YtjebkokkgkkogaaDoorVa
namespace Go.Proofs.YtjebkokkgkkogaaDoor.Oct
open Go.RowKit

def rotr (x : BitVec 32) (n : Nat) : BitVec 32 := x >>> n ||| x <<< (32 - n)
def sm0 (x : BitVec 32) : BitVec 32 := rotr x 7 ^^^ rotr x 18 ^^^ x >>> 3
def sm1 (x : BitVec 32) : BitVec 32 := rotr x 17 ^^^ rotr x 19 ^^^ x >>> 10
def bg0 (x : BitVec 32) : BitVec 32 := rotr x 2 ^^^ rotr x 13 ^^^ rotr x 22
def bg1 (x : BitVec 32) : BitVec 32 := rotr x 6 ^^^ rotr x 11 ^^^ rotr x 25
def chF (e f g : BitVec 32) : BitVec 32 := e &&& f ^^^ ~~~e &&& g
def mjF (a b c : BitVec 32) : BitVec 32 := a &&& b ^^^ a &&& c ^^^ b &&& c
/-- four bytes, the highest one first -/
def wrd (m : Bf) (j : Nat) : BitVec 32 := (m (4 * j)).setWidth 32 <<< 24 ||| (m (4 * j + 1)).setWidth 32 <<< 16 ||| (m (4 * j + 2)).setWidth 32 <<< 8 ||| (m (4 * j + 3)).setWidth 32
def nxt (f : Wf) (t : Nat) : BitVec 32 := sm1 (f (t - 2)) + f (t - 7) + sm0 (f (t - 15)) + f (t - 16)
/-- the schedule: t words are made -/
def sch (m : Bf) : Nat → Wf
  | 0 => fun _ => 0#32
  | t + 1 => updA (sch m t) t (if t < 16 then wrd m t else nxt (sch m t) t)
def t1F (k w : BitVec 32) (s : Wf) : BitVec 32 := s 7 + bg1 (s 4) + chF (s 4) (s 5) (s 6) + k + w
def t2F (s : Wf) : BitVec 32 := bg0 (s 0) + mjF (s 0) (s 1) (s 2)
def oct (a b c d e f g h : BitVec 32) : Wf := fun i => match i with | 0 => a | 1 => b | 2 => c | 3 => d | 4 => e | 5 => f | 6 => g | 7 => h | _ => 0#32
def rnd (k w : BitVec 32) (s : Wf) : Wf := oct (t1F k w s + t2F s) (s 0) (s 1) (s 2) (s 3 + t1F k w s) (s 4) (s 5) (s 6)
def rds (K W h : Wf) : Nat → Wf
  | 0 => h
  | t + 1 => rnd (K t) (W t) (rds K W h t)
def prF (K h : Wf) (m : Bf) : Wf := fun i => rds K (sch m 64) h 64 i + h i
theorem sch_low (m : Bf) : ∀ t, t ≤ 16 → sch m t = fun j => if j < t then wrd m j else 0#32 := by
  intro t
  induction t with
  | zero => intro _; funext j; simp [sch]
  | succ t ih =>
    intro h
    funext j
    simp only [sch]
    rw [ih (by omega), if_pos (by omega)]
    unfold updA
    by_cases hj : j = t
    · subst hj; simp
    · by_cases h2 : j < t
      · have : j < t + 1 := by omega
        simp [hj, h2, this]
      · have : ¬ j < t + 1 := by omega
        simp [hj, h2, this]
theorem wrd_congr {m m' : Bf} (h : ∀ i, i < 64 → m i = m' i) (j : Nat) (hj : j < 16) : wrd m j = wrd m' j := by
  unfold wrd; rw [h _ (by omega), h _ (by omega), h _ (by omega), h _ (by omega)]
theorem sch_congr {m m' : Bf} (h : ∀ i, i < 64 → m i = m' i) : ∀ t, sch m t = sch m' t := by
  intro t
  induction t with
  | zero => rfl
  | succ t ih =>
    simp only [sch]
    rw [ih]
    by_cases ht : t < 16
    · rw [if_pos ht, if_pos ht, wrd_congr h t ht]
    · rw [if_neg ht, if_neg ht]
theorem rnd_congr (k w : BitVec 32) {s s' : Wf} (h : ∀ i, i < 8 → s i = s' i) : rnd k w s = rnd k w s' := by
  unfold rnd t1F t2F
  rw [h 0 (by omega), h 1 (by omega), h 2 (by omega), h 3 (by omega), h 4 (by omega), h 5 (by omega), h 6 (by omega), h 7 (by omega)]
theorem rds_congr {K K' W h h' : Wf} (hK : ∀ i, i < 64 → K i = K' i) (hh : ∀ i, i < 8 → h i = h' i) : ∀ t, t ≤ 64 → ∀ i, i < 8 → rds K W h t i = rds K' W h' t i := by
  intro t
  induction t with
  | zero => intro _; exact hh
  | succ t ih =>
    intro ht i hi
    simp only [rds]
    rw [rnd_congr _ _ (ih (by omega)), hK t (by omega)]
theorem prF_congr {K K' h h' : Wf} {m m' : Bf} (hK : ∀ i, i < 64 → K i = K' i) (hh : ∀ i, i < 8 → h i = h' i) (hm : ∀ i, i < 64 → m i = m' i) : ∀ i, i < 8 → prF K h m i = prF K' h' m' i := by
  intro i hi
  unfold prF
  rw [sch_congr hm, rds_congr hK hh 64 (by omega) i hi, hh i hi]

/-! the message -/
/-- how many pieces -/
def nbk (n : Nat) : Nat := (n + 8) / 64 + 1
theorem nbk_bd (n : Nat) : n + 9 ≤ 64 * nbk n ∧ 64 * nbk n ≤ n + 72 := by unfold nbk; omega
/-- byte k of the eight that tell the length in bits, the highest one first -/
def lenB (n k : Nat) : BitVec 8 := BitVec.ofNat 8 (8 * n / 256 ^ (7 - k))
def msg (b : Bf) (n : Nat) : Bf := fun i => if i < n then b i else if i = n then 128#8 else if i < 64 * nbk n - 8 then 0#8 else lenB n (i - (64 * nbk n - 8))
def hst (K h : Wf) (m : Bf) : Nat → Wf
  | 0 => h
  | j + 1 => prF K (hst K h m j) (offF m (64 * j))
/-- the bytes of eight words -/
def outF (s : Wf) : Bf := fun i => (s (i / 4) >>> (24 - 8 * (i % 4))).setWidth 8
def shaF (K h : Wf) (b : Bf) (n : Nat) : Bf := outF (hst K h (msg b n) (nbk n))
theorem hst_congr {K K' h h' : Wf} {m m' : Bf} (hK : ∀ i, i < 64 → K i = K' i) (hh : ∀ i, i < 8 → h i = h' i) : ∀ q, (∀ i, i < 64 * q → m i = m' i) → ∀ i, i < 8 → hst K h m q i = hst K' h' m' q i := by
  intro q
  induction q with
  | zero => intro _; exact hh
  | succ q ih =>
    intro hm
    simp only [hst]
    exact prF_congr hK (ih fun i hi => hm i (by omega)) fun i hi => by unfold offF; exact hm _ (by omega)
theorem outF_congr {s s' : Wf} (h : ∀ i, i < 8 → s i = s' i) (i : Nat) (hi : i < 32) : outF s i = outF s' i := by
  unfold outF; rw [h _ (by omega)]
theorem shaF_congr {K K' h h' : Wf} {b b' : Bf} {n : Nat} (hK : ∀ i, i < 64 → K i = K' i) (hh : ∀ i, i < 8 → h i = h' i) (hb : ∀ i, i < n → b i = b' i) : ∀ i, i < 32 → shaF K h b n i = shaF K' h' b' n i := by
  intro i hi
  unfold shaF
  refine outF_congr (hst_congr hK hh _ fun i _ => ?_) i hi
  unfold msg
  by_cases h1 : i < n
  · rw [if_pos h1, if_pos h1, hb i h1]
  · rw [if_neg h1, if_neg h1]
end Go.Proofs.YtjebkokkgkkogaaDoor.Oct
