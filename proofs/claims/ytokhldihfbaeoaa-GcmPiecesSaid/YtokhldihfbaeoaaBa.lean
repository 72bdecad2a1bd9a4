/- Bytes as BitVec 8 and their integers; arrays of bytes as functions of the index: the cells that such an array has in memory, and what a store does to them. No program is named here. -/
import Derived.Test.YtokhldihfbaeoaaBits
import Derived.Laws.BitsAllLaws
import Derived.Laws.Tables
import Derived.Laws.Rows
import Derived.Deep.WholeRow
import Derived.WalkKit
namespace Go.Proofs.Ytokhldihfbaeoaa.Oct
open Go.RowKit

def I (v : BitVec 8) : Int := (v.toNat : Int)
def J (v : BitVec 16) : Int := (v.toNat : Int)
theorem I_bd (v : BitVec 8) : 0 ≤ I v ∧ I v ≤ 255 := by unfold I; omega
theorem J_bd (v : BitVec 16) : 0 ≤ J v ∧ J v ≤ 65535 := by unfold J; omega
theorem I_inj {a b : BitVec 8} (h : I a = I b) : a = b := BitVec.eq_of_toNat_eq (by unfold I at h; omega)
theorem I_of (x : Int) (h0 : 0 ≤ x) (h1 : x ≤ 255) : ∃ v : BitVec 8, x = I v := ⟨BitVec.ofNat 8 x.toNat, by unfold I; rw [BitVec.toNat_ofNat]; omega⟩
theorem I_xor (a b : BitVec 8) : bits .xor .u8 (I a) (I b) = I (a ^^^ b) := by
  unfold I; rw [u8_xor_nat _ _ a.isLt b.isLt, BitVec.toNat_xor]
theorem I_or (a b : BitVec 8) : bits .or .u8 (I a) (I b) = I (a ||| b) := by
  unfold I; rw [u8_or_nat _ _ a.isLt b.isLt, BitVec.toNat_or]
theorem I_and (a b : BitVec 8) : bits .and .u8 (I a) (I b) = I (a &&& b) := by
  unfold I; rw [u8_and_nat _ _ a.isLt b.isLt, BitVec.toNat_and]
theorem I_shr (a : BitVec 8) (k : Nat) : I a / 2 ^ k = I (a >>> k) := by
  unfold I; rw [BitVec.toNat_ushiftRight, Nat.shiftRight_eq_div_pow]; norm_cast
theorem bit_test : ∀ (k : Fin 8) (b : BitVec 8), (bits .and .u8 (I b / 2 ^ k.val) 1 == 1) = b.getLsbD k.val := by decide +kernel
theorem bit_test' (k : Nat) (h : k < 8) (b : BitVec 8) (c : Bool) (e : b.getLsbD k = c) : (bits .and .u8 (I b / 2 ^ k) 1 == 1) = c := by
  rw [bit_test ⟨k, h⟩ b]; exact e
theorem ret_u8 {a b : Int} (h : a = b) : Ending.returned (.int .u8 a) = .returned (.int .u8 b) := by rw [h]

/- arrays -/
/-- the cells of n bytes -/
@[irreducible] def ba (n : Nat) (f : Nat → BitVec 8) : Array Value := Array.ofFn (n := n) fun i => .int .u8 (I (f i))
def upd (f : Nat → BitVec 8) (k : Nat) (v : BitVec 8) : Nat → BitVec 8 := fun i => if i = k then v else f i

theorem ba_size (n : Nat) (f : Nat → BitVec 8) : (ba n f).size = n := by unfold ba; simp
theorem ba_get (n : Nat) (f : Nat → BitVec 8) (k : Nat) (h : k < n) : (ba n f)[k]? = some (.int .u8 (I (f k))) := by unfold ba; simp [h]
theorem ba_elem (n : Nat) (f : Nat → BitVec 8) (k : Nat) (h : k < (ba n f).size) : (ba n f)[k] = .int .u8 (I (f k)) := by
  have e := ba_get n f k (by rwa [ba_size] at h)
  rw [Array.getElem?_eq_getElem h] at e
  exact Option.some.inj e
theorem ba_none (n : Nat) (f : Nat → BitVec 8) (k : Nat) (h : ¬ k < n) : (ba n f)[k]? = none := by unfold ba; simp; omega
theorem ba_ext {n : Nat} {f g : Nat → BitVec 8} (h : ∀ k, k < n → f k = g k) : ba n f = ba n g := by
  apply Array.ext_getElem?
  intro i
  by_cases hi : i < n
  · rw [ba_get n f i hi, ba_get n g i hi, h i hi]
  · rw [ba_none n f i hi, ba_none n g i hi]
theorem ba_set (n : Nat) (f : Nat → BitVec 8) (k : Nat) (v : BitVec 8) : (ba n f).setIfInBounds k (.int .u8 (I v)) = ba n (upd f k v) := by
  apply Array.ext_getElem?
  intro i
  rw [Array.getElem?_setIfInBounds]
  by_cases hi : i < n
  · rw [ba_get n (upd f k v) i hi, ba_size, ba_get n f i hi]
    by_cases hk : k = i
    · subst hk; simp [upd, hi]
    · have : ¬ i = k := fun e => hk e.symm
      simp [hk, upd, this]
  · rw [ba_none n (upd f k v) i hi, ba_size, ba_none n f i hi]
    by_cases hk : k = i
    · subst hk; simp [hi]
    · simp [hk]
theorem ba_one (n : Nat) (f : Nat → BitVec 8) : (ba n f).all (·.oneCell') = true := by
  rw [Array.all_eq_true]
  intro i h
  rw [ba_size] at h
  have e := ba_get n f i h
  rw [Array.getElem?_eq_getElem (by rw [ba_size]; exact h)] at e
  rw [Option.some.inj e]
  rfl
theorem ba_ne (n : Nat) (f : Nat → BitVec 8) : (ba (n + 1) f = #[]) = False := by
  refine eq_false fun e => ?_
  have := congrArg Array.size e
  rw [ba_size] at this
  simp at this
/-- from place o on -/
def offF (f : Nat → BitVec 8) (o : Nat) : Nat → BitVec 8 := fun i => f (o + i)
/-- with m of g's laid at place o -/
def putF (f : Nat → BitVec 8) (o m : Nat) (g : Nat → BitVec 8) : Nat → BitVec 8 := fun i => if o ≤ i ∧ i < o + m then g (i - o) else f i
theorem offF_zero (f : Nat → BitVec 8) : offF f 0 = f := by funext i; simp [offF]
theorem ba_ex (n a b : Nat) (f : Nat → BitVec 8) (h : b ≤ n) : (ba n f).extract a b = ba (b - a) (offF f a) := by
  apply Array.ext_getElem?
  intro i
  rw [Array.getElem?_extract]
  by_cases hi : i < b - a
  · rw [ba_get _ _ i hi, if_pos (by rw [ba_size]; omega), ba_get n f _ (by omega)]; rfl
  · rw [ba_none _ _ i hi, if_neg (by rw [ba_size]; omega)]
/-- cells laid one behind the other from place o on -/
def spl : Array Value → Nat → List Value → Array Value
  | c, _, [] => c
  | c, o, v :: r => spl (c.setIfInBounds o v) (o + 1) r
theorem spl_get : ∀ (vs : List Value) (c : Array Value) (o k : Nat), o + vs.length ≤ c.size → (spl c o vs)[k]? = if o ≤ k ∧ k < o + vs.length then vs[k - o]? else c[k]? := by
  intro vs
  induction vs with
  | nil => intro c o k h; simp only [spl, List.length_nil]; rw [if_neg (by omega)]
  | cons v r ih =>
    intro c o k h
    simp only [List.length_cons] at h
    simp only [spl]
    rw [ih _ _ _ (by simp; omega)]
    by_cases h1 : o + 1 ≤ k ∧ k < o + 1 + r.length
    · rw [if_pos h1, if_pos (by simp only [List.length_cons]; omega), show k - o = (k - (o + 1)) + 1 by omega, List.getElem?_cons_succ]
    · rw [if_neg h1, Array.getElem?_setIfInBounds]
      by_cases h2 : o = k
      · subst h2
        rw [if_pos rfl, if_pos (by omega), if_pos (by simp only [List.length_cons]; omega)]
        simp
      · rw [if_neg h2, if_neg (by simp only [List.length_cons]; omega)]
theorem spl_ba (n o m : Nat) (f g : Nat → BitVec 8) (h : o + m ≤ n) : spl (ba n f) o (ba m g).toList = ba n (putF f o m g) := by
  apply Array.ext_getElem?
  intro k
  have hl : (ba m g).toList.length = m := by rw [Array.length_toList, ba_size]
  rw [spl_get _ _ _ _ (by rw [hl, ba_size]; exact h), hl, Array.getElem?_toList]
  by_cases hk : k < n
  · rw [ba_get n (putF f o m g) k hk]
    by_cases h1 : o ≤ k ∧ k < o + m
    · rw [if_pos h1, ba_get m g _ (by omega)]; simp [putF, h1]
    · rw [if_neg h1, ba_get n f k hk]; simp [putF, h1]
  · rw [ba_none n (putF f o m g) k hk, if_neg (by omega), ba_none n f k hk]
/-- the first k are new ones -/
def upto (k : Nat) (new old : Nat → BitVec 8) : Nat → BitVec 8 := fun i => if i < k then new i else old i
theorem upto_zero (new old : Nat → BitVec 8) : upto 0 new old = old := by funext i; simp [upto]
theorem upto_step (k : Nat) (new old : Nat → BitVec 8) : upd (upto k new old) k (new k) = upto (k + 1) new old := by
  funext i
  by_cases h : i = k
  · subst h; simp [upd, upto]
  · by_cases h2 : i < k
    · simp [upd, upto, h, h2, Nat.lt_succ_of_lt h2]
    · have : ¬ i < k + 1 := by omega
      simp [upd, upto, h, h2, this]
theorem upto_at (k : Nat) (new old : Nat → BitVec 8) : upto k new old k = old k := by simp [upto]
theorem upto_all (n : Nat) (new old : Nat → BitVec 8) : ba n (upto n new old) = ba n new := ba_ext fun k h => by simp [upto, h]
end Go.Proofs.Ytokhldihfbaeoaa.Oct
