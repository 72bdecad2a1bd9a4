/- Arrays whose elements are one cell each, as functions of the index; words of 32 bits and numbers of 64 bits as such elements. No program is named here. -/
import Derived.Test.YtjebkokkgkkogaaDoorLib
namespace Go.Proofs.YtjebkokkgkkogaaDoor.Oct
open Go.RowKit

section
variable {α : Type} (E : α → Value)
def ar (n : Nat) (f : Nat → α) : Array Value := Array.ofFn (n := n) fun i => E (f i)
def updA (f : Nat → α) (k : Nat) (v : α) : Nat → α := fun i => if i = k then v else f i
def offA (f : Nat → α) (o : Nat) : Nat → α := fun i => f (o + i)
def putA (f : Nat → α) (o m : Nat) (g : Nat → α) : Nat → α := fun i => if o ≤ i ∧ i < o + m then g (i - o) else f i
def uptoA (k : Nat) (new old : Nat → α) : Nat → α := fun i => if i < k then new i else old i
theorem offA_zero (f : Nat → α) : offA f 0 = f := by funext i; simp [offA]
theorem uptoA_zero (new old : Nat → α) : uptoA 0 new old = old := by funext i; simp [uptoA]
theorem uptoA_step (k : Nat) (new old : Nat → α) : updA (uptoA k new old) k (new k) = uptoA (k + 1) new old := by
  funext i
  by_cases h : i = k
  · subst h; simp [updA, uptoA]
  · by_cases h2 : i < k
    · simp [updA, uptoA, h, h2, Nat.lt_succ_of_lt h2]
    · have : ¬ i < k + 1 := by omega
      simp [updA, uptoA, h, h2, this]
theorem uptoA_at (k : Nat) (new old : Nat → α) : uptoA k new old k = old k := by simp [uptoA]
theorem ar_size (n : Nat) (f : Nat → α) : (ar E n f).size = n := by unfold ar; simp
theorem ar_get (n : Nat) (f : Nat → α) (k : Nat) (h : k < n) : (ar E n f)[k]? = some (E (f k)) := by unfold ar; simp [h]
theorem ar_elem (n : Nat) (f : Nat → α) (k : Nat) (h : k < (ar E n f).size) : (ar E n f)[k] = E (f k) := by
  have e := ar_get E n f k (by rwa [ar_size] at h)
  rw [Array.getElem?_eq_getElem h] at e
  exact Option.some.inj e
theorem ar_none (n : Nat) (f : Nat → α) (k : Nat) (h : ¬ k < n) : (ar E n f)[k]? = none := by unfold ar; simp; omega
theorem ar_ext {n : Nat} {f g : Nat → α} (h : ∀ k, k < n → f k = g k) : ar E n f = ar E n g := by
  apply Array.ext_getElem?
  intro i
  by_cases hi : i < n
  · rw [ar_get E n f i hi, ar_get E n g i hi, h i hi]
  · rw [ar_none E n f i hi, ar_none E n g i hi]
theorem ar_set (n : Nat) (f : Nat → α) (k : Nat) (v : α) : (ar E n f).setIfInBounds k (E v) = ar E n (updA f k v) := by
  apply Array.ext_getElem?
  intro i
  rw [Array.getElem?_setIfInBounds]
  by_cases hi : i < n
  · rw [ar_get E n (updA f k v) i hi, ar_size, ar_get E n f i hi]
    by_cases hk : k = i
    · subst hk; simp [updA, hi]
    · have : ¬ i = k := fun e => hk e.symm
      simp [hk, updA, this]
  · rw [ar_none E n (updA f k v) i hi, ar_size, ar_none E n f i hi]
    by_cases hk : k = i
    · subst hk; simp [hi]
    · simp [hk]
theorem ar_ones (h1 : ∀ x, (E x).oneCell' = true) (n : Nat) (f : Nat → α) : (ar E n f).all (·.oneCell') = true := by
  rw [Array.all_eq_true]
  intro i h
  rw [ar_elem]
  exact h1 _
theorem ar_ne (n : Nat) (f : Nat → α) : (ar E (n + 1) f = #[]) = False := by
  refine eq_false fun e => ?_
  have := congrArg Array.size e
  rw [ar_size] at this
  simp at this
theorem ar_ex (n a b : Nat) (f : Nat → α) (h : b ≤ n) : (ar E n f).extract a b = ar E (b - a) (offA f a) := by
  apply Array.ext_getElem?
  intro i
  rw [Array.getElem?_extract]
  by_cases hi : i < b - a
  · rw [ar_get E _ _ i hi, if_pos (by rw [ar_size]; omega), ar_get E n f _ (by omega)]; rfl
  · rw [ar_none E _ _ i hi, if_neg (by rw [ar_size]; omega)]
theorem spl_ar (n o m : Nat) (f g : Nat → α) (h : o + m ≤ n) : spl (ar E n f) o (ar E m g).toList = ar E n (putA f o m g) := by
  apply Array.ext_getElem?
  intro k
  have hl : (ar E m g).toList.length = m := by rw [Array.length_toList, ar_size]
  rw [spl_get _ _ _ _ (by rw [hl, ar_size]; exact h), hl, Array.getElem?_toList]
  by_cases hk : k < n
  · rw [ar_get E n (putA f o m g) k hk]
    by_cases h1 : o ≤ k ∧ k < o + m
    · rw [if_pos h1, ar_get E m g _ (by omega)]; simp [putA, h1]
    · rw [if_neg h1, ar_get E n f k hk]; simp [putA, h1]
  · rw [ar_none E n (putA f o m g) k hk, if_neg (by omega), ar_none E n f k hk]
theorem ar_put_all (n : Nat) (f g : Nat → α) : ar E n (putA f 0 n g) = ar E n g := ar_ext E fun k hk => by simp [putA, hk]
theorem ldR_ar (P : Program) (t m n : Nat) (w : World) (b o : Nat) (f : Nat → α) (h : o + m ≤ n) : ldR P t m w b o (some (ar E n f)) = .ok (.agg (ar E m (offA f o))) w := by
  unfold ldR
  simp only [ar_size, if_pos h]
  rw [ar_ex E n o (o + m) f h, show o + m - o = m by omega]
theorem stR_ar (h1 : ∀ x, (E x).oneCell' = true) (P : Program) (t m n : Nat) (w : World) (b o : Nat) (f g : Nat → α) (h : o + m ≤ n) : stR P t m w b o (.agg (ar E m g)) (some (ar E n f)) = .ok () (w.setRow b (ar E n (putA f o m g))) := by
  have e : o + m ≤ (ar E n f).size ∧ (Value.agg (ar E m g)).cells.size = m ∧ Ones (Value.agg (ar E m g)).cells := ⟨by rw [ar_size]; exact h, ar_size E m g, ar_ones E h1 m g⟩
  unfold stR
  simp only [if_pos e]
  exact congrArg (fun c => Result.ok () (w.setRow b c)) (spl_ar E n o m f g h)
end

/-! words of 32 bits -/
def M (v : BitVec 32) : Int := (v.toNat : Int)
def W32 (v : BitVec 32) : Value := .int .u32 (M v)
abbrev Wf := Nat → BitVec 32
theorem M_bd (v : BitVec 32) : 0 ≤ M v ∧ M v ≤ 4294967295 := by unfold M; omega
theorem M_inj {a b : BitVec 32} (h : M a = M b) : a = b := BitVec.eq_of_toNat_eq (by unfold M at h; omega)
theorem M_of (x : Int) (h0 : 0 ≤ x) (h1 : x ≤ 4294967295) : ∃ v : BitVec 32, x = M v := ⟨BitVec.ofNat 32 x.toNat, by unfold M; rw [BitVec.toNat_ofNat]; omega⟩
theorem u32_wrap_nat (n : Nat) : IntKind.u32.wrap (n : Int) = ((n % 4294967296 : Nat) : Int) := by
  show (n : Int) % 4294967296 = _
  rw [Int.natCast_emod]; rfl
@[go_sem] theorem M_xor (a b : BitVec 32) : bits .xor .u32 (M a) (M b) = M (a ^^^ b) := by unfold M; rw [u32_xor_nat _ _ a.isLt b.isLt, BitVec.toNat_xor]
@[go_sem] theorem M_or (a b : BitVec 32) : bits .or .u32 (M a) (M b) = M (a ||| b) := by unfold M; rw [u32_or_nat _ _ a.isLt b.isLt, BitVec.toNat_or]
@[go_sem] theorem M_and (a b : BitVec 32) : bits .and .u32 (M a) (M b) = M (a &&& b) := by unfold M; rw [u32_and_nat _ _ a.isLt b.isLt, BitVec.toNat_and]
@[go_sem] theorem M_add (a b : BitVec 32) : IntKind.u32.wrap (M a + M b) = M (a + b) := by
  unfold M
  rw [← Int.natCast_add, u32_wrap_nat, BitVec.toNat_add]
@[go_sem] theorem M_orI (a : BitVec 32) (v : BitVec 8) : bits .or .u32 (M a) (I v) = M (a ||| v.setWidth 32) := by
  unfold M I; rw [u32_or_nat _ _ a.isLt (by omega), BitVec.toNat_or, BitVec.toNat_setWidth, Nat.mod_eq_of_lt (show v.toNat < 2 ^ 32 by omega)]
theorem M_shl (a : BitVec 32) (k : Nat) : IntKind.u32.wrap (M a * ((2 ^ k : Nat) : Int)) = M (a <<< k) := by
  unfold M
  rw [← Int.natCast_mul, u32_wrap_nat, BitVec.toNat_shiftLeft, Nat.shiftLeft_eq]
theorem M_shr (a : BitVec 32) (k : Nat) : M a / ((2 ^ k : Nat) : Int) = M (a >>> k) := by
  unfold M; rw [BitVec.toNat_ushiftRight, Nat.shiftRight_eq_div_pow]; norm_cast
theorem I_shl (a : BitVec 8) (k : Nat) : IntKind.u32.wrap (I a * ((2 ^ k : Nat) : Int)) = M (a.setWidth 32 <<< k) := by
  rw [← M_shl]; unfold M I; rw [BitVec.toNat_setWidth, Nat.mod_eq_of_lt (show a.toNat < 2 ^ 32 by omega)]
theorem M_byte (x : BitVec 32) (s : Nat) : M x / ((2 ^ s : Nat) : Int) % 256 = I ((x >>> s).setWidth 8) := by
  rw [M_shr]
  unfold M I
  rw [BitVec.toNat_setWidth]
  omega
theorem M_shlm (a : BitVec 32) (k : Nat) : M a * ((2 ^ k : Nat) : Int) % 4294967296 = M (a <<< k) := M_shl a k
theorem I_shlm (a : BitVec 8) (k : Nat) : I a * ((2 ^ k : Nat) : Int) % 4294967296 = M (a.setWidth 32 <<< k) := I_shl a k
@[go_sem] theorem M_addm (a b : BitVec 32) : (M a + M b) % 4294967296 = M (a + b) := M_add a b
@[go_sem] theorem M_not (a : BitVec 32) : bits .xor .u32 IntKind.u32.max (M a) = M (~~~a) := by
  have e := M_xor (BitVec.allOnes 32) a
  rw [BitVec.allOnes_xor] at e
  exact e
@[go_sem] theorem M_shlv (a : BitVec 32) (k : Nat) : M a * (2 : Int) ^ k % 4294967296 = M (a <<< k) := by
  rw [← M_shlm, Int.natCast_pow]; rfl
@[go_sem] theorem M_shrv (a : BitVec 32) (k : Nat) : M a / (2 : Int) ^ k = M (a >>> k) := by
  rw [← M_shr, Int.natCast_pow]; rfl
@[go_sem] theorem M_shl8 (a : BitVec 32) : M a * 256 % 4294967296 = M (a <<< 8) := M_shlm a 8
@[go_sem] theorem M_shl8w (a : BitVec 32) : IntKind.u32.wrap (M a * 256) = M (a <<< 8) := M_shlm a 8
@[go_sem] theorem M_shr3 (a : BitVec 32) : M a / (8 : Int) = M (a >>> 3) := M_shr a 3
@[go_sem] theorem M_shr10 (a : BitVec 32) : M a / (1024 : Int) = M (a >>> 10) := M_shr a 10
@[go_sem] theorem I_shl8 (a : BitVec 8) : I a * 256 % 4294967296 = M (a.setWidth 32 <<< 8) := I_shlm a 8
@[go_sem] theorem I_shl16 (a : BitVec 8) : I a * 65536 % 4294967296 = M (a.setWidth 32 <<< 16) := I_shlm a 16
@[go_sem] theorem I_shl24 (a : BitVec 8) : I a * 16777216 % 4294967296 = M (a.setWidth 32 <<< 24) := I_shlm a 24
@[irreducible] def wa (n : Nat) (f : Wf) : Array Value := ar W32 n f
theorem wa_size (n : Nat) (f : Wf) : (wa n f).size = n := by unfold wa; exact ar_size _ _ _
theorem wa_get (n : Nat) (f : Wf) (k : Nat) (h : k < n) : (wa n f)[k]? = some (.int .u32 (M (f k))) := by unfold wa; exact ar_get W32 n f k h
theorem wa_elem (n : Nat) (f : Wf) (k : Nat) (h : k < (wa n f).size) : (wa n f)[k] = .int .u32 (M (f k)) := by
  have e := wa_get n f k (by rwa [wa_size] at h)
  rw [Array.getElem?_eq_getElem h] at e
  exact Option.some.inj e
theorem wa_none (n : Nat) (f : Wf) (k : Nat) (h : ¬ k < n) : (wa n f)[k]? = none := by unfold wa; exact ar_none W32 n f k h
theorem wa_ext {n : Nat} {f g : Wf} (h : ∀ k, k < n → f k = g k) : wa n f = wa n g := by unfold wa; exact ar_ext _ h
theorem wa_set (n : Nat) (f : Wf) (k : Nat) (v : BitVec 32) : (wa n f).setIfInBounds k (.int .u32 (M v)) = wa n (updA f k v) := by unfold wa; exact ar_set W32 n f k v
theorem wa_one (n : Nat) (f : Wf) : (wa n f).all (·.oneCell') = true := by unfold wa; exact ar_ones W32 (fun _ => rfl) n f
theorem wa_ne (n : Nat) (f : Wf) : (wa (n + 1) f = #[]) = False := by unfold wa; exact ar_ne W32 n f
theorem ldR_wa (P : Program) (t m n : Nat) (w : World) (b o : Nat) (f : Wf) (h : o + m ≤ n) : ldR P t m w b o (some (wa n f)) = .ok (.agg (wa m (offA f o))) w := by unfold wa; exact ldR_ar W32 P t m n w b o f h
theorem stR_wa (P : Program) (t m n : Nat) (w : World) (b o : Nat) (f g : Wf) (h : o + m ≤ n) : stR P t m w b o (.agg (wa m g)) (some (wa n f)) = .ok () (w.setRow b (wa n (putA f o m g))) := by unfold wa; exact stR_ar W32 (fun _ => rfl) P t m n w b o f g h
theorem wa_put_all (n : Nat) (f g : Wf) : wa n (putA f 0 n g) = wa n g := by unfold wa; exact ar_put_all W32 n f g
theorem wa_ones (n : Nat) (f : Wf) : Ones (wa n f) := wa_one n f
attribute [go_sem] wa_size wa_elem wa_set wa_ne ldR_wa stR_wa wa_put_all wa_ones offA_zero
theorem row_setCellW {w : World} {b n : Nat} {f : Wf} (h : row w b = some (wa n f)) (i : Nat) (v : BitVec 32) : row (w.setCell ⟨b, i, none⟩ (.int .u32 (M v))) b = some (wa n (updA f i v)) := by
  rw [setCell_row h, row_setRow h, wa_set]

/-! numbers of 64 bits, as naturals -/
def N64 (v : Nat) : Value := .int .u64 (v : Int)
abbrev Nf := Nat → Nat
@[irreducible] def qa (n : Nat) (f : Nf) : Array Value := ar N64 n f
theorem qa_size (n : Nat) (f : Nf) : (qa n f).size = n := by unfold qa; exact ar_size _ _ _
theorem qa_get (n : Nat) (f : Nf) (k : Nat) (h : k < n) : (qa n f)[k]? = some (.int .u64 (f k : Int)) := by unfold qa; exact ar_get N64 n f k h
theorem qa_elem (n : Nat) (f : Nf) (k : Nat) (h : k < (qa n f).size) : (qa n f)[k] = .int .u64 (f k : Int) := by
  have e := qa_get n f k (by rwa [qa_size] at h)
  rw [Array.getElem?_eq_getElem h] at e
  exact Option.some.inj e
theorem qa_none (n : Nat) (f : Nf) (k : Nat) (h : ¬ k < n) : (qa n f)[k]? = none := by unfold qa; exact ar_none N64 n f k h
theorem qa_ext {n : Nat} {f g : Nf} (h : ∀ k, k < n → f k = g k) : qa n f = qa n g := by unfold qa; exact ar_ext _ h
theorem qa_set (n : Nat) (f : Nf) (k : Nat) (v : Nat) : (qa n f).setIfInBounds k (.int .u64 (v : Int)) = qa n (updA f k v) := by unfold qa; exact ar_set N64 n f k v
theorem qa_one (n : Nat) (f : Nf) : (qa n f).all (·.oneCell') = true := by unfold qa; exact ar_ones N64 (fun _ => rfl) n f
theorem qa_ne (n : Nat) (f : Nf) : (qa (n + 1) f = #[]) = False := by unfold qa; exact ar_ne N64 n f
theorem ldR_qa (P : Program) (t m n : Nat) (w : World) (b o : Nat) (f : Nf) (h : o + m ≤ n) : ldR P t m w b o (some (qa n f)) = .ok (.agg (qa m (offA f o))) w := by unfold qa; exact ldR_ar N64 P t m n w b o f h
theorem stR_qa (P : Program) (t m n : Nat) (w : World) (b o : Nat) (f g : Nf) (h : o + m ≤ n) : stR P t m w b o (.agg (qa m g)) (some (qa n f)) = .ok () (w.setRow b (qa n (putA f o m g))) := by unfold qa; exact stR_ar N64 (fun _ => rfl) P t m n w b o f g h
theorem qa_put_all (n : Nat) (f g : Nf) : qa n (putA f 0 n g) = qa n g := by unfold qa; exact ar_put_all N64 n f g
theorem qa_ones (n : Nat) (f : Nf) : Ones (qa n f) := qa_one n f
attribute [go_sem] qa_size qa_elem qa_set qa_ne ldR_qa stR_qa qa_put_all qa_ones

/-! arrays of words compared -/
def eqW (n : Nat) (f g : Wf) : Bool := (List.range n).all fun i => f i == g i
theorem eqW_iff (n : Nat) (f g : Wf) : eqW n f g = true ↔ ∀ i, i < n → f i = g i := by unfold eqW; simp
theorem eqW_refl (n : Nat) (f : Wf) : eqW n f f = true := (eqW_iff n f f).2 fun _ _ => rfl
section
variable {P : Program}
theorem part_word (e : TypeId) (k : IntKind) (he : P.underlying e = some (.int k)) (n i : Nat) (hi : i < n) (f : Wf) (w : World) : (part e (wa n f) i).run P w = .ok (.int .u32 (M (f i))) w := by
  have ha : (isAgg e).run P w = .ok false w := by simp [isAgg, run_underlying he]
  simp [part, ha, wa_get n f i hi]
theorem eq_words (t n d : Nat) (e : TypeId) (k : IntKind) (hu : P.underlying t = some (.array n e)) (he : P.underlying e = some (.int k)) (hs : (P.info? e).map (·.size) = some 1) (f g : Wf) (w : World) :
    (Op.equalIn (d + 2) t (.agg (wa n f)) (.agg (wa n g))).run P w = .ok (eqW n f g) w := by
  refine eq_array t n 1 (d + 1) e hu hs _ _ w (fun i => f i == g i) fun i hi => ⟨_, _, by rw [Nat.mul_one]; exact part_word e k he n i hi f w, by rw [Nat.mul_one]; exact part_word e k he n i hi g w, ?_⟩
  rw [run_equalIn_int w d e .u32 k _ _ he]
  congr 1
  by_cases h : f i = g i
  · simp [h]
  · have : ¬ M (f i) = M (g i) := fun e => h (M_inj e)
    rw [beq_eq_false_iff_ne.2 h, beq_eq_false_iff_ne.2 this]
end
end Go.Proofs.YtjebkokkgkkogaaDoor.Oct
