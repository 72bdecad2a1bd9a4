/- Arrays compared by '==': elements one by one. Of whatever program. -/
import Derived.Test.YtokhldihfbaeoaaRow
namespace Go.Proofs.Ytokhldihfbaeoaa.Oct
open Go.RowKit

/-- the first n bytes are the same -/
def eqB (n : Nat) (f g : Nat → BitVec 8) : Bool := (List.range n).all fun i => f i == g i
theorem eqB_iff (n : Nat) (f g : Nat → BitVec 8) : eqB n f g = true ↔ ∀ i, i < n → f i = g i := by
  unfold eqB; simp
theorem eqB_refl (n : Nat) (f : Nat → BitVec 8) : eqB n f f = true := (eqB_iff n f f).2 fun _ _ => rfl
theorem eqB_ba {n : Nat} {f g : Nat → BitVec 8} (h : eqB n f g = true) : ba n f = ba n g := ba_ext ((eqB_iff n f g).1 h)
theorem eqB_congr {n : Nat} {f g f' g' : Nat → BitVec 8} (hf : ∀ i, i < n → f i = f' i) (hg : ∀ i, i < n → g i = g' i) : eqB n f g = eqB n f' g' := by
  rw [Bool.eq_iff_iff, eqB_iff, eqB_iff]
  exact ⟨fun h i hi => by rw [← hf i hi, ← hg i hi, h i hi], fun h i hi => by rw [hf i hi, hg i hi, h i hi]⟩

section
variable {P : Program}
theorem eq_array (t len n d : Nat) (elem : TypeId) (hu : P.underlying t = some (.array len elem)) (hn : (P.info? elem).map (·.size) = some n) (xs ys : Array Value) (w : World) (B : Nat → Bool)
    (hel : ∀ i, i < len → ∃ a b, (part elem xs (i * n)).run P w = .ok a w ∧ (part elem ys (i * n)).run P w = .ok b w ∧ (Op.equalIn d elem a b).run P w = .ok (B i) w) :
    (Op.equalIn (d + 1) t (.agg xs) (.agg ys)).run P w = .ok ((List.range len).all B) w := by
  have hsz : (sizeOf elem).run P w = .ok n w := by
    cases hq : P.info? elem with
    | none => rw [hq] at hn; cases hn
    | some i =>
      rw [hq] at hn
      have h : i.size = n := Option.some.inj hn
      simp [sizeOf, typeInfo, hq, h]
  simp only [Op.equalIn, Sem.run_bind, run_underlying hu, Result.andThen_ok, hsz]
  rw [Std.Legacy.Range.forIn_eq_forIn_range']
  simp only [Std.Legacy.Range.size, Nat.sub_zero, Nat.add_sub_cancel, Nat.div_one]
  rw [List.range_eq_range']
  have key : ∀ (m k : Nat), k + m ≤ len → ((forIn (List.range' k m) ((none : Option Bool), ()) fun i _ => do
            let a ← part elem xs (i * n)
            let b ← part elem ys (i * n)
            let r ← Op.equalIn d elem a b
            if (!r) = true then pure (ForInStep.done (some false, ())) else pure (ForInStep.yield (none, ())) : Sem (Option Bool × Unit)).run P w) =
        .ok (bif (List.range' k m).all B then (none, ()) else (some false, ())) w := by
    intro m
    induction m with
    | zero => intro k _; rfl
    | succ m ih =>
      intro k hk
      obtain ⟨a, b, h1, h2, h3⟩ := hel k (by omega)
      rw [List.range'_succ]
      simp only [List.forIn_cons, Sem.run_bind, h1, h2, h3, Result.andThen_ok, List.all_cons]
      by_cases hB : B k = true
      · rw [hB]
        simp only [Bool.not_true, Bool.false_eq_true, ite_false, Sem.run_pure, Result.andThen_ok, Bool.true_and]
        exact ih (k + 1) (by omega)
      · have hB' : B k = false := by simpa using hB
        rw [hB']
        simp
  rw [key len 0 (by omega)]
  by_cases h : (List.range' 0 len).all B = true
  · rw [h]; simp
  · have h' : (List.range' 0 len).all B = false := by simpa using h
    rw [h']; simp
theorem part_byte (e : TypeId) (k : IntKind) (he : P.underlying e = some (.int k)) (n i : Nat) (hi : i < n) (f : Nat → BitVec 8) (w : World) : (part e (ba n f) i).run P w = .ok (.int .u8 (I (f i))) w := by
  have ha : (isAgg e).run P w = .ok false w := by simp [isAgg, run_underlying he]
  simp [part, ha, ba_get n f i hi]
theorem eq_bytes (t n d : Nat) (e : TypeId) (k : IntKind) (hu : P.underlying t = some (.array n e)) (he : P.underlying e = some (.int k)) (hs : (P.info? e).map (·.size) = some 1) (f g : Nat → BitVec 8) (w : World) :
    (Op.equalIn (d + 2) t (.agg (ba n f)) (.agg (ba n g))).run P w = .ok (eqB n f g) w := by
  refine eq_array t n 1 (d + 1) e hu hs _ _ w (fun i => f i == g i) fun i hi => ⟨_, _, by rw [Nat.mul_one]; exact part_byte e k he n i hi f w, by rw [Nat.mul_one]; exact part_byte e k he n i hi g w, ?_⟩
  rw [run_equalIn_int w d e .u8 k _ _ he]
  congr 1
  by_cases h : f i = g i
  · simp [h]
  · have : ¬ I (f i) = I (g i) := fun e => h (I_inj e)
    rw [beq_eq_false_iff_ne.2 h, beq_eq_false_iff_ne.2 this]
theorem eqB_parts (a b : Nat) (f g : Nat → BitVec 8) : (List.range a).all (fun i => eqB b (offF f (i * b)) (offF g (i * b))) = eqB (a * b) f g := by
  rw [Bool.eq_iff_iff, eqB_iff, List.all_eq_true]
  constructor
  · intro h i hi
    by_cases hb : b = 0
    · subst hb; simp at hi
    · have hb' : 0 < b := by omega
      have h1 := (eqB_iff b _ _).1 (h (i / b) (List.mem_range.2 (Nat.div_lt_of_lt_mul (by rw [Nat.mul_comm]; exact hi)))) (i % b) (Nat.mod_lt _ hb')
      unfold offF at h1
      rw [show i / b * b + i % b = i by rw [Nat.mul_comm]; exact Nat.div_add_mod i b] at h1
      exact h1
  · intro h i hi
    rw [eqB_iff]
    intro j hj
    have : i < a := List.mem_range.1 hi
    exact h _ (by
      have := Nat.mul_le_mul_right b (show i + 1 ≤ a by omega)
      rw [Nat.add_mul] at this
      omega)
theorem eq_blocks (t a b n d : Nat) (e e' : TypeId) (k : IntKind) (hab : a * b = n) (hu : P.underlying t = some (.array a e)) (hu' : P.underlying e = some (.array b e')) (hs' : (P.info? e).map (·.size) = some b)
    (he : P.underlying e' = some (.int k)) (hs : (P.info? e').map (·.size) = some 1) (f g : Nat → BitVec 8) (w : World) :
    (Op.equalIn (d + 3) t (.agg (ba n f)) (.agg (ba n g))).run P w = .ok (eqB n f g) w := by
  subst hab
  rw [← eqB_parts a b f g]
  have hpart : ∀ (h : Nat → BitVec 8) (i : Nat), i < a → (part e (ba (a * b) h) (i * b)).run P w = .ok (.agg (ba b (offF h (i * b)))) w := fun h i hi => by
    have ha : (isAgg e).run P w = .ok true w := by simp [isAgg, run_underlying hu']
    have hsz : (sizeOf e).run P w = .ok b w := by
      cases hq : P.info? e with
      | none => rw [hq] at hs'; cases hs'
      | some i =>
        rw [hq] at hs'
        have h : i.size = b := Option.some.inj hs'
        simp [sizeOf, typeInfo, hq, h]
    have hle : i * b + b ≤ a * b := by
      have := Nat.mul_le_mul_right b (show i + 1 ≤ a by omega)
      rw [Nat.add_mul] at this
      omega
    simp only [part, Sem.run_bind, ha, Result.andThen_ok, if_true, hsz, Sem.run_pure]
    rw [ba_ex _ _ _ _ hle, show i * b + b - i * b = b by omega]
  exact eq_array t a b (d + 2) e hu hs' _ _ w _ fun i hi => ⟨_, _, hpart f i hi, hpart g i hi, eq_bytes e b d e' k hu' he hs _ _ w⟩
end
end Go.Proofs.Ytokhldihfbaeoaa.Oct
