/- What came in: an array of bytes by value (or an array of such) is 'ba n f' for some f. Of whatever program. -/
import Derived.Test.YtokhldihfbaeoaaRow
import Derived.WalkKit
import Derived.ProofKit
import Derived.OpenShut
import Derived.ChangeArms
import Derived.Below
import Derived.Carry
import Derived.ChangeOld
namespace Go.Proofs.Ytokhldihfbaeoaa.Oct
open Go.ChangeShapes Go.WideShapes Go.ChangeAt Go.RowKit

def AllBytes (cs : List Value) : Prop := ∀ c, c ∈ cs → ∃ v : BitVec 8, c = .int .u8 (I v)
theorem AllBytes.ba {cs : Array Value} (h : AllBytes cs.toList) {n : Nat} (hn : cs.size = n) : ∃ f, cs = ba n f := by
  subst hn
  have h1 : ∀ i : Nat, ∃ v : BitVec 8, i < cs.size → cs[i]? = some (.int .u8 (I v)) := fun i => by
    by_cases hi : i < cs.size
    · obtain ⟨v, hv⟩ := h cs[i] (by simp)
      exact ⟨v, fun _ => by rw [Array.getElem?_eq_getElem hi, hv]⟩
    · exact ⟨0#8, fun e => absurd e hi⟩
  obtain ⟨f, hf⟩ := Classical.axiomOfChoice h1
  refine ⟨f, Array.ext_getElem? fun i => ?_⟩
  by_cases hi : i < cs.size
  · rw [hf i hi, ba_get _ f i hi]
  · rw [ba_none _ f i hi]; simp; omega

theorem mapM_each {α β : Type} {f : α → Option β} : ∀ (l : List α) (r : List β), l.mapM f = some r → ∀ x ∈ l, ∃ y, f x = some y := by
  intro l
  induction l with
  | nil => intro r _ x hx; cases hx
  | cons a l ih =>
    intro r h x hx
    rw [List.mapM_cons] at h
    cases ha : f a with
    | none => simp [ha] at h
    | some y =>
      cases hl : l.mapM f with
      | none => simp [ha, hl] at h
      | some ys =>
        rcases List.mem_cons.1 hx with rfl | hx
        · exact ⟨y, ha⟩
        · exact ih ys hl x hx
section
variable {H : Type} {enc : TypeId × Value → H} {P : Program} {w : World} {base : Nat} {spare : Nat → Bool} {held : Bool}
theorem trod_byte {t : TypeId} (ht : P.underlying t = some (.int .u8)) {fuel : Nat} {cs : List Value} {x : DataW H × List MemPlace} (h : DataW.trod enc P w base spare held fuel t cs = some x) : AllBytes cs := by
  obtain ⟨n, rfl, _, hw⟩ := DataW.trod_int ht h
  intro c hc
  obtain rfl := List.mem_singleton.1 hc
  obtain ⟨h0, h1⟩ := bounds_u8 hw
  obtain ⟨v, rfl⟩ := I_of n h0 h1
  exact ⟨v, rfl⟩
theorem trod_array {t e : TypeId} {n m : Nat} (ht : P.underlying t = some (.array n e)) (hc : P.cellsOf t = n * m) (hm : P.cellsOf e = m)
    (he : ∀ (fuel : Nat) (cs : List Value) (x : DataW H × List MemPlace), DataW.trod enc P w base spare held fuel e cs = some x → AllBytes cs)
    {fuel : Nat} {cs : List Value} {x : DataW H × List MemPlace} (h : DataW.trod enc P w base spare held fuel t cs = some x) : AllBytes cs := by
  cases fuel with
  | zero => simp [DataW.trod] at h
  | succ fuel =>
    unfold DataW.trod at h
    rw [ht] at h
    simp only [hm] at h
    split at h
    · rename_i hl
      rw [Option.map_eq_some_iff] at h
      obtain ⟨ys, hy, _⟩ := h
      have each := mapM_each _ _ hy
      rw [hc] at hl
      intro c hcs
      obtain ⟨k, hk, rfl⟩ := List.getElem_of_mem hcs
      by_cases hm0 : m = 0
      · subst hm0; omega
      · have hm1 : 0 < m := by omega
        obtain ⟨y, hy⟩ := each (k / m) (List.mem_range.2 (Nat.div_lt_of_lt_mul (by rw [Nat.mul_comm]; omega)))
        refine he _ _ _ hy _ ?_
        rw [List.mem_iff_getElem?]
        refine ⟨k % m, ?_⟩
        rw [List.getElem?_take, if_pos (Nat.mod_lt _ hm1), List.getElem?_drop, show k / m * m + k % m = k by rw [Nat.mul_comm]; exact Nat.div_add_mod k m]
        exact List.getElem?_eq_getElem hk
    · cases h
theorem okWide_agg {t e : TypeId} {n : Nat} {r : Reach} {b : Nat} {v : Value} (ht : P.underlying t = some (.array n e)) (h : Value.okWide P w r b t v) : ∃ cs, v = .agg cs ∧ cs.size = P.cellsOf t := by
  unfold Value.okWide at h
  rw [ht] at h
  obtain ⟨cs, h1, h2, _⟩ := h
  exact ⟨cs, h1, h2⟩
/-- an array of bytes -/
theorem open_bytes {t e : TypeId} {n : Nat} {r : Reach} {b : Nat} {v : Value} {d : DataW H} {p : List MemPlace} (ht : P.underlying t = some (.array n e)) (he : P.underlying e = some (.int .u8)) (hc : P.cellsOf t = n) (h1 : P.cellsOf e = 1)
    (hv : Value.okWide P w r b t v) (h : DataW.Trod enc P w base spare held t v d p) : ∃ f, v = .agg (ba n f) := by
  obtain ⟨cs, rfl, hs⟩ := okWide_agg ht hv
  obtain ⟨fuel, hf⟩ := h
  obtain ⟨f, rfl⟩ := AllBytes.ba (trod_array (m := 1) ht (by rw [hc, Nat.mul_one]) h1 (fun _ _ _ h => trod_byte he h) hf) (hs.trans hc)
  exact ⟨f, rfl⟩
/-- an array of a arrays of b bytes -/
theorem open_bytes2 {t e e' : TypeId} {a m n : Nat} {r : Reach} {b : Nat} {v : Value} {d : DataW H} {p : List MemPlace} (ht : P.underlying t = some (.array a e)) (ht' : P.underlying e = some (.array m e')) (he : P.underlying e' = some (.int .u8))
    (hn : a * m = n) (hc : P.cellsOf t = n) (hc' : P.cellsOf e = m) (h1 : P.cellsOf e' = 1)
    (hv : Value.okWide P w r b t v) (h : DataW.Trod enc P w base spare held t v d p) : ∃ f, v = .agg (ba n f) := by
  obtain ⟨cs, rfl, hs⟩ := okWide_agg ht hv
  obtain ⟨fuel, hf⟩ := h
  obtain ⟨f, rfl⟩ := AllBytes.ba (trod_array (m := m) ht (by rw [hc, hn]) hc' (fun _ _ _ h => trod_array (m := 1) ht' (by rw [hc', Nat.mul_one]) h1 (fun _ _ _ h => trod_byte he h) h) hf) (hs.trans hc)
  exact ⟨f, rfl⟩
end
end Go.Proofs.Ytokhldihfbaeoaa.Oct
