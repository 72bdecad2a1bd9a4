/- More of slices of bytes: an append onto a slice that came in and has no room behind its length; rows that 'make' makes; an append of a 'make' onto nil; strings compared. Of whatever program. -/
import Derived.Test.YtokhldihfbaeoaaSl
import Derived.Test.YtokhldihfbaeoaaSlOpen
import Derived.ArgAppend
import Derived.Deep.Upon
import Derived.OwnWalk
import Derived.Lib.AppendZeros
namespace Go.Proofs.Ytokhldihfbaeoaa.Oct
open Go.RowKit

section
variable {P : Program} {t u : TypeId}
theorem run_full (ht : P.underlying t = some (.slice u)) (hz : (P.info? u).map (·.size) = some 1) (A : Option Addr) (n c k : Nat) (hk : k ≤ c) (w : World) : (Instr.slice t (.slice A n c) none (some (.int .i64 (k : Int))) (some (.int .i64 (k : Int)))).run P w = .ok (.slice A k k) w := by
  have he : P.elem t = u := by simp [Program.elem, ht]
  rw [run_slice_hm w t A n c (by rw [he]; exact ht) .i64 .i64 k k (by omega) (by omega) (by omega), he, run_size1 hz, Result.andThen_ok]
  by_cases h0 : k = 0
  · subst h0; simp [sliced]
  · simp [sliced, Int.toNat_natCast, h0]
    cases A with
    | none => rfl
    | some a => simp [Addr.add]
end
theorem Sl.full {w : World} {B n c : Nat} {A : Option Addr} {b : Bf} (h : Sl w B A n c b) : Sl w B A n n b := ⟨Nat.le_refl _, h.at_⟩
theorem Below.of_grown {w w' : World} (h : w.grownBy w' none) : Below w.heap.size w w' := (Below.refl _ _).grown h (Nat.le_refl _) (fun _ e => by cases e)
theorem grown_self (w : World) (r : Option Nat) : w.grownBy w r := ⟨rfl, rfl, rfl, Nat.le_refl _, fun _ _ _ => rfl⟩

/-- append(b[:n:n], ..): either nothing is appended, or there is a new row -/
theorem run_appF {P : Program} {w : World} {t ty u : TypeId} (ht : P.underlying t = some (.slice u)) (hi : (P.info? u).map (fun i => (i.zero, i.size, i.bytes)) = some (some (.int .u8 0), 1, 1))
    {B n : Nat} {A : Option Addr} {b : Bf} (hd : Sl w B A n n b) (hdm : n ≤ maxLen) (hBw : B ≤ w.heap.size) (hd0 : A = none → n = 0) {B' m c : Nat} {A' : Option Addr} {g : Bf} (hs : Sl w B' A' m c g) (hnm : n + m ≤ 140737488355328) :
    ∃ A'' c'' w', (Builtin.append_ #[t, t] ty #[.slice A n n, .slice A' m c]).run P w = .ok (.slice A'' (n + m) c'') w' ∧ Sl w' w'.heap.size A'' (n + m) c'' (catF n b g) ∧ c'' ≤ maxLen ∧ w.grownBy w' none := by
  obtain ⟨i, hq, z0, z1, z2⟩ := info_parts hi
  have hla : ∀ k (h : Bf), (ba k h).toList.length = k := fun k h => by rw [Array.length_toList, ba_size]
  rcases Nat.eq_zero_or_pos m with rfl | hm
  · refine ⟨A, n, w, ?_, ?_, hdm, grown_self w none⟩
    · have hsrc : Src P i.size t (.slice A' 0 c) 0 [] w := by
        cases A' with
        | none => exact Src.ofNil w ht c
        | some a => exact Src.ofSlice w ht a 0 c [] (by simp) (fun j u hj => by simp at hj) (fun u hu => by cases hu)
      have := run_append_nothing w t t ty u i ht hq A n n (Nat.le_refl _) (.slice A' 0 c) hsrc
      simpa using this
    · exact (hd.more hBw).congr fun i hi => by simp [catF, hi]
  · obtain ⟨a, o, rfl, _, hc⟩ := hs.at_ hm
    have hnews : ∀ j x, (ba m g).toList[j]? = some x → w.cell? ((⟨a, o, none⟩ : Addr).add j) = some x := fun j x hx => by
      rw [Array.getElem?_toList] at hx
      by_cases hj : j < m
      · rw [ba_get m g j hj] at hx
        rw [add_mid, hc j hj, hx]
      · rw [ba_none m g j hj] at hx; cases hx
    have fin : ∀ v' w', w'.ownsRow w.heap.size u 1 v' (n + m) ((ba n b).toList ++ (ba m g).toList) → ∃ A'' c'', v' = .slice A'' (n + m) c'' ∧ Sl w' w'.heap.size A'' (n + m) c'' (catF n b g) ∧ c'' ≤ maxLen := fun v' w' ho => by
      rw [cat_ba] at ho
      have ho' : Own w' w.heap.size u v' (n + m) (catF n b g) := ho
      obtain ⟨A2, c2, e, hsl, hcm, _⟩ := ho'.sl
      exact ⟨A2, c2, e, hsl, hcm⟩
    cases A with
    | none =>
      obtain rfl := hd0 rfl
      obtain ⟨v', w', h1, h2, h3, _⟩ := run_appB (ty := ty) ht hi (Own.nil w w.heap.size u b) hs (by omega) (Nat.le_refl _)
      obtain ⟨A2, c2, e, hsl, hcm, _⟩ := h2.sl
      subst e
      exact ⟨A2, c2, w', h1, hsl, hcm, h3⟩
    | some ad =>
      have holds : ∀ j x, (ba n b).toList[j]? = some x → w.cell? (ad.add j) = some x := fun j x hx => by
        rw [Array.getElem?_toList] at hx
        by_cases hj : j < n
        · rw [ba_get n b j hj] at hx
          obtain ⟨a', o', e, _, hc'⟩ := hd.at_ (by omega)
          obtain rfl : ad = ⟨a', o', none⟩ := Option.some.inj e
          rw [add_mid, hc' j hj, hx]
        · rw [ba_none n b j hj] at hx; cases hx
      obtain ⟨v', w', h1, h2, h3⟩ := run_append_arg_grows (P := P) w t ty u i (.int .u8 0) 1 1 ht hq z0 z1 z2 rfl (by decide) ad n n (ba n b).toList (by rw [hla]; omega) holds ⟨a, o, none⟩ m c (ba m g).toList (by rw [hla]; omega) hnews (by omega) (by unfold maxLen; omega) (by omega)
      obtain ⟨A2, c2, e, hsl, hcm⟩ := fin v' w' h2
      subst e
      exact ⟨A2, c2, w', h1, hsl, hcm, h3⟩
theorem wpl_appF {P : Program} {w : World} {ops : Array Oper} {rest : List Oper} {o : Oper} {a : Act} {Q : Exit → Act → World → Prop} (hgd : o.guard = none) (s x : Operand) {t u : TypeId} (ho : o.op = .call { callee := .builtin .append, args := #[s, x], argTypes := #[t, t] })
    (ht : P.underlying t = some (.slice u)) (hi : (P.info? u).map (fun i => (i.zero, i.size, i.bytes)) = some (some (.int .u8 0), 1, 1))
    {B n : Nat} {A : Option Addr} {b : Bf} (hd : Sl w B A n n b) (hdm : n ≤ maxLen) (hBw : B ≤ w.heap.size) (hd0 : A = none → n = 0) {B' m c : Nat} {A' : Option Addr} {g : Bf} (hs : Sl w B' A' m c g) (hnm : n + m ≤ 140737488355328)
    (hv : a.eval s = .slice A n n) (hx : a.eval x = .slice A' m c)
    (h : ∀ A'' c'' w', Sl w' w'.heap.size A'' (n + m) c'' (catF n b g) → c'' ≤ maxLen → w.grownBy w' none → wpList P ops Q rest (a.put o.dst (.slice A'' (n + m) c'')) w') : wpList P ops Q (o :: rest) a w := by
  obtain ⟨A2, c2, w', hr, h1, h2, h3⟩ := run_appF (ty := o.type) ht hi hd hdm hBw hd0 hs hnm
  exact Lib.wpList_append_run w hgd s x t t ho _ _ hv hx _ _ hr (h A2 c2 w' h1 h2 h3)

/-- the nil address goes with no bytes -/
theorem Sl.nil_zero {w : World} {B n c : Nat} {A : Option Addr} {b : Bf} (h : Sl w B A n c b) : A = none → n = 0 := fun e => by
  rcases Nat.eq_zero_or_pos n with h0 | h0
  · exact h0
  · obtain ⟨_, _, e', _⟩ := h.at_ h0; rw [e] at e'; cases e'

/- rows that make makes -/
theorem Own.of_zero {w : World} {base : Nat} {u : TypeId} {v : Value} (h : w.ownsRow base u 1 v 0 []) (f : Bf) : Own w base u v 0 f := by
  unfold Own
  rw [show (ba 0 f).toList = [] from List.eq_nil_of_length_eq_zero (by rw [Array.length_toList, ba_size])]
  exact h
theorem made_ba (n : Nat) : madeCells (Value.int .u8 0).cells (n * 1) = ba n (fun _ => 0#8) := by
  apply Array.ext_getElem?
  intro i
  by_cases hi : i < n
  · rw [ba_get _ _ i hi]
    simp [madeCells, hi, Value.cells, Nat.mod_one, I]
  · rw [ba_none _ _ i hi]
    simp [madeCells]; omega
theorem Own.of_made {w : World} {base : Nat} {u : TypeId} {v : Value} {n : Nat} (h : w.ownsRow base u 1 v n (madeCells (Value.int .u8 0).cells (n * 1)).toList) : Own w base u v n (fun _ => 0#8) := by
  rw [made_ba] at h; exact h
/-- an append of a make onto nil: a new row, of which nothing is in use once it is cut to 0 -/
theorem run_grow {P : Program} (w : World) (t tn ty u : TypeId) (k kn : IntKind) (ht : P.underlying t = some (.slice u)) (htn : P.underlying tn = some (.int kn)) (hi : (P.info? u).map (fun i => (i.zero, i.size, i.bytes)) = some (some (.int .u8 0), 1, 1))
    (n : Nat) (h0 : 0 < n) (hn : n ≤ 140737488355328) :
    ∃ cap w', (Builtin.append_ #[t, tn] ty #[.slice none 0 0, .int k n]).run P w = .ok (.slice (some ⟨w.heap.size, 0, none⟩) n cap) w' ∧ (∀ f, Own w' w.heap.size u (.slice (some ⟨w.heap.size, 0, none⟩) 0 cap) 0 f) ∧ w.grownBy w' none := by
  obtain ⟨i, hq, z0, z1, z2⟩ := info_parts hi
  have hr := Lib.run_append_nil_zeros w t tn ty u i (.int .u8 0) k kn ht htn hq z0 n h0 (by omega) (by omega) (by rw [z2]; omega)
  have hge := grownCap_ge w n 0 u
  have hcm : grownCap w n 0 u ≤ maxLen := grownCap_le_maxLen w n 0 u (by unfold maxLen; omega)
  refine ⟨_, _, hr, fun f => Own.of_zero ⟨rfl, .inr ⟨w.heap.size, _, _, rfl, Nat.le_refl _, heap_alloc_new w.drew _, Nat.zero_le _, hcm, ?_, by simp⟩⟩ f, ⟨rfl, rfl, rfl, by simp, fun k hk _ => heap_alloc_old w.drew _ (by exact hk)⟩⟩
  simp only [Array.size_append, size_zeroCells]
  simp [Value.cells]
  omega

/- strings compared -/
theorem str_size (n : Nat) (b : Bf) : (strOf n b).size = n := by
  unfold strOf
  show ((List.range n).map fun i => UInt8.ofNat (b i).toNat).toArray.size = n
  simp
theorem str_congr {n : Nat} {b b' : Bf} (h : ∀ i, i < n → b i = b' i) : strOf n b = strOf n b' := by
  unfold strOf
  congr 2
  apply List.map_congr_left
  intro i hi
  rw [h i (List.mem_range.1 hi)]
theorem str_inj {n : Nat} {b b' : Bf} (h : strOf n b = strOf n b') : ∀ i, i < n → b i = b' i := fun i hi => by
  unfold strOf at h
  have h1 : ((List.range n).map fun i => UInt8.ofNat (b i).toNat) = ((List.range n).map fun i => UInt8.ofNat (b' i).toNat) := by
    have := congrArg (fun s : ByteArray => s.data.toList) h
    simpa using this
  have h2 := congrArg (fun l => l[i]?) h1
  simp only [List.getElem?_map, List.getElem?_range hi, Option.map_some, Option.some.injEq] at h2
  have h3 := congrArg UInt8.toNat h2
  apply BitVec.eq_of_toNat_eq
  have e1 : ∀ x : BitVec 8, (UInt8.ofNat x.toNat).toNat = x.toNat := fun x => by
    rw [UInt8.toNat_ofNat']; exact Nat.mod_eq_of_lt x.isLt
  rw [e1, e1] at h3
  exact h3
end Go.Proofs.Ytokhldihfbaeoaa.Oct
