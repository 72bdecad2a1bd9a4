/- A region that draws its order, by an invariant: what holds of the slots and the world once some of the operations are done, whichever; each operation that may come next keeps it. Of whatever program. -/
import Derived.Test.YtokhldihfbaeoaaSeen
namespace Go.Proofs.Ytokhldihfbaeoaa.Oct
open Go.RowKit

/-- the end of one operation's walk -/
def atEnd (K : Act → World → Prop) (Q : Exit → Act → World → Prop) : Exit → Act → World → Prop
  | .normal => K
  | e => Q e
def done (g : Nat → Bool) (i : Nat) : Nat → Bool := fun j => if j = i then true else g j
theorem done_at (g : Nat → Bool) (i j : Nat) : done g i j = if j = i then true else g j := rfl
theorem done_same (g : Nat → Bool) (i : Nat) : done g i i = true := by simp [done]
theorem done_other (g : Nat → Bool) {i j : Nat} (h : j ≠ i) : done g i j = g j := by simp [done, h]

section
variable {P : Program} {ops : Array Oper}
theorem upon_end (o : Oper) (a : Act) (K : Act → World → Prop) (Q : Exit → Act → World → Prop) (r : Result Next) (h : o.upon P a K (atEnd K Q) r) : o.upon P a K Q r := by
  cases r with
  | ok n w' =>
    cases n <;> simp only [Oper.upon] at h ⊢ <;>
      first
        | exact h
        | exact Calls.mono h (fun e w'' he => by cases e <;> exact he)
  | halt x w' => cases x <;> simp only [Oper.upon] at h ⊢ <;> exact h
theorem wpOp_of_list {i : Nat} {o : Oper} {a : Act} {w : World} {K : Act → World → Prop} {Q : Exit → Act → World → Prop} (ho : ops[i]? = some o) (h : wpList P ops (atEnd K Q) [o] a w) : wpOp P ops Q i K a w := by
  unfold wpOp
  simp only [ho]
  unfold wpList at h
  by_cases hw : Region.wanted o (yielded ops a.tmps) = true
  · rw [if_pos hw] at h ⊢
    rcases h with h | ⟨h1, h2⟩
    · exact .inl (upon_end o a K Q _ h)
    · exact .inr ⟨h1, h2⟩
  · rw [if_neg hw] at h ⊢
    exact h

def fwdB (l : List Oper) : Bool := (List.range l.length).all fun i => match l[i]? with | some o => o.after.all fun e => decide (e.on < i) | none => true
theorem fwd_of {l : List Oper} (h : fwdB l = true) {i : Nat} {o : Oper} (ho : l[i]? = some o) : ∀ e ∈ o.after, e.on < i := by
  intro e he
  have hi : i < l.length := (List.getElem?_eq_some_iff.1 ho).1
  have h1 := List.all_eq_true.1 h i (List.mem_range.2 hi)
  rw [ho] at h1
  have h2 := Array.all_eq_true_iff_forall_mem.1 h1 e he
  simpa using h2

theorem inv_region {id : Nat} {a : Act} {w : World} {l : List Oper} {Q : Exit → Act → World → Prop} (Inv : Act → (Nat → Bool) → Act → World → Prop) (hm : P.follows .mixedOrders = true) (hB : fwdB l = true)
    (h0 : Inv a (fun _ => false) a (w.drewN 1))
    (step : ∀ g b w, Inv a g b w → ∀ i o, l[i]? = some o → g i = false → (∀ e ∈ o.after, Region.binds .any e = true → g e.on = true) → wpList P l.toArray (atEnd (Inv a (done g i)) Q) [o] b w)
    (fin : ∀ g b w, Inv a g b w → (∀ i, i < l.length → g i = true) → Q .normal b w) : (Code.region id l.toArray true).wp P Q a w := by
  refine wp_region_any hm ?_
  have full : ∀ listed : Array Bool, listed.size = l.length → Region.ready .any l.toArray listed = [] → ∀ i, i < l.length → listed.getD i false = true := by
    intro listed hsz hr i
    induction i using Nat.strongRecOn with
    | _ i ih =>
      intro hi
      cases hl : listed.getD i false with
      | true => rfl
      | false =>
        exfalso
        have hmem : i ∈ Region.ready .any l.toArray listed := mem_ready.2 ⟨getD_in (by omega) hl, l[i], by simp [hi], fun e he _ => ih e.on (fwd_of hB (i := i) (o := l[i]) (List.getElem?_eq_getElem hi) e he) (by have := fwd_of hB (i := i) (o := l[i]) (List.getElem?_eq_getElem hi) e he; omega)⟩
        rw [hr] at hmem; cases hmem
  have key : ∀ (f : Nat) (listed : Array Bool) (b : Act) (w : World), listed.size = l.length → (listed.toList.count false) = f → Inv a (fun j => listed.getD j false) b w → wpAny P .any l.toArray Q f listed b w := by
    intro f
    induction f with
    | zero =>
      intro listed b w hsz hc hI
      have hr : Region.ready .any l.toArray listed = [] := by
        rw [List.eq_nil_iff_forall_not_mem]
        intro i hi
        have hun := (mem_ready.1 hi).1
        have hil : i < listed.size := by
          by_cases h : i < listed.size
          · exact h
          · rw [Array.getD_eq_getD_getElem?, Array.getElem?_eq_none (by omega)] at hun; cases hun
        have : false ∈ listed.toList := by
          rw [Array.getD_eq_getD_getElem?, Array.getElem?_eq_getElem hil] at hun
          rw [← (show listed[i] = false from hun)]
          exact Array.mem_toList_iff.2 (Array.getElem_mem hil)
        exact absurd hc (Nat.ne_of_gt (List.count_pos_iff.2 this))
      exact ⟨hr, fin _ _ _ hI (full listed hsz hr)⟩
    | succ f ih =>
      intro listed b w hsz hc hI
      refine ⟨fun hr => fin _ _ _ hI (full listed hsz hr), fun i hi => ?_⟩
      obtain ⟨hun, o, ho, hall⟩ := mem_ready.1 hi
      have hil : i < listed.size := by
        by_cases h : i < listed.size
        · exact h
        · rw [Array.getD_eq_getD_getElem?, Array.getElem?_eq_none (by omega)] at hun; cases hun
      have hunf : listed.getD i false = false := by
        rw [Array.getD_eq_getD_getElem?, Array.getElem?_eq_getElem hil] at hun ⊢; exact hun
      have hw := step _ _ _ hI i o (by simpa using ho) hunf hall
      refine wpOp_mono (fun a' w' h' => ?_) (wpOp_of_list ho hw)
      refine ih (listed.setIfInBounds i true) a' w' (by simpa using hsz) ?_ ?_
      · have hli : listed.toList[i]? = some false := by
          rw [Array.getElem?_toList, Array.getElem?_eq_getElem hil]
          rw [Array.getD_eq_getD_getElem?, Array.getElem?_eq_getElem hil] at hunf
          exact congrArg some hunf
        rw [Array.toList_setIfInBounds]
        obtain ⟨hlt, hv⟩ := List.getElem?_eq_some_iff.1 hli
        rw [List.count_set hlt, hv, hc]
        simp
      · have e : (fun j => (listed.setIfInBounds i true).getD j false) = done (fun j => listed.getD j false) i := by
          funext j
          unfold done
          by_cases hj : j = i
          · subst hj
            rw [if_pos rfl, Array.getD_eq_getD_getElem?, Array.getElem?_setIfInBounds, if_pos rfl, if_pos hil]; rfl
          · rw [if_neg hj, getD_set_ne false (fun h => hj h.symm)]
        rw [e]
        exact h'
  have hcount : (Array.replicate l.length false).toList.count false = l.length := by rw [Array.toList_replicate, List.count_replicate_self]
  have := key l.length (Array.replicate l.length false) a (w.drewN 1) (by simp) hcount (by
    have e : (fun j => (Array.replicate l.length false).getD j false) = fun _ => false := by
      funext j; exact getD_replicate_false _ _
    rw [e]; exact h0)
  simpa [drew_eq] using this
end
end Go.Proofs.Ytokhldihfbaeoaa.Oct
