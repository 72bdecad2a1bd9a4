/- 'x := f(a, b[i])' with x an array in memory, in a region that draws its order: the new block may be made at any time ahead of the store. One walk of what stands ahead of the call serves every order; behind it the block is somewhere among the new ones. Of whatever program. -/
import Derived.Test.YtfbgjapbffbdpaaSeen
namespace Go.Proofs.Ytfbgjapbffbdpaa.Oct
open Go.RowKit

/-- an operation that enters no function -/
def valB (o : Oper) : Bool := match o.op with
  | .move _ | .load .. | .indexAddr .. | .slice .. | .sliceToArrayPointer .. | .binOp .. | .unOp .. | .convert .. | .index .. | .fieldAddr .. | .field .. => true
  | _ => false
theorem no_enter {P : Program} {o : Oper} (h : valB o = true) (ρ : Operand → Value) (w w' : World) (f : FuncId) (xs : Array Value) : (execOp ρ o).run P w ≠ .ok (.enter f xs) w' := by
  have key : ∀ s : Sem Value, (do pure (Next.value (← s)) : Sem Next).run P w ≠ .ok (.enter f xs) w' := fun s => by
    simp only [Sem.run_bind]
    cases s.run P w with
    | ok v w1 => simp [Result.andThen]
    | halt x w1 => simp [Result.andThen]
  unfold valB at h
  unfold execOp
  split at h <;> rename_i e <;> simp only [e] <;> first
    | exact key _
    | (simp; done)
    | cases h

section
variable {P : Program} {ops : Array Oper} {C : World → Prop}
def FSunk (ops : Array Oper) (n : Nat) : Prop := sunkB .any ops 0 n = true ∧ Region.waitsFor .any ops (n + 2) n = true ∧ ops.size = n + 3
/-- while one of the head is not listed, only the new block and the head may come up -/
theorem FSunk.low {n : Nat} (hs : FSunk ops n) {listed : Array Bool} (inv : HeadInv .any ops n listed) {i : Nat} (hi : i < n) (hun : listed.getD i true = false) :
    ∀ t ∈ Region.ready .any ops listed, t ≠ n + 1 → t < n := by
  intro t ht hne
  obtain ⟨h1, h2, h3⟩ := hs
  obtain ⟨_, ot, hot, hall⟩ := mem_ready.1 ht
  have htl : t < ops.size := (Array.getElem?_eq_some_iff.1 hot).1
  by_cases htn : t < n
  · exact htn
  · exfalso
    by_cases e2 : t = n + 2
    · subst e2
      obtain ⟨o', ho', e, he, hb, hon⟩ := Region.waitsFor_spec h2
      obtain rfl : o' = ot := Option.some.inj (ho'.symm.trans hot)
      have h4 := hall e he hb
      rw [hon, getD_both (inv.tail n (Nat.le_refl _) (by omega))] at h4
      cases h4
    · obtain rfl : t = n := by omega
      have stuck : ∀ (d i : Nat), t - i = d → i < t → listed.getD i true = false → False := by
        intro d
        induction d using Nat.strongRecOn with
        | _ d ih =>
          intro i hd hi hun
          have h5 := List.all_eq_true.1 h1 i (List.mem_range.2 hi)
          simp only [Nat.not_lt_zero, decide_false, Bool.false_or] at h5
          obtain ⟨j, hj, hj2⟩ := List.any_eq_true.1 h5
          simp only [Bool.and_eq_true, decide_eq_true_eq] at hj2
          obtain ⟨oj, hoj, e, he, hb, hon⟩ := Region.waitsFor_spec hj2.2
          have hjn : j ≤ t := by have := List.mem_range.1 hj; omega
          by_cases hjt : j = t
          · subst hjt
            obtain rfl : oj = ot := Option.some.inj (hoj.symm.trans hot)
            have h6 := hall e he hb
            rw [hon, getD_both hun] at h6
            cases h6
          · cases hl : listed.getD j false with
            | true =>
              have h6 := inv.closed j oj hoj hl e he hb
              rw [hon, getD_both hun] at h6
              cases h6
            | false => exact ih (t - j) (by omega) j rfl (by omega) (getD_in (by rw [inv.size]; omega) hl)
      exact stuck _ i rfl hi hun

def HdF (P : Program) (ops : Array Oper) (C : World → Prop) (n : Nat) (L : Array Bool → Act → Prop) : Nat → Array Bool → Act → Prop
  | 0, listed, a => L listed a
  | f + 1, listed, a => (∃ i ∈ Region.ready .any ops listed, i < n) ∧ HeadInv .any ops n listed ∧ ∀ i ∈ Region.ready .any ops listed, i ≠ n + 1 → i < n ∧ qOp P ops C i (HdF P ops C n L f (listed.setIfInBounds i true)) a

theorem HdF.first {n i : Nat} {oi : Oper} {v : Value} {L : Array Bool → Act → Prop} (hi : ops[i]? = some oi) (hsel : Region.noSelect ops = true) (hs : FSunk ops n) (hin : i < n)
    (hdone : ∀ listed a, L listed a → ∀ j ∈ Region.ready .any ops listed, n ≤ j) :
    ∀ (f : Nat) (listed : Array Bool) (a : Act), HeadInv .any ops n listed →
      (∀ j oj, ops[j]? = some oj → j ≠ i → listed.getD j true = false → (∀ e ∈ oj.after, Region.binds .any e = true → e.on ≠ i) → oi.apart ops oj = true) →
      i ∈ Region.ready .any ops listed → YieldsIn P ops C oi v a →
      HdF P ops C n L f (listed.setIfInBounds i true) (a.put oi.dst v) → HdF P ops C n L (f + 1) listed a := by
  have sel := Region.noSelect_spec hsel
  intro f
  induction f with
  | zero =>
    intro listed a inv _ hr hy H
    refine ⟨⟨i, hr, hin⟩, inv, fun j hj hne => ⟨hs.low inv hin (mem_ready.1 hr).1 j hj hne, ?_⟩⟩
    by_cases hji : j = i
    · subst hji; exact hy.qOp hi H
    · exact absurd (hdone _ _ H j (ready_mono hj hji)) (by have := hs.low inv hin (mem_ready.1 hr).1 j hj hne; omega)
  | succ f ih =>
    intro listed a inv hfree hr hy H
    refine ⟨⟨i, hr, hin⟩, inv, fun j hj hne => ⟨hs.low inv hin (mem_ready.1 hr).1 j hj hne, ?_⟩⟩
    by_cases hji : j = i
    · subst hji; exact hy.qOp hi H
    · obtain ⟨hjun, oj, hoj, hall⟩ := mem_ready.1 hj
      have hno : ∀ e ∈ oj.after, Region.binds .any e = true → e.on ≠ i := fun e he hb heq => by
        have h1 := hall e he hb
        rw [heq, getD_both (mem_ready.1 hr).1] at h1
        cases h1
      have hjn := hs.low inv hin (mem_ready.1 hr).1 j hj hne
      refine qOp_mono (fun a' h3 => ih (listed.setIfInBounds j true) a' (inv.set hj hjn) (fun k ok hk hki hun hn' => ?_) (ready_mono hr (Ne.symm hji)) h3.1 ?_)
        (qOp_put hoj (hfree j oj hoj hji hjun hno) (fun cs b => sel i oi cs b hi) (fun cs b => sel j oj cs b hoj) hy (H.2.2 j (ready_mono hj hji) hne).2)
      · refine hfree k ok hk hki ?_ hn'
        by_cases hjk : j = k
        · subst hjk; exact hjun
        · rwa [getD_set_ne true hjk] at hun
      · rw [Array.setIfInBounds_comm _ _ hji]; exact h3.2

def headB (ops : Array Oper) : Nat → Nat → Array Bool → Bool
  | 0, _, _ => true
  | f + 1, k, listed => (Region.ready .any ops listed).contains k && Region.free .any ops listed k && headB ops f (k + 1) (listed.setIfInBounds k true)
/-- the lists with the head on -/
def heads (n m : Nat) : Array Bool := (List.replicate n true ++ List.replicate m false).toArray
theorem heads_set (k m : Nat) : (heads k (m + 1)).setIfInBounds k true = heads (k + 1) m := by
  unfold heads
  rw [List.setIfInBounds_toArray]
  congr 1
  rw [List.set_append_right _ _ (by simp), List.length_replicate, Nat.sub_self]
  have e1 : List.replicate (m + 1) false = false :: List.replicate m false := List.replicate_succ
  have e2 : List.replicate (k + 1) true = List.replicate k true ++ [true] := List.replicate_succ'
  rw [e1, e2, List.set_cons_zero, List.append_assoc]
  rfl

theorem HdF.lex {n : Nat} {Lq : Act → Prop} (hsel : Region.noSelect ops = true) (hs : FSunk ops n) (hdone : ∀ j ∈ Region.ready .any ops (heads n 3), n ≤ j) :
    ∀ (l : List Oper) (k : Nat) (a : Act), (∀ j, j < l.length → l[j]? = ops[k + j]?) → k + l.length = n → HeadInv .any ops n (heads k (l.length + 3)) →
    headB ops l.length k (heads k (l.length + 3)) = true → wpQuiet P ops C Lq l a → HdF P ops C n (fun listed' a' => listed' = heads n 3 ∧ Lq a') l.length (heads k (l.length + 3)) a := by
  intro l
  induction l with
  | nil =>
    intro k a _ hk _ _ h
    obtain rfl : k = n := by simpa using hk
    exact ⟨rfl, h⟩
  | cons o l ih =>
    intro k a hl hk inv hB h
    have h0 : ops[k]? = some o := by simpa using (hl 0 (by simp)).symm
    simp only [List.length_cons, headB, Bool.and_eq_true] at hB
    simp only [List.length_cons] at hk inv
    obtain ⟨⟨hr, hf⟩, hB'⟩ := hB
    have hr' : k ∈ Region.ready .any ops (heads k (l.length + 1 + 3)) := by simpa using hr
    have hq : qOp P ops C k (wpQuiet P ops C Lq l) a := by unfold qOp; simp only [h0]; exact h
    obtain ⟨v, hy, hK⟩ := yieldsIn_of_qOp h0 hq
    have hset : (heads k (l.length + 1 + 3)).setIfInBounds k true = heads (k + 1) (l.length + 3) := heads_set k (l.length + 3)
    rw [hset] at hB'
    refine HdF.first h0 hsel hs (by omega) (fun _ _ hL => by rw [hL.1]; exact hdone) l.length _ a inv (Region.free_spec h0 hf) hr' hy ?_
    have inv' := inv.set hr' (by omega)
    simp only [List.length_cons]
    rw [hset] at inv' ⊢
    exact ih (k + 1) _ (fun j hj => by have := hl (j + 1) (by simp; omega); simpa [Nat.add_assoc, Nat.add_comm 1 j] using this) (by omega) inv' hB' hK

/-- behind the new block: the head goes on -/
theorem HdF.made {n : Nat} {W : World} {Q : Exit → Act → World → Prop} {Lq : Act → Prop} (hs : FSunk ops n) (hval : ∀ i o, i < n → ops[i]? = some o → valB o = true) (hsel : Region.noSelect ops = true)
    (hal : ∀ i, i < n + 1 → Region.waitsFor .any ops i (n + 1) = false) {oa : Oper} (hap : ∀ i o, i < n → ops[i]? = some o → oa.apart ops o = true) {z : Array Value} {p : Nat}
    (hend : ∀ a w, (∃ x : After W, w = x.val) → row w p = some z → Lq a → wpAny P .any ops Q 2 ((heads n 3).setIfInBounds (n + 1) true) (a.put oa.dst (.pointer (some ⟨p, 0, none⟩))) w) :
    ∀ (f : Nat) (listed : Array Bool) (a : Act) (w : World), HdF P ops (fun w' => ∃ x : After W, w' = x.val) n (fun listed' a' => listed' = heads n 3 ∧ Lq a') f listed a → (∃ x : After W, w = x.val) → row w p = some z →
      wpAny P .any ops Q (f + 2) (listed.setIfInBounds (n + 1) true) (a.put oa.dst (.pointer (some ⟨p, 0, none⟩))) w := by
  intro f
  induction f with
  | zero =>
    intro listed a w h hw hr
    obtain ⟨rfl, hq⟩ := h
    rw [Nat.zero_add]
    exact hend a w hw hr hq
  | succ f ih =>
    intro listed a w h hw hr
    obtain ⟨⟨i0, hi0, hi0n⟩, inv, hall⟩ := h
    rw [show f + 1 + 2 = (f + 2) + 1 by omega]
    refine ⟨fun h0 => ?_, fun i hi => ?_⟩
    · have := ready_mono (i := n + 1) hi0 (by omega)
      rw [h0] at this; cases this
    · -- it was ready ahead of the new block, too
      obtain ⟨hun, o, ho, hcond⟩ := mem_ready.1 hi
      have hne : i ≠ n + 1 := fun e => by
        subst e
        rw [Array.getD_eq_getD_getElem?, Array.getElem?_setIfInBounds, if_pos rfl] at hun
        split at hun <;> cases hun
      have hlt : i < ops.size := (Array.getElem?_eq_some_iff.1 ho).1
      have hnw : ∀ e ∈ o.after, Region.binds .any e = true → e.on ≠ n + 1 := fun e he hb heq => by
        have hin : i < n + 1 := by
          by_cases h2 : i < n + 1
          · exact h2
          · exfalso
            have h3 := hs.2.2
            obtain rfl : i = n + 2 := by omega
            obtain ⟨o', ho', e', he', hb', hon'⟩ := Region.waitsFor_spec hs.2.1
            obtain rfl : o' = o := Option.some.inj (ho'.symm.trans ho)
            have h4 := hcond e' he' hb'
            rw [hon', getD_set_ne false (by omega), getD_both (inv.tail n (Nat.le_refl _) (by omega))] at h4
            cases h4
        have h5 := hal i hin
        unfold Region.waitsFor at h5
        rw [ho] at h5
        have h6 := Array.any_eq_false'.1 h5 e he
        simp [hb, heq] at h6
      have hold : i ∈ Region.ready .any ops listed := mem_ready.2 ⟨by rwa [getD_set_ne true (Ne.symm hne)] at hun, o, ho, fun e he hb => by
        have h7 := hcond e he hb
        rwa [getD_set_ne false (Ne.symm (hnw e he hb))] at h7⟩
      obtain ⟨hin, hq⟩ := hall i hold hne
      obtain ⟨h1, h2, h3⟩ := Oper.apart_spec (hap i o hin ho)
      have hcomm := Array.setIfInBounds_comm (xs := listed) true true hne
      unfold qOp at hq
      unfold wpOp
      simp only [ho] at hq ⊢
      rw [wanted_put o a oa.dst _ h1]
      by_cases hw' : Region.wanted o (yielded ops a.tmps) = true
      · simp only [hw', if_true] at hq ⊢
        obtain ⟨v, hv, hK⟩ := hq
        have hvw := hv w hw
        refine .inl ?_
        unfold Oper.quietAt at hvw
        unfold Oper.wp
        rw [execOp_put o (Region.noSelect_spec hsel i o · · ho) a oa.dst _ h1]
        have hne' := no_enter (P := P) (hval i o hin ho) a.eval w
        generalize (execOp a.eval o).run P w = r at *
        have go : wpAny P .any ops Q (f + 2) ((listed.setIfInBounds (n + 1) true).setIfInBounds i true) ((a.put oa.dst (.pointer (some ⟨p, 0, none⟩))).put o.dst v) w := by
          rw [Act.put_comm a _ v h2, ← hcomm]
          exact ih _ _ w hK hw hr
        cases r with
        | ok nx w1 =>
          cases nx <;> simp only [Oper.quietUpon] at hvw <;> simp only [Oper.upon]
          case value u => obtain ⟨e1, e2⟩ := hvw; rw [e1, e2]; exact go
          case skip => obtain ⟨e1, e2⟩ := hvw; rw [e1, ← e2]; exact go
          case enter f' xs => exact absurd rfl (hne' w1 f' xs)
        | halt x w1 => simp only [Oper.quietUpon] at hvw
      · simp only [hw'] at hq ⊢
        rw [if_neg (by simp)] at hq ⊢
        rw [Act.put_comm a _ undef h2, ← hcomm]
        exact ih _ _ w hq hw hr

/-- the call, the new block and the store -/
structure Floats (P : Program) (ops : Array Oper) (W : World) (Q : Exit → Act → World → Prop) (Lq : Act → Prop) (n : Nat) (oc oa ost : Oper) (v : Value) (z : Array Value) : Prop where
  sunk : FSunk ops n
  sel : Region.noSelect ops = true
  val : ∀ i o, i < n → ops[i]? = some o → valB o = true
  al : ∀ i, i < n + 1 → Region.waitsFor .any ops i (n + 1) = false
  hoc : ops[n]? = some oc
  hoa : ops[n + 1]? = some oa
  hos : ops[n + 2]? = some ost
  gc : oc.guard = none
  ga : oa.guard = none
  apart : ∀ i o, i < n + 1 → ops[i]? = some o → oa.apart ops o = true
  r0 : Region.ready .any ops (heads n 3) = [n, n + 1]
  r1 : Region.seqB .any ops 2 (n + 1) (heads (n + 1) 2) = true
  r2 : Region.ready .any ops ((heads n 3).setIfInBounds (n + 1) true) = [n]
  r3 : ((heads n 3).setIfInBounds (n + 1) true).setIfInBounds n true = heads (n + 2) 1
  r4 : Region.seqB .any ops 1 (n + 2) (heads (n + 2) 1) = true
  call : ∀ a w, (∃ x : After W, w = x.val) → Lq a → ∃ f xs, (execOp a.eval oc).run P w = .ok (.enter f xs) w ∧ Calls P f xs w fun e w' => e = .returned v ∧ Below w.heap.size w w'
  alloc : ∀ ρ w, ∃ w', (execOp ρ oa).run P w = .ok (.value (.pointer (some ⟨w.heap.size, 0, none⟩))) w' ∧ row w' w.heap.size = some z ∧ Below w.heap.size w w'
  store : ∀ a p w, (∃ x : After W, w = x.val) → Lq a → W.heap.size ≤ p → row w p = some z → wpList P ops Q [ost] ((a.put oc.dst v).put oa.dst (.pointer (some ⟨p, 0, none⟩))) w

theorem After.more {W w w' : World} (h : ∃ x : After W, w = x.val) (hb : Below w.heap.size w w') : ∃ x : After W, w' = x.val := by
  obtain ⟨x, rfl⟩ := h
  exact ⟨⟨w', onto x.below x.below.size hb⟩, rfl⟩

theorem After.size {W w : World} (h : ∃ x : After W, w = x.val) : W.heap.size ≤ w.heap.size := by
  obtain ⟨x, rfl⟩ := h
  exact x.below.size

variable {W : World} {Q : Exit → Act → World → Prop} {Lq : Act → Prop} {n : Nat} {oc oa ost : Oper} {v : Value} {z : Array Value}
theorem Floats.wp_alloc (F : Floats P ops W Q Lq n oc oa ost v z) {K : Act → World → Prop} {a : Act} {w : World}
    (h : ∀ w', row w' w.heap.size = some z → Below w.heap.size w w' → K (a.put oa.dst (.pointer (some ⟨w.heap.size, 0, none⟩))) w') : wpOp P ops Q (n + 1) K a w := by
  obtain ⟨w', h1, h2, h3⟩ := F.alloc a.eval w
  unfold wpOp
  simp only [F.hoa]
  have hw : Region.wanted oa (yielded ops a.tmps) = true := by unfold Region.wanted; rw [F.ga]
  rw [if_pos hw]
  refine .inl ?_
  unfold Oper.wp
  rw [h1]
  exact h w' h2 h3
theorem Floats.wp_call (F : Floats P ops W Q Lq n oc oa ost v z) {K : Act → World → Prop} {a b : Act} {w : World} (hw : ∃ x : After W, w = x.val) (hq : Lq a) (he : (execOp b.eval oc).run P w = (execOp a.eval oc).run P w)
    (h : ∀ w', Below w.heap.size w w' → K (b.put oc.dst v) w') : wpOp P ops Q n K b w := by
  obtain ⟨f, xs, h1, h2⟩ := F.call a w hw hq
  unfold wpOp
  simp only [F.hoc]
  have hw : Region.wanted oc (yielded ops b.tmps) = true := by unfold Region.wanted; rw [F.gc]
  rw [if_pos hw]
  refine .inl ?_
  unfold Oper.wp
  rw [he, h1]
  exact h2.mono (by rintro e w' ⟨rfl, hb⟩; exact h w' hb)

theorem Floats.last (F : Floats P ops W Q Lq n oc oa ost v z) {a : Act} {w : World} {p : Nat} (hp : W.heap.size ≤ p) (hw : ∃ x : After W, w = x.val) (hr : row w p = some z) (hq : Lq a) :
    wpAny P .any ops Q 2 ((heads n 3).setIfInBounds (n + 1) true) (a.put oa.dst (.pointer (some ⟨p, 0, none⟩))) w := by
  refine ⟨fun h => (by rw [F.r2] at h; cases h), fun i hi => ?_⟩
  rw [F.r2] at hi
  obtain rfl : i = n := by simpa using hi
  obtain ⟨h1, h2, h3⟩ := Oper.apart_spec (F.apart i oc (by omega) F.hoc)
  refine F.wp_call hw hq (by rw [execOp_put oc (Region.noSelect_spec F.sel i oc · · F.hoc) a oa.dst _ h1]) fun w' hb => ?_
  rw [F.r3, Act.put_comm a _ v h2]
  exact wpAny_of_seq [ost] (i + 2) _ _ _ (fun j => by
    cases j with
    | zero => simpa using F.hos.symm
    | succ j => have := F.sunk.2.2; simp; omega) F.r4 (F.store a p w' (After.more hw hb) hq hp (carry hb hr))

theorem Floats.any (F : Floats P ops W Q Lq n oc oa ost v z) : ∀ (f : Nat) (listed : Array Bool) (a : Act) (w : World),
    HdF P ops (fun w' => ∃ x : After W, w' = x.val) n (fun listed' a' => listed' = heads n 3 ∧ Lq a') f listed a → (∃ x : After W, w = x.val) → wpAny P .any ops Q (f + 3) listed a w := by
  intro f
  induction f with
  | zero =>
    intro listed a w h hw
    obtain ⟨rfl, hq⟩ := h
    refine ⟨fun h => (by rw [F.r0] at h; cases h), fun i hi => ?_⟩
    rw [F.r0] at hi
    rcases (by simpa using hi : i = n ∨ i = n + 1) with rfl | rfl
    · refine F.wp_call hw hq rfl fun w' hb => ?_
      rw [heads_set i 2]
      refine wpAny_of_seq [oa, ost] (i + 1) _ _ _ (fun j => ?_) F.r1 ?_
      · match j with
        | 0 => simpa using F.hoa.symm
        | 1 => simpa using F.hos.symm
        | j + 2 => have := F.sunk.2.2; simp; omega
      · have h5 := F.wp_alloc (K := wpList P ops Q [ost]) (a := a.put oc.dst v) (w := w') fun w2 hr hb2 => F.store a w'.heap.size w2 (After.more (After.more hw hb) hb2) hq (After.size (After.more hw hb)) hr
        unfold wpOp at h5
        simp only [F.hoa] at h5
        exact h5
    · refine F.wp_alloc fun w' hr hb => ?_
      exact F.last (After.size hw) (After.more hw hb) hr hq
  | succ f ih =>
    intro listed a w h hw
    rw [show f + 1 + 3 = (f + 1 + 2) + 1 by omega]
    obtain ⟨⟨i0, hi0, hi0n⟩, inv, hall⟩ := h
    refine ⟨fun h0 => (by rw [h0] at hi0; cases hi0), fun i hi => ?_⟩
    by_cases hia : i = n + 1
    · subst hia
      refine F.wp_alloc fun w' hr hb => ?_
      exact HdF.made (W := W) (Q := Q) F.sunk F.val F.sel F.al (fun i o h => F.apart i o (by omega)) (fun a w' hw' hr hq => F.last (After.size hw) hw' hr hq) (f + 1) listed a w' ⟨⟨i0, hi0, hi0n⟩, inv, hall⟩ (After.more hw hb) hr
    · exact wpOp_of_qOp hw (fun a' w' hw' h' => ih _ _ _ h' hw') (hall i hi hia).2

def floatB (l : List Oper) (n : Nat) : Bool :=
  match l[n]?, l[n + 1]? with
  | some oc, some oa =>
    Region.noSelect l.toArray && l.length == n + 3 && sunkB .any l.toArray 0 n && Region.waitsFor .any l.toArray (n + 2) n && (l.take n).all valB &&
    (List.range (n + 1)).all (fun i => !Region.waitsFor .any l.toArray i (n + 1)) && oc.guard.isNone && oa.guard.isNone && (l.take (n + 1)).all (fun o => oa.apart l.toArray o) &&
    Region.ready .any l.toArray (heads n 3) == [n, n + 1] && Region.seqB .any l.toArray 2 (n + 1) (heads (n + 1) 2) && Region.ready .any l.toArray ((heads n 3).setIfInBounds (n + 1) true) == [n] &&
    ((heads n 3).setIfInBounds (n + 1) true).setIfInBounds n true == heads (n + 2) 1 && Region.seqB .any l.toArray 1 (n + 2) (heads (n + 2) 1) && headB l.toArray n 0 (heads 0 (n + 3))
  | _, _ => false

theorem float_tail {id : Nat} {a : Act} {l : List Oper} (n : Nat) (v : Value) (z : Array Value) (Lq : Act → Prop) (oc oa ost : Oper) (hm : P.follows .mixedOrders = true) (hB : floatB l n = true)
    (hoc : l[n]? = some oc) (hoa : l[n + 1]? = some oa) (hos : l[n + 2]? = some ost)
    (hcall : ∀ a w, (∃ x : After W, w = x.val) → Lq a → ∃ f xs, (execOp a.eval oc).run P w = .ok (.enter f xs) w ∧ Calls P f xs w fun e w' => e = .returned v ∧ Below w.heap.size w w')
    (halloc : ∀ ρ w, ∃ w', (execOp ρ oa).run P w = .ok (.value (.pointer (some ⟨w.heap.size, 0, none⟩))) w' ∧ row w' w.heap.size = some z ∧ Below w.heap.size w w')
    (hstore : ∀ a p w, (∃ x : After W, w = x.val) → Lq a → W.heap.size ≤ p → row w p = some z → wpList P l.toArray Q [ost] ((a.put oc.dst v).put oa.dst (.pointer (some ⟨p, 0, none⟩))) w)
    (h : wpQuiet P l.toArray (fun w' => ∃ x : After W, w' = x.val) Lq (l.take n) a) : (Code.region id l.toArray true).wp P Q a W := by
  unfold floatB at hB
  rw [hoc, hoa] at hB
  simp only [Bool.and_eq_true, beq_iff_eq, Option.isNone_iff_eq_none] at hB
  obtain ⟨⟨⟨⟨⟨⟨⟨⟨⟨⟨⟨⟨⟨⟨hsel, hlen⟩, hsunk⟩, hwait⟩, hval⟩, hal⟩, gc⟩, ga⟩, hap⟩, r0⟩, r1⟩, r2⟩, r3⟩, r4⟩, hhd⟩ := hB
  have inT : ∀ i o m, i < m → l.toArray[i]? = some o → o ∈ l.take m := fun i o m hi ho => by
    rw [List.getElem?_toArray] at ho
    exact List.mem_of_getElem? (i := i) (by rw [List.getElem?_take, if_pos hi]; exact ho)
  have F : Floats P l.toArray W Q Lq n oc oa ost v z :=
    { sunk := ⟨hsunk, hwait, by simpa using hlen⟩, sel := hsel, val := fun i o hi ho => List.all_eq_true.1 hval o (inT i o n hi ho)
      al := fun i hi => by simpa using List.all_eq_true.1 hal i (List.mem_range.2 hi)
      hoc := by simpa using hoc, hoa := by simpa using hoa, hos := by simpa using hos, gc, ga
      apart := fun i o hi ho => List.all_eq_true.1 hap o (inT i o (n + 1) hi ho)
      r0, r1, r2, r3, r4, call := hcall, alloc := halloc, store := hstore }
  refine wp_region_any hm ?_
  have e0 : Array.replicate l.length false = heads 0 (n + 3) := by rw [hlen]; simp [heads]
  have inv0 : HeadInv .any l.toArray n (heads 0 (n + 3)) := e0 ▸
    ⟨by simp, fun j oj _ hl => (by rw [getD_replicate_false] at hl; cases hl), fun t _ ht => getD_in (by simpa using ht) (getD_replicate_false _ _)⟩
  have htl : (l.take n).length = n := by simp; omega
  have hdone : ∀ j ∈ Region.ready .any l.toArray (heads n 3), n ≤ j := fun j hj => by
    rw [r0] at hj
    rcases (by simpa using hj : j = n ∨ j = n + 1) with rfl | rfl <;> omega
  have H := HdF.lex (P := P) (C := fun w' => ∃ x : After W, w' = x.val) (Lq := Lq) F.sel F.sunk hdone (l.take n) 0 a (fun j hj => by rw [htl] at hj; simp [hj]) (by rw [htl]; omega) (by rw [htl]; exact inv0) (by rw [htl]; exact hhd) h
  rw [htl] at H
  have := F.any n _ a { W with drawn := W.drawn + 1 } H ⟨⟨W.drewN 1, below_drewN (Below.refl _ _) 1⟩, rfl⟩
  rw [← e0] at this
  simpa [hlen] using this

structure FEnd (P : Program) (ops : Array Oper) (W : World) (Q : Exit → Act → World → Prop) (oc oa ost : Oper) (v : Value) (z : Array Value) (a : Act) : Prop where
  call : ∀ x : After W, ∃ f xs, (execOp a.eval oc).run P x.val = .ok (.enter f xs) x.val ∧ Calls P f xs x.val fun e w' => e = .returned v ∧ Below x.val.heap.size x.val w'
  store : ∀ (x : After W) p, W.heap.size ≤ p → row x.val p = some z → wpList P ops Q [ost] ((a.put oc.dst v).put oa.dst (.pointer (some ⟨p, 0, none⟩))) x.val
theorem float_region {id : Nat} {a : Act} {l : List Oper} (n : Nat) (v : Value) (z : Array Value) (oc oa ost : Oper) (hm : P.follows .mixedOrders = true) (hB : floatB l n = true)
    (hoc : l[n]? = some oc) (hoa : l[n + 1]? = some oa) (hos : l[n + 2]? = some ost)
    (halloc : ∀ ρ w, ∃ w', (execOp ρ oa).run P w = .ok (.value (.pointer (some ⟨w.heap.size, 0, none⟩))) w' ∧ row w' w.heap.size = some z ∧ Below w.heap.size w w')
    (h : wpQuiet P l.toArray (fun w' => ∃ x : After W, w' = x.val) (FEnd P l.toArray W Q oc oa ost v z) (l.take n) a) : (Code.region id l.toArray true).wp P Q a W :=
  float_tail n v z (FEnd P l.toArray W Q oc oa ost v z) oc oa ost hm hB hoc hoa hos (fun _ _ ⟨x, hx⟩ h => by subst hx; exact h.call x) halloc (fun _ p _ ⟨x, hx⟩ h hp hr => by subst hx; exact h.store x p hp hr) h
end
end Go.Proofs.Ytfbgjapbffbdpaa.Oct
