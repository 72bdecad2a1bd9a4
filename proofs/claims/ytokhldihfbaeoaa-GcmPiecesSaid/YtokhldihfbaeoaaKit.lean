/- A region that draws its order, whose last operations come up one by one behind all the others, and whose others only read or draw: one walk in the text's order serves every order. Of whatever program. -/
import Derived.Test.YtokhldihfbaeoaaBa
import Derived.StillTailTactics
import Derived.Deep.QuietTactic
import Derived.BigQuiet
import Derived.Outline
namespace Go.Proofs.Ytokhldihfbaeoaa.Oct
open Go.RowKit

section
variable {P : Program} {ops : Array Oper} {md : Region.Mode} {C : World → Prop}

/-- each operation of the head from s on is waited for by a later one, up to the first of the tail -/
def sunkB (md : Region.Mode) (ops : Array Oper) (s n : Nat) : Bool :=
  (List.range n).all fun i => decide (i < s) || (List.range (n + 1)).any fun j => decide (i < j) && Region.waitsFor md ops j i
/-- the state of the lists on the way: what is listed has all that it waits for; the first s are; nothing of the tail is -/
structure On (md : Region.Mode) (ops : Array Oper) (s n : Nat) (listed : Array Bool) : Prop where
  inv : HeadInv md ops n listed
  low : ∀ i, i < s → listed.getD i true = true

theorem On.set {s n i : Nat} {listed : Array Bool} (h : On md ops s n listed) (hi : i ∈ Region.ready md ops listed) (hin : i < n) : On md ops s n (listed.setIfInBounds i true) :=
  ⟨h.inv.set hi hin, fun j hj => by
    by_cases hij : i = j
    · subst hij
      have := (mem_ready.1 hi).1
      rw [h.low i hj] at this
      cases this
    · rw [getD_set_ne true hij]; exact h.low j hj⟩

/-- while one of the head is not listed, nothing of the tail may come up -/
theorem On.waits {s n : Nat} {listed : Array Bool} (hs : sunkB md ops s n = true) (hc : Region.chainB md ops n = true) (hn : n < ops.size) (h : On md ops s n listed) :
    ∀ (d i : Nat), n - i = d → i < n → listed.getD i true = false → ∀ t, n ≤ t → t ∉ Region.ready md ops listed := by
  intro d
  induction d using Nat.strongRecOn with
  | _ d ih =>
    intro i hd hi hun t ht hr
    have his : ¬ i < s := fun e => by rw [h.low i e] at hun; cases hun
    have h1 := List.all_eq_true.1 hs i (List.mem_range.2 hi)
    simp only [his, decide_false, Bool.false_or] at h1
    obtain ⟨j, hj, hj2⟩ := List.any_eq_true.1 h1
    simp only [Bool.and_eq_true, decide_eq_true_eq] at hj2
    obtain ⟨oj, hoj, e, he, hb, hon⟩ := Region.waitsFor_spec hj2.2
    have hjn : j ≤ n := by have := List.mem_range.1 hj; omega
    obtain ⟨_, ot, hot, hall⟩ := mem_ready.1 hr
    have htl : t < ops.size := (Array.getElem?_eq_some_iff.1 hot).1
    by_cases htn : t = n
    · subst htn
      by_cases hjt : j = t
      · subst hjt
        obtain rfl : oj = ot := Option.some.inj (hoj.symm.trans hot)
        have h2 := hall e he hb
        rw [hon, getD_both hun] at h2
        cases h2
      · cases hl : listed.getD j false with
        | true =>
          have h2 := h.inv.closed j oj hoj hl e he hb
          rw [hon, getD_both hun] at h2
          cases h2
        | false => exact ih (t - j) (by omega) j rfl (by omega) (getD_in (by rw [h.inv.size]; omega) hl) t (Nat.le_refl _) hr
    · have h3 := List.all_eq_true.1 hc t (List.mem_range.2 htl)
      simp only [Bool.or_eq_true, decide_eq_true_eq] at h3
      rcases h3 with h3 | h3
      · omega
      · obtain ⟨o', ho', e', he', hb', hon'⟩ := Region.waitsFor_spec h3
        obtain rfl : o' = ot := Option.some.inj (ho'.symm.trans hot)
        have h2 := hall e' he' hb'
        rw [hon', getD_both (h.inv.tail (t - 1) (by omega) (by omega))] at h2
        cases h2

/-- f operations of the head come up, whichever may, each quiet in C; then L. -/
def Hd (P : Program) (md : Region.Mode) (ops : Array Oper) (C : World → Prop) (n : Nat) (L : Array Bool → Act → Prop) : Nat → Array Bool → Act → Prop
  | 0, listed, a => L listed a
  | f + 1, listed, a => Region.ready md ops listed ≠ [] ∧ ∀ i ∈ Region.ready md ops listed, i < n ∧ qOp P ops C i (Hd P md ops C n L f (listed.setIfInBounds i true)) a

theorem Hd.any {n g : Nat} {L : Array Bool → Act → Prop} {Q : Exit → Act → World → Prop} (hL : ∀ listed a w, C w → L listed a → wpAny P md ops Q g listed a w) :
    ∀ (f : Nat) (listed : Array Bool) (a : Act) (w : World), C w → Hd P md ops C n L f listed a → wpAny P md ops Q (f + g) listed a w := by
  intro f
  induction f with
  | zero => intro listed a w hw h; rw [Nat.zero_add]; exact hL _ _ _ hw h
  | succ f ih =>
    intro listed a w hw h
    rw [show f + 1 + g = (f + g) + 1 by omega]
    exact ⟨fun h0 => absurd h0 h.1, fun i hi => wpOp_of_qOp hw (fun a' w' hw' h' => ih _ _ _ hw' h') (h.2 i hi).2⟩

/-- An operation of the head that is free may be taken first. -/
theorem Hd.first {s n i : Nat} {oi : Oper} {v : Value} {L : Array Bool → Act → Prop} (hi : ops[i]? = some oi) (hsel : Region.noSelect ops = true)
    (hs : sunkB md ops s n = true) (hc : Region.chainB md ops n = true) (hn : n < ops.size) (hin : i < n)
    (hdone : ∀ listed a, L listed a → ∀ j ∈ Region.ready md ops listed, n ≤ j) :
    ∀ (f : Nat) (listed : Array Bool) (a : Act), On md ops s n listed →
      (∀ j oj, ops[j]? = some oj → j ≠ i → listed.getD j true = false → (∀ e ∈ oj.after, Region.binds md e = true → e.on ≠ i) → oi.apart ops oj = true) →
      i ∈ Region.ready md ops listed → YieldsIn P ops C oi v a →
      Hd P md ops C n L f (listed.setIfInBounds i true) (a.put oi.dst v) → Hd P md ops C n L (f + 1) listed a := by
  have sel := Region.noSelect_spec hsel
  have low : ∀ (listed : Array Bool), On md ops s n listed → i ∈ Region.ready md ops listed → ∀ j ∈ Region.ready md ops listed, j < n := fun listed inv hr j hj => by
    by_cases hjn : j < n
    · exact hjn
    · exact absurd hj (inv.waits hs hc hn _ i rfl hin (mem_ready.1 hr).1 j (by omega))
  intro f
  induction f with
  | zero =>
    intro listed a inv _ hr hy H
    refine ⟨List.ne_nil_of_mem hr, fun j hj => ⟨low listed inv hr j hj, ?_⟩⟩
    by_cases hji : j = i
    · subst hji; exact hy.qOp hi H
    · exact absurd (hdone _ _ H j (ready_mono hj hji)) (by have := low listed inv hr j hj; omega)
  | succ f ih =>
    intro listed a inv hfree hr hy H
    refine ⟨List.ne_nil_of_mem hr, fun j hj => ⟨low listed inv hr j hj, ?_⟩⟩
    by_cases hji : j = i
    · subst hji; exact hy.qOp hi H
    · obtain ⟨hjun, oj, hoj, hall⟩ := mem_ready.1 hj
      have hno : ∀ e ∈ oj.after, Region.binds md e = true → e.on ≠ i := fun e he hb heq => by
        have h1 := hall e he hb
        rw [heq, getD_both (mem_ready.1 hr).1] at h1
        cases h1
      refine qOp_mono (fun a' h3 => ih (listed.setIfInBounds j true) a' (inv.set hj (low listed inv hr j hj)) (fun k ok hk hki hun hn' => ?_) (ready_mono hr (Ne.symm hji)) h3.1 ?_)
        (qOp_put hoj (hfree j oj hoj hji hjun hno) (fun cs b => sel i oi cs b hi) (fun cs b => sel j oj cs b hoj) hy (H.2 j (ready_mono hj hji)).2)
      · refine hfree k ok hk hki ?_ hn'
        by_cases hjk : j = k
        · subst hjk; exact hjun
        · rwa [getD_set_ne true hjk] at hun
      · rw [Array.setIfInBounds_comm _ _ hji]; exact h3.2

theorem Hd.lex {s n g : Nat} {Lq : Act → Prop} (hsel : Region.noSelect ops = true) (hs : sunkB md ops s n = true) (hc : Region.chainB md ops n = true) (hn : n < ops.size) :
    ∀ (l : List Oper) (k : Nat) (listed : Array Bool) (a : Act), (∀ j, j < l.length → l[j]? = ops[k + j]?) → k + l.length = n → On md ops s n listed →
    Region.lexHead md ops g l.length k listed = true → wpQuiet P ops C Lq l a →
    Hd P md ops C n (fun listed' a' => Region.seqB md ops g n listed' = true ∧ Lq a') l.length listed a := by
  intro l
  induction l with
  | nil =>
    intro k listed a _ hk _ hB h
    obtain rfl : k = n := by simpa using hk
    exact ⟨by simpa [Region.lexHead] using hB, h⟩
  | cons o l ih =>
    intro k listed a hl hk inv hB h
    have h0 : ops[k]? = some o := by simpa using (hl 0 (by simp)).symm
    simp only [List.length_cons, Region.lexHead, Bool.and_eq_true] at hB
    simp only [List.length_cons] at hk
    obtain ⟨⟨hr, hf⟩, hB'⟩ := hB
    have hr' : k ∈ Region.ready md ops listed := by simpa using hr
    have hq : qOp P ops C k (wpQuiet P ops C Lq l) a := by unfold qOp; simp only [h0]; exact h
    obtain ⟨v, hy, hK⟩ := yieldsIn_of_qOp h0 hq
    exact Hd.first h0 hsel hs hc hn (by omega) (fun _ _ hL => seqB_ready hL.1) l.length listed a inv (Region.free_spec h0 hf) hr' hy
      (ih (k + 1) _ _ (fun j hj => by have := hl (j + 1) (by simp; omega); simpa [Nat.add_assoc, Nat.add_comm 1 j] using this) (by omega) (inv.set hr' (by omega)) hB' hK)

/-- the first ones may be moves of a slot, which nobody has to wait for -/
def moveB (o : Oper) : Bool := o.guard.isNone && o.dst.isSome && match o.op with | .move _ => true | _ => false
theorem move_yields {o : Oper} {a : Act} {K : Act → Prop} (hm : moveB o = true) {w0 : World} (hC : C w0) (h : if Region.wanted o (yielded ops a.tmps) then o.quiet P a C K else K (a.put o.dst undef)) :
    ∃ v, Yields P ops o v a ∧ K (a.put o.dst v) := by
  unfold moveB at hm
  simp only [Bool.and_eq_true, Option.isNone_iff_eq_none] at hm
  obtain ⟨⟨hg, _⟩, ho⟩ := hm
  have hw : Region.wanted o (yielded ops a.tmps) = true := by unfold Region.wanted; rw [hg]
  rw [if_pos hw] at h
  obtain ⟨v, h1, h2⟩ := h
  have hx := h1 w0 hC
  split at ho
  · rename_i x hop
    have hrun : ∀ w, (execOp a.eval o).run P w = .ok (.value (a.eval x)) w := fun w => by unfold execOp; rw [hop]; rfl
    unfold Oper.quietAt at hx
    rw [hrun] at hx
    exact ⟨v, .inl ⟨hw, fun w => by rw [hrun, hx.2]⟩, h2⟩
  · cases ho

/-- the moves, one by one, then the rest of the head, then the tail -/
theorem moves_then {s n : Nat} {Q : Exit → Act → World → Prop} {l : List Oper} (hsel : Region.noSelect l.toArray = true) (hs : sunkB md l.toArray s n = true) (hc : Region.chainB md l.toArray n = true) (hn : n < l.length)
    (hQ : ∀ c a d v w, Q (.panic c) (a.put (some d) v) w → Q (.panic c) a w) {w : World} (hw : C w) :
    ∀ (m k : Nat) (listed : Array Bool) (a : Act), k + m = s → s ≤ n → HeadInv md l.toArray n listed → (∀ i, i < k → listed.getD i true = true) →
      ((l.take s).drop k).all moveB = true → Region.lexHead md l.toArray (l.length - n) (n - k) k listed = true →
      wpQuiet P l.toArray C (fun a' => ∀ w', C w' → wpList P l.toArray Q (l.drop n) a' w') ((l.take n).drop k) a →
      wpAny P md l.toArray Q (l.length - k) listed a w := by
  intro m
  induction m with
  | zero =>
    intro k listed a hk hsn inv low _ hB h
    obtain rfl : k = s := by omega
    have hlen : ((l.take n).drop k).length = n - k := by simp; omega
    have hdl : (l.drop n).length = l.length - n := by simp
    have H := Hd.lex (g := l.length - n) hsel hs hc (by simpa using hn) ((l.take n).drop k) k listed a (fun j hj => by
      rw [hlen] at hj
      simp [List.getElem?_drop, List.getElem?_take]; omega) (by rw [hlen]; omega) ⟨inv, low⟩ (by rw [hlen]; exact hB) h
    have := Hd.any (Q := Q) (g := l.length - n) (fun listed a' w' hw' hL => by
      have := wpAny_of_seq (md := md) (Q' := Q) (l.drop n) n listed a' w' (fun j => by simp [List.getElem?_drop]) (by rw [hdl]; exact hL.1) (hL.2 w' hw')
      rwa [hdl] at this) _ _ _ _ hw H
    rw [hlen, show n - k + (l.length - n) = l.length - k by omega] at this
    exact this
  | succ m ih =>
    intro k listed a hk hsn inv low hmv hB h
    have hkl : k < l.length := by omega
    have h0 : l.toArray[k]? = some l[k] := by simp [hkl]
    have hd1 : (l.take n).drop k = l[k] :: (l.take n).drop (k + 1) := by
      rw [List.drop_eq_getElem_cons (by simp; omega)]; simp
    have hd2 : (l.take s).drop k = l[k] :: (l.take s).drop (k + 1) := by
      rw [List.drop_eq_getElem_cons (by simp; omega)]; simp
    rw [hd1] at h
    rw [hd2, List.all_cons, Bool.and_eq_true] at hmv
    rw [show n - k = (n - (k + 1)) + 1 by omega] at hB
    simp only [Region.lexHead, Bool.and_eq_true] at hB
    obtain ⟨⟨hr, hf⟩, hB'⟩ := hB
    have hr' : k ∈ Region.ready md l.toArray listed := by simpa using hr
    obtain ⟨v, hy, hK⟩ := move_yields (P := P) (ops := l.toArray) (C := C) hmv.1 hw (h : if _ then _ else _)
    rw [show l.length - k = (l.length - (k + 1)) + 1 by omega]
    have hds : ∃ d, l[k].dst = some d := by
      have := hmv.1
      unfold moveB at this
      simp only [Bool.and_eq_true] at this
      exact Option.isSome_iff_exists.1 this.1.2
    obtain ⟨d, hd⟩ := hds
    refine wpAny_take h0 hsel hf hr (fun c a w => by rw [hd]; exact hQ c a d v w) hy (ih (k + 1) _ _ (by omega) hsn (inv.set hr' (by omega)) (fun i hi => ?_) hmv.2 hB' hK)
    by_cases hik : k = i
    · subst hik; rw [Array.getD_eq_getD_getElem?, Array.getElem?_setIfInBounds, if_pos rfl]; split <;> rfl
    · rw [getD_set_ne true hik]; exact low i (by omega)
end

def tailB (l : List Oper) (s n : Nat) : Bool :=
  Region.noSelect l.toArray && decide (n < l.length) && decide (s ≤ n) && sunkB .any l.toArray s n && Region.chainB .any l.toArray n && (l.take s).all moveB && Region.lexHead .any l.toArray (l.length - n) n 0 (Array.replicate l.length false)

/-- The first n operations are quiet (they read, or draw; the first s of them are moves); the others come up one by one behind them, in every world that differs from the first one by draws. -/
theorem quiet_tail' {P : Program} {id : Nat} {Q : Exit → Act → World → Prop} {a : Act} {w : World} {l : List Oper} (s n : Nat) (hm : P.follows .mixedOrders = true) (hB : tailB l s n = true)
    (hQ : ∀ c a d v w, Q (.panic c) (a.put (some d) v) w → Q (.panic c) a w)
    (h : wpQuiet P l.toArray (fun w' => ∃ m, w' = w.drewN m) (fun a' => ∀ w', (∃ m, w' = w.drewN m) → wpList P l.toArray Q (l.drop n) a' w') (l.take n) a) : (Code.region id l.toArray true).wp P Q a w := by
  simp only [tailB, Bool.and_eq_true, decide_eq_true_eq] at hB
  obtain ⟨⟨⟨⟨⟨⟨hsel, hn⟩, hsn⟩, hs⟩, hc⟩, hmv⟩, hlex⟩ := hB
  refine wp_region_any hm ?_
  have inv0 : HeadInv .any l.toArray n (Array.replicate l.length false) :=
    ⟨by simp, fun j oj _ hl => (by rw [getD_replicate_false] at hl; cases hl), fun t _ ht => getD_in (by simpa using ht) (getD_replicate_false _ _)⟩
  have := moves_then (P := P) (C := fun w' => ∃ m, w' = w.drewN m) (Q := Q) hsel hs hc hn hQ (w := { w with drawn := w.drawn + 1 }) ⟨1, rfl⟩ s 0 (Array.replicate l.length false) a (by omega) hsn inv0 (fun i hi => by omega) (by simpa using hmv) (by simpa using hlex) (by simpa using h)
  simpa using this
theorem quiet_tail {P : Program} {id : Nat} {Q : Exit → Act → World → Prop} {a : Act} {w : World} {l : List Oper} (n : Nat) (hm : P.follows .mixedOrders = true) (hB : tailB l 0 n = true)
    (hQ : ∀ c a d v w, Q (.panic c) (a.put (some d) v) w → Q (.panic c) a w)
    (h : wpQuiet P l.toArray (fun w' => ∃ m, w' = w.drewN m) (fun a' => ∀ w', (∃ m, w' = w.drewN m) → wpList P l.toArray Q (l.drop n) a' w') (l.take n) a) : (Code.region id l.toArray true).wp P Q a w :=
  quiet_tail' 0 n hm hB hQ h

/- draws stand outermost -/
@[go_sem] theorem setCell_drewN (w : World) (n : Nat) (a : Addr) (v : Value) : (w.drewN n).setCell a v = (w.setCell a v).drewN n := rfl
@[go_sem] theorem alloc_drewN (w : World) (n : Nat) (o : Obj) : (w.drewN n).alloc o = (w.alloc o).drewN n := rfl
attribute [go_sem] I_xor ba_set
theorem drew_eq (w : World) : w.drew = w.drewN 1 := rfl
end Go.Proofs.Ytokhldihfbaeoaa.Oct
