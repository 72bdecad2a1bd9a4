/- A region that draws its order, whose operations that change the world (or whose value hangs on the world) come up one behind the other: one walk, in an order of our own choice, serves every order. The others only read: each yields one value in every world of a class, and may float past those that change the world. Of whatever program. -/
import Derived.Test.YtokhldihfbaeoaaSeen
import Derived.Test.YtokhldihfbaeoaaInv
namespace Go.Proofs.Ytokhldihfbaeoaa.Oct
open Go.RowKit

/-- an operation that enters no function -/
def plainB (o : Oper) : Bool := match o.op with
  | .move _ | .assign _ | .pick .. | .load .. | .indexAddr .. | .slice .. | .sliceToArrayPointer .. | .binOp .. | .unOp .. | .convert .. | .index .. | .fieldAddr .. | .field .. | .build .. | .extract .. | .makeInterface .. | .alloc _ | .box .. | .buildSlice .. | .makeSlice .. | .lookup .. => true
  | .call c => match c.callee with
    | .builtin .len | .builtin .cap | .builtin .min | .builtin .max => true
    | _ => false
  | _ => false
theorem plain_no_enter {P : Program} {o : Oper} (h : plainB o = true) (ρ : Operand → Value) (w w' : World) (f : FuncId) (xs : Array Value) : (execOp ρ o).run P w ≠ .ok (.enter f xs) w' := by
  have key : ∀ s : Sem Value, (do pure (Next.value (← s)) : Sem Next).run P w ≠ .ok (.enter f xs) w' := fun s => by
    simp only [Sem.run_bind]
    cases s.run P w with
    | ok v w1 => simp [Result.andThen]
    | halt x w1 => simp [Result.andThen]
  unfold plainB at h
  unfold execOp
  split at h <;> rename_i e <;> simp only [e] <;> first
    | exact key _
    | (simp; done)
    | skip
  · rename_i c a b
    have := key (do if ← asBool (ρ c) then pure (ρ a) else pure (ρ b))
    intro h2
    apply this
    rw [← h2]
    simp only [Sem.run_bind, Sem.run_pure]
    cases (asBool (ρ c)).run P w with
    | ok v w1 => cases v <;> simp [Result.andThen]
    | halt x w1 => simp [Result.andThen]
  · split at h
    all_goals first
      | (rename_i hc; simp only [resolve, hc, Sem.run_bind, Sem.run_pure, Result.andThen_ok, invoke, builtin]; exact fun h2 => key _ (by rw [Sem.run_bind]; exact h2))
      | (cases h; done)
  · cases h

section
variable {P : Program} {ops : Array Oper} {Q : Exit → Act → World → Prop}

/-- what is listed has all that it waits for -/
structure DC (ops : Array Oper) (listed : Array Bool) : Prop where
  size : listed.size = ops.size
  closed : ∀ j oj, ops[j]? = some oj → listed.getD j false = true → ∀ e ∈ oj.after, Region.binds .any e = true → listed.getD e.on false = true
theorem DC.set {i : Nat} {listed : Array Bool} (h : DC ops listed) (hi : i ∈ Region.ready .any ops listed) : DC ops (listed.setIfInBounds i true) := by
  obtain ⟨_, oi, hoi, hall⟩ := mem_ready.1 hi
  refine ⟨by simp [h.size], fun j oj hj hl e he hb => ?_⟩
  by_cases hij : i = j
  · subst hij
    obtain rfl : oj = oi := Option.some.inj (hj.symm.trans hoi)
    exact getD_set_true (hall e he hb)
  · rw [getD_set_ne false hij] at hl
    exact getD_set_true (h.closed j oj hj hl e he hb)
theorem DC.none : DC ops (Array.replicate ops.size false) := ⟨by simp, fun j oj _ hl => by rw [getD_replicate_false] at hl; cases hl⟩

/-- each of the list is waited for by a later one, or by e -/
def sunkTo (ops : Array Oper) : List Nat → Nat → Bool
  | [], _ => true
  | i :: r, e => (Region.waitsFor .any ops e i || r.any fun j => Region.waitsFor .any ops j i) && sunkTo ops r e
theorem sunkTo_spec {e : Nat} : ∀ (p : List Nat), sunkTo ops p e = true → ∀ i ∈ p, ∀ listed, DC ops listed → listed.getD i false = false → e ∉ Region.ready .any ops listed := by
  intro p
  induction p with
  | nil => intro _ i hi; cases hi
  | cons k r ih =>
    intro h i hi listed hd hun hr
    simp only [sunkTo, Bool.and_eq_true, Bool.or_eq_true] at h
    rcases List.mem_cons.1 hi with rfl | hi
    · rcases h.1 with h1 | h1
      · obtain ⟨oj, hoj, x, hx, hb, hon⟩ := Region.waitsFor_spec h1
        obtain ⟨_, o', ho', hall⟩ := mem_ready.1 hr
        obtain rfl : oj = o' := Option.some.inj (hoj.symm.trans ho')
        have := hall x hx hb
        rw [hon, hun] at this
        cases this
      · obtain ⟨j, hj, hw⟩ := List.any_eq_true.1 h1
        obtain ⟨oj, hoj, x, hx, hb, hon⟩ := Region.waitsFor_spec hw
        cases hl : listed.getD j false with
        | true =>
          have := hd.closed j oj hoj hl x hx hb
          rw [hon, hun] at this
          cases this
        | false => exact ih h.2 j hj listed hd hl hr
    · exact ih h.2 i hi listed hd hun hr
theorem sunkTo_app {e : Nat} : ∀ (p q : List Nat), sunkTo ops (p ++ q) e = true → sunkTo ops q e = true := by
  intro p
  induction p with
  | nil => intro q h; exact h
  | cons k r ih =>
    intro q h
    simp only [List.cons_append, sunkTo, Bool.and_eq_true] at h
    exact ih q h.2

/-- whatever order is picked from here on: the worlds stay in the class, till an operation comes up behind which nothing of the present is left over -/
def TT (P : Program) (ops : Array Oper) (Q : Exit → Act → World → Prop) (cl : Nat → Bool) (C : World → Prop) : Nat → Array Bool → Act → World → Prop
  | 0, listed, a, w => Region.ready .any ops listed = [] ∧ Q .normal a w
  | f + 1, listed, a, w => (Region.ready .any ops listed = [] → Q .normal a w) ∧ ∀ j ∈ Region.ready .any ops listed,
      wpOp P ops Q j (fun a' w' => if cl j = true then wpAny P .any ops Q f (listed.setIfInBounds j true) a' w' else C w' ∧ TT P ops Q cl C f (listed.setIfInBounds j true) a' w') a w
theorem TT.any {cl : Nat → Bool} {C : World → Prop} : ∀ (f : Nat) (listed : Array Bool) (a : Act) (w : World), TT P ops Q cl C f listed a w → wpAny P .any ops Q f listed a w := by
  intro f
  induction f with
  | zero => intro _ _ _ h; exact h
  | succ f ih =>
    intro listed a w h
    refine ⟨h.1, fun j hj => wpOp_mono (fun a' w' h' => ?_) (h.2 j hj)⟩
    split at h'
    · exact h'
    · exact ih _ _ _ h'.2
theorem TT.mono {cl : Nat → Bool} {C C' : World → Prop} (hC : ∀ w, C' w → C w) : ∀ (f : Nat) (listed : Array Bool) (a : Act) (w : World), TT P ops Q cl C' f listed a w → TT P ops Q cl C f listed a w := by
  intro f
  induction f with
  | zero => intro _ _ _ h; exact h
  | succ f ih =>
    intro listed a w h
    refine ⟨h.1, fun j hj => wpOp_mono (fun a' w' h' => ?_) (h.2 j hj)⟩
    split at h'
    · rename_i hc; rw [if_pos hc]; exact h'
    · rename_i hc; rw [if_neg hc]; exact ⟨hC _ h'.1, ih _ _ _ h'.2⟩

/-- in every world of the class the operation yields v and leaves that very world -/
def YV (P : Program) (ops : Array Oper) (C : World → Prop) (o : Oper) (v : Value) (a : Act) : Prop :=
  (Region.wanted o (yielded ops a.tmps) = true ∧ ∀ w, C w → (execOp a.eval o).run P w = .ok (.value v) w ∨ ((execOp a.eval o).run P w = .ok .skip w ∧ v = undef)) ∨
  (Region.wanted o (yielded ops a.tmps) = false ∧ v = undef)
theorem YV.of_same {C : World → Prop} {o : Oper} {v : Value} {a a' : Act} (hy : YV P ops C o v a) (he : execOp a'.eval o = execOp a.eval o) (hw : Region.wanted o (yielded ops a'.tmps) = Region.wanted o (yielded ops a.tmps)) : YV P ops C o v a' := by
  unfold YV at *
  rw [he, hw]
  exact hy
theorem YV.wpOp {C : World → Prop} {i : Nat} {o : Oper} {v : Value} {a : Act} {w : World} (hi : ops[i]? = some o) (hy : YV P ops C o v a) (hw : C w) {K : Act → World → Prop} (h : K (a.put o.dst v) w) : wpOp P ops Q i K a w := by
  unfold Go.wpOp
  simp only [hi]
  rcases hy with ⟨hx, hv⟩ | ⟨hx, rfl⟩
  · simp only [hx, if_true]
    refine .inl ?_
    unfold Oper.wp
    rcases hv w hw with e | ⟨e, rfl⟩
    · rw [e]; exact h
    · rw [e]; exact h
  · simp only [hx, Bool.false_eq_true, if_false]; exact h
theorem wpOp_putV {C : World → Prop} {j : Nat} {oi oj : Oper} {v : Value} (hj : ops[j]? = some oj) (hap : oi.apart ops oj = true) (hsi : ∀ cs b, oi.op ≠ .select cs b) (hsj : ∀ cs b, oj.op ≠ .select cs b)
    (hQ : ∀ c a d v w, Q (.panic c) (a.put (some d) v) w → Q (.panic c) a w) {K : Act → World → Prop} {a : Act} {w : World}
    (hy : YV P ops C oi v a) (h : wpOp P ops Q j K (a.put oi.dst v) w) : wpOp P ops Q j (fun a' w' => YV P ops C oi v a' ∧ K (a'.put oi.dst v) w') a w := by
  obtain ⟨h1, h2, h3⟩ := Oper.apart_spec hap
  have stay : ∀ {a' : Act}, YV P ops C oi v a' → ∀ u, YV P ops C oi v (a'.put oj.dst u) := fun hy u => hy.of_same (execOp_put oi hsi _ oj.dst u h3) (wanted_put oi _ oj.dst u h3)
  have hQ' : ∀ c w, Q (.panic c) (a.put oi.dst v) w → Q (.panic c) a w := fun c w h => by
    cases hd : oi.dst with
    | none => rw [hd] at h; exact h
    | some d => rw [hd] at h; exact hQ _ _ _ _ _ h
  have turn : ∀ {a' : Act} (u : Value) {w' : World}, K ((a'.put oi.dst v).put oj.dst u) w' → K ((a'.put oj.dst u).put oi.dst v) w' := fun u _ h => by rw [← Act.put_comm _ v u h2]; exact h
  unfold wpOp at h ⊢
  simp only [hj] at h ⊢
  rw [wanted_put oj a oi.dst v h1] at h
  by_cases hw : Region.wanted oj (yielded ops a.tmps) = true
  · rw [if_pos hw] at h ⊢
    rcases h with h | ⟨hasks, hlets⟩
    · refine .inl ?_
      unfold Oper.wp at h ⊢
      rw [execOp_put oj hsj a oi.dst v h1] at h
      cases hr : (execOp a.eval oj).run P w with
      | halt x w' =>
        rw [hr] at h
        cases x <;> simp only [Oper.upon] at h ⊢
        exact hQ' _ _ h
      | ok n w' =>
        rw [hr] at h
        cases n <;> simp only [Oper.upon] at h ⊢
        case value u => exact ⟨stay hy u, turn u h⟩
        case skip => exact ⟨stay hy _, turn _ h⟩
        case defer d => exact ⟨stay (hy.of_same rfl rfl : YV P ops C oi v { a with defers := d :: a.defers }) _, by rw [← Act.put_comm _ v undef h2, ← Act.put_defers]; exact h⟩
        case row r xs => exact Rows.mono h fun u _ he => ⟨stay hy u, turn u he⟩
        case enter f xs =>
          refine Calls.mono h fun e w'' he => ?_
          cases e with
          | returned u => exact ⟨stay hy u, turn u he⟩
          | panicked c => exact hQ' _ _ he
          | outgrown => exact he
    · exact .inr ⟨by unfold Oper.asks at hasks ⊢; rwa [execOp_put oj hsj a oi.dst v h1] at hasks, hlets⟩
  · rw [if_neg hw] at h ⊢
    exact ⟨stay hy _, turn _ h⟩

/-- one that only reads and may come up now may be taken first -/
theorem TT.first {cl : Nat → Bool} {C : World → Prop} {i : Nat} {oi : Oper} {v : Value} (hi : ops[i]? = some oi) (hsel : ∀ (j : Nat) (o : Oper) cs b, ops[j]? = some o → o.op ≠ .select cs b)
    (hQ : ∀ c a d v w, Q (.panic c) (a.put (some d) v) w → Q (.panic c) a w) (hcl : ∀ listed, DC ops listed → listed.getD i false = false → ∀ j ∈ Region.ready .any ops listed, cl j = false) :
    ∀ (f : Nat) (listed : Array Bool) (a : Act) (w : World), DC ops listed → C w →
      (∀ j oj, ops[j]? = some oj → j ≠ i → listed.getD j true = false → (∀ e ∈ oj.after, Region.binds .any e = true → e.on ≠ i) → oi.apart ops oj = true) →
      i ∈ Region.ready .any ops listed → YV P ops C oi v a →
      TT P ops Q cl C f (listed.setIfInBounds i true) (a.put oi.dst v) w → TT P ops Q cl C (f + 1) listed a w := by
  intro f
  induction f with
  | zero =>
    intro listed a w hd hw _ hr hy H
    have hc := hcl listed hd (getD_both (mem_ready.1 hr).1)
    refine ⟨fun h => (by rw [h] at hr; cases hr), fun j hj => ?_⟩
    by_cases hji : j = i
    · subst hji; exact hy.wpOp hi hw (by rw [if_neg (by rw [hc j hj]; exact Bool.false_ne_true)]; exact ⟨hw, H⟩)
    · have := ready_mono hj hji
      rw [H.1] at this
      cases this
  | succ f ih =>
    intro listed a w hd hw hfree hr hy H
    have hc := hcl listed hd (getD_both (mem_ready.1 hr).1)
    refine ⟨fun h => (by rw [h] at hr; cases hr), fun j hj => ?_⟩
    by_cases hji : j = i
    · subst hji; exact hy.wpOp hi hw (by rw [if_neg (by rw [hc j hj]; exact Bool.false_ne_true)]; exact ⟨hw, H⟩)
    · have hcj : ¬ cl j = true := by rw [hc j hj]; exact Bool.false_ne_true
      have h1 := H.2 j (ready_mono hj hji)
      simp only [if_neg hcj] at h1 ⊢
      obtain ⟨hjun, oj, hoj, hall⟩ := mem_ready.1 hj
      have hno : ∀ e ∈ oj.after, Region.binds .any e = true → e.on ≠ i := fun e he hb heq => by
        have h1 := hall e he hb
        rw [heq, getD_both (mem_ready.1 hr).1] at h1
        cases h1
      refine wpOp_mono (fun a' w' h3 => ⟨h3.2.1, ih (listed.setIfInBounds j true) a' w' (hd.set hj) h3.2.1 (fun k ok hk hki hun hn' => ?_) (ready_mono hr (Ne.symm hji)) h3.1 ?_⟩)
        (wpOp_putV hoj (hfree j oj hoj hji hjun hno) (fun cs b => hsel i oi cs b hi) (fun cs b => hsel j oj cs b hoj) hQ hy h1)
      · refine hfree k ok hk hki ?_ hn'
        by_cases hjk : j = k
        · subst hjk; exact hjun
        · rwa [getD_set_ne true hjk] at hun
      · rw [Array.setIfInBounds_comm _ _ hji]; exact h3.2.2

/-- the operations of these numbers -/
def pk (l : List Oper) : List Nat → List Oper
  | [] => []
  | i :: r => match l[i]? with
    | some o => o :: pk l r
    | none => pk l r
def qsB (ops : Array Oper) : List Nat → Array Bool → Bool
  | [], _ => true
  | i :: r, listed => (Region.ready .any ops listed).contains i && Region.free .any ops listed i && ((ops[i]?).map plainB).getD false && qsB ops r (listed.setIfInBounds i true)
def setAll (listed : Array Bool) : List Nat → Array Bool
  | [] => listed
  | i :: r => setAll (listed.setIfInBounds i true) r

theorem TT.quiets {cl : Nat → Bool} {C : World → Prop} {l : List Oper} (hsel : Region.noSelect l.toArray = true)
    (hQ : ∀ c a d v w, Q (.panic c) (a.put (some d) v) w → Q (.panic c) a w) {K : Act → Prop} {f : Nat} {w : World} (hw : C w) :
    ∀ (qs : List Nat) (listed : Array Bool) (a : Act), qsB l.toArray qs listed = true → DC l.toArray listed →
      (∀ i ∈ qs, ∀ listed, DC l.toArray listed → listed.getD i false = false → ∀ j ∈ Region.ready .any l.toArray listed, cl j = false) →
      wpQuiet P l.toArray C K (pk l qs) a → (∀ a', DC l.toArray (setAll listed qs) → K a' → TT P l.toArray Q cl C f (setAll listed qs) a' w) →
      TT P l.toArray Q cl C (qs.length + f) listed a w := by
  intro qs
  induction qs with
  | nil => intro listed a _ hd _ h hK; rw [List.length_nil, Nat.zero_add]; exact hK a hd h
  | cons i r ih =>
    intro listed a hB hd hcl h hK
    simp only [qsB, Bool.and_eq_true] at hB
    obtain ⟨⟨⟨hr, hf⟩, hp⟩, hB'⟩ := hB
    have hr' : i ∈ Region.ready .any l.toArray listed := by simpa using hr
    obtain ⟨_, o, ho, _⟩ := mem_ready.1 hr'
    have ho' : l[i]? = some o := by simpa using ho
    rw [ho] at hp
    have hp : plainB o = true := hp
    simp only [pk, ho'] at h
    have hyv : ∃ v, YV P l.toArray C o v a ∧ wpQuiet P l.toArray C K (pk l r) (a.put o.dst v) := by
      unfold wpQuiet at h
      by_cases hwt : Region.wanted o (yielded l.toArray a.tmps) = true
      · rw [if_pos hwt] at h
        obtain ⟨v, h1, h2⟩ := h
        refine ⟨v, .inl ⟨hwt, fun x hx => ?_⟩, h2⟩
        have h3 := h1 x hx
        unfold Oper.quietAt at h3
        cases hres : (execOp a.eval o).run P x with
        | halt y x' => rw [hres] at h3; simp only [Oper.quietUpon] at h3
        | ok n x' =>
          rw [hres] at h3
          cases n <;> simp only [Oper.quietUpon] at h3
          case value u => obtain ⟨rfl, rfl⟩ := h3; exact .inl rfl
          case skip => obtain ⟨rfl, rfl⟩ := h3; exact .inr ⟨rfl, rfl⟩
          case enter g xs => exact absurd hres (plain_no_enter hp _ _ _ _ _)
      · rw [if_neg hwt] at h
        exact ⟨undef, .inr ⟨by simpa using hwt, rfl⟩, h⟩
    obtain ⟨v, hy, hrest⟩ := hyv
    rw [List.length_cons, show r.length + 1 + f = (r.length + f) + 1 by omega]
    exact TT.first ho (Region.noSelect_spec hsel) hQ (hcl i (by simp)) _ listed a w hd hw (Region.free_spec ho hf) hr' hy
      (ih _ _ hB' (hd.set hr') (fun j hj => hcl j (by simp [hj])) hrest hK)

/-- a part of the walk: those that only read, then one that changes the world; and whether nothing that stands ahead may float past that one -/
abbrev Seg := List Nat × Nat × Bool
def upTo : List Seg → Option (List Nat × Nat)
  | [] => none
  | (qs, e, c) :: r => if c then some (qs, e) else (upTo r).map fun x => (qs ++ e :: x.1, x.2)
def clOf (s : List Seg) (j : Nat) : Bool := match upTo s with | some x => x.2 == j | none => false
def clB (ops : Array Oper) (s : List Seg) : Bool := match upTo s with | some x => sunkTo ops x.1 x.2 | none => true
def flB (ops : Array Oper) (last : List Nat) : List Seg → Array Bool → Bool
  | [], listed => qsB ops last listed && (Region.ready .any ops (setAll listed last)).isEmpty
  | (qs, e, c) :: r, listed => clB ops ((qs, e, c) :: r) && qsB ops qs listed && Region.ready .any ops (setAll listed qs) == [e] && flB ops last r ((setAll listed qs).setIfInBounds e true)
def lenS (last : List Nat) : List Seg → Nat
  | [] => last.length
  | (qs, _, _) :: r => qs.length + (lenS last r + 1)
def flowB (l : List Oper) (s : List Seg) (last : List Nat) : Bool := Region.noSelect l.toArray && lenS last s == l.length && flB l.toArray last s (Array.replicate l.length false)

/-- the walk; the class at each part is the caller's choice -/
def wpFl (P : Program) (l : List Oper) (Q : Exit → Act → World → Prop) (last : List Nat) : List Seg → (World → Prop) → Act → World → Prop
  | [], C, a, w => wpQuiet P l.toArray C (fun a' => Q .normal a' w) (pk l last) a
  | (qs, e, c) :: r, C, a, w => wpQuiet P l.toArray C (fun a' => wpList P l.toArray (atEnd (fun a'' w'' => ∃ C' : World → Prop, C' w'' ∧ (c = true ∨ C w'' ∧ ∀ x, C' x → C x) ∧ wpFl P l Q last r C' a'' w'') Q) (pk l [e]) a' w) (pk l qs) a

theorem flow {l : List Oper} {last : List Nat} (hsel : Region.noSelect l.toArray = true) (hQ : ∀ c a d v w, Q (.panic c) (a.put (some d) v) w → Q (.panic c) a w) :
    ∀ (s : List Seg) (C : World → Prop) (listed : Array Bool) (a : Act) (w : World), flB l.toArray last s listed = true → DC l.toArray listed → C w → wpFl P l Q last s C a w →
      TT P l.toArray Q (clOf s) C (lenS last s) listed a w := by
  intro s
  induction s with
  | nil =>
    intro C listed a w hB hd hw h
    simp only [flB, Bool.and_eq_true] at hB
    have := TT.quiets (P := P) (Q := Q) (cl := clOf []) (f := 0) hsel hQ hw last listed a hB.1 hd (fun _ _ _ _ _ _ _ => rfl) h (fun a' _ hq => ⟨by simpa using hB.2, hq⟩)
    exact this
  | cons x r ih =>
    intro C listed a w hB hd hw h
    obtain ⟨qs, e, c⟩ := x
    simp only [flB, Bool.and_eq_true, beq_iff_eq] at hB
    obtain ⟨⟨⟨hcl, hq⟩, hre⟩, hrest⟩ := hB
    refine TT.quiets hsel hQ hw qs listed a hq hd (fun i hi listed' hd' hun j hj => ?_) h (fun a' hd' hK => ?_)
    · unfold clOf
      cases hu : upTo ((qs, e, c) :: r) with
      | none => rfl
      | some y =>
        simp only [clB, hu] at hcl
        simp only [beq_eq_false_iff_ne]
        intro hyj
        have hiy : i ∈ y.1 := by
          unfold upTo at hu
          cases c with
          | true => simp only [if_true, Option.some.injEq] at hu; rw [← hu]; exact hi
          | false =>
            simp only [Bool.false_eq_true, if_false, Option.map_eq_some_iff] at hu
            obtain ⟨z, _, rfl⟩ := hu
            simp [hi]
        exact sunkTo_spec _ hcl i hiy listed' hd' hun (hyj ▸ hj)
    · refine ⟨fun h0 => (by rw [h0] at hre; cases hre), fun j hj => ?_⟩
      have hj' := hj
      rw [hre] at hj'
      obtain rfl := List.mem_singleton.1 hj'
      obtain ⟨_, o, ho, _⟩ := mem_ready.1 hj
      have ho' : l[j]? = some o := by simpa using ho
      simp only [pk, ho'] at hK
      refine wpOp_mono (fun a'' w'' h3 => ?_) (wpOp_of_list ho hK)
      obtain ⟨C', hC', hcc, hwp⟩ := h3
      have T := ih C' _ a'' w'' hrest (hd'.set hj) hC' hwp
      cases c with
      | true =>
        rw [if_pos (by simp [clOf, upTo])]
        exact TT.any _ _ _ _ T
      | false =>
        have hu : clOf ((qs, j, false) :: r) = clOf r := by
          funext k
          unfold clOf
          simp only [upTo, Bool.false_eq_true, if_false]
          cases upTo r <;> rfl
        rcases hcc with hcc | ⟨hCw, hsub⟩
        · cases hcc
        · rw [hu]
          by_cases hk : clOf r j = true
          · rw [if_pos hk]; exact TT.any _ _ _ _ T
          · rw [if_neg hk]; exact ⟨hCw, TT.mono hsub _ _ _ _ T⟩

theorem flow_region {id : Nat} {a : Act} {w : World} {l : List Oper} (s : List Seg) (last : List Nat) (C : World → Prop) (hm : P.follows .mixedOrders = true) (hB : flowB l s last = true)
    (hQ : ∀ c a d v w, Q (.panic c) (a.put (some d) v) w → Q (.panic c) a w) (hC : C (w.drewN 1)) (h : wpFl P l Q last s C a (w.drewN 1)) : (Code.region id l.toArray true).wp P Q a w := by
  simp only [flowB, Bool.and_eq_true, beq_iff_eq] at hB
  obtain ⟨⟨hsel, hlen⟩, hf⟩ := hB
  refine wp_region_any hm ?_
  have e : (Array.replicate l.toArray.size false) = Array.replicate l.length false := by simp
  have := TT.any _ _ _ _ (flow hsel hQ s C (Array.replicate l.length false) a (w.drewN 1) hf (by rw [← e]; exact DC.none) hC h)
  rw [hlen] at this
  have e2 : (Array.replicate l.toArray.size false) = Array.replicate l.length false := by simp
  rw [e2, show l.toArray.size = l.length by simp]
  exact this

/-- the class: all that there was is as it was -/
def Aft (W : World) : World → Prop := fun w' => ∃ x : After W, w' = x.val
theorem Aft.self (W : World) : Aft W W := ⟨⟨W, Below.refl _ _⟩, rfl⟩
theorem Aft.of {W w : World} (h : Below W.heap.size W w) : Aft W w := ⟨⟨w, h⟩, rfl⟩
theorem Aft.sub {W w : World} (h : Below W.heap.size W w) : ∀ x, Aft w x → Aft W x := fun _ ⟨x, hx⟩ => ⟨⟨x.val, onto h h.size x.below⟩, hx⟩

/-- the walk at that class, at each part's own world -/
def wpFs (P : Program) (l : List Oper) (Q : Exit → Act → World → Prop) (last : List Nat) : List Seg → Act → World → Prop
  | [], a, w => wpQuiet P l.toArray (fun w' => ∃ x : After w, w' = x.val) (fun a' => Q .normal a' w) (pk l last) a
  | (qs, e, c) :: r, a, w => wpQuiet P l.toArray (fun w' => ∃ x : After w, w' = x.val) (fun a' => wpList P l.toArray (atEnd (fun a'' w'' => (c = true ∨ Below w.heap.size w w'') ∧ wpFs P l Q last r a'' w'') Q) (pk l [e]) a' w) (pk l qs) a
theorem wpQuiet_mono {C : World → Prop} {K K' : Act → Prop} (h : ∀ a, K a → K' a) : ∀ (l : List Oper) (a : Act), wpQuiet P ops C K l a → wpQuiet P ops C K' l a := by
  intro l
  induction l with
  | nil => intro a hk; exact h a hk
  | cons o r ih =>
    intro a hk
    unfold wpQuiet at hk ⊢
    split
    · rename_i hw; rw [if_pos hw] at hk; exact Oper.quiet_mono ih hk
    · rename_i hw; rw [if_neg hw] at hk; exact ih _ hk
theorem wpList_end_mono {K K' : Act → World → Prop} (h : ∀ a w, K a w → K' a w) (o : Oper) (a : Act) (w : World) (hh : wpList P ops (atEnd K Q) [o] a w) : wpList P ops (atEnd K' Q) [o] a w := by
  have key : ∀ r : Result Next, o.upon P a (wpList P ops (atEnd K Q) []) (atEnd K Q) r → o.upon P a (wpList P ops (atEnd K' Q) []) (atEnd K' Q) r := fun r hr => by
    cases r with
    | ok n w' =>
      cases n <;> simp only [Oper.upon] at hr ⊢ <;>
        first
          | exact h _ _ hr
          | exact Rows.mono hr (fun _ _ he => h _ _ he)
          | exact Calls.mono hr (fun e w'' he => by cases e with
              | returned v => exact h _ _ he
              | panicked c => exact he
              | outgrown => exact he)
    | halt x w' => cases x <;> simp only [Oper.upon] at hr ⊢ <;> exact hr
  unfold wpList at hh ⊢
  by_cases hw : Region.wanted o (yielded ops a.tmps) = true
  · rw [if_pos hw] at hh ⊢
    rcases hh with hh | ⟨h1, h2⟩
    · exact .inl (key _ hh)
    · exact .inr ⟨h1, h2⟩
  · rw [if_neg hw] at hh ⊢
    exact h _ _ hh
theorem wpFs.fl {l : List Oper} {last : List Nat} : ∀ (s : List Seg) (a : Act) (w : World), wpFs P l Q last s a w → wpFl P l Q last s (Aft w) a w := by
  intro s
  induction s with
  | nil => intro a w h; exact h
  | cons x r ih =>
    intro a w h
    obtain ⟨qs, e, c⟩ := x
    refine wpQuiet_mono (fun a' h' => ?_) _ _ h
    cases he : l[e]? with
    | none =>
      simp only [pk, he] at h' ⊢
      obtain ⟨h1, h2⟩ := h'
      exact ⟨Aft w, Aft.self w, .inr ⟨Aft.self w, fun _ hx => hx⟩, ih _ _ h2⟩
    | some o =>
      simp only [pk, he] at h' ⊢
      refine wpList_end_mono (fun a'' w'' h3 => ?_) o a' w h'
      obtain ⟨h1, h2⟩ := h3
      exact ⟨Aft w'', Aft.self w'', h1.imp id (fun hb => ⟨Aft.of hb, Aft.sub hb⟩), ih _ _ h2⟩
theorem flow_seen {id : Nat} {a : Act} {w : World} {l : List Oper} (s : List Seg) (last : List Nat) (hm : P.follows .mixedOrders = true) (hB : flowB l s last = true)
    (hQ : ∀ c a d v w, Q (.panic c) (a.put (some d) v) w → Q (.panic c) a w) (h : ∀ x : After w, wpFs P l Q last s a x.val) : (Code.region id l.toArray true).wp P Q a w :=
  flow_region s last (Aft (w.drewN 1)) hm hB hQ (Aft.self _) (wpFs.fl s a _ (h ⟨w.drewN 1, below_drewN (Below.refl _ _) 1⟩))
end
end Go.Proofs.Ytokhldihfbaeoaa.Oct
