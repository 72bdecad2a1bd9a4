/- As XFlow, with one new block that may be made at any time ('x := f(..)', x an array or a struct in memory): the walk of what stands ahead is in any world behind the present one; behind it the block is somewhere among the new ones. Of whatever program. -/
import Derived.Test.YtokhldihfbaeoaaFlow
namespace Go.Proofs.Ytokhldihfbaeoaa.Oct
open Go.RowKit
set_option linter.unusedVariables false

section
variable {P : Program} {ops : Array Oper} {Q : Exit → Act → World → Prop}

theorem wpOp_lift {j : Nat} {oi oj : Oper} {v : Value} (hj : ops[j]? = some oj) (hap : oi.apart ops oj = true) (hsj : ∀ cs b, oj.op ≠ .select cs b)
    (hQ : ∀ c a d v w, Q (.panic c) a w → Q (.panic c) (a.put (some d) v) w) {K : Act → World → Prop} {a : Act} {w : World}
    (h : wpOp P ops Q j K a w) : wpOp P ops Q j (fun a' w' => ∃ b, a' = b.put oi.dst v ∧ K b w') (a.put oi.dst v) w := by
  obtain ⟨h1, h2, h3⟩ := Oper.apart_spec hap
  have hQ' : ∀ c w, Q (.panic c) a w → Q (.panic c) (a.put oi.dst v) w := fun c w h => by
    cases hd : oi.dst with
    | none => exact h
    | some d => exact hQ _ _ _ _ _ h
  have turn : ∀ {b : Act} (u : Value) {w' : World}, K (b.put oj.dst u) w' → ∃ b', (b.put oi.dst v).put oj.dst u = b'.put oi.dst v ∧ K b' w' := fun {b} u {_} h => ⟨_, (Act.put_comm _ v u h2), h⟩
  unfold wpOp at h ⊢
  simp only [hj] at h ⊢
  rw [wanted_put oj a oi.dst v h1]
  by_cases hw : Region.wanted oj (yielded ops a.tmps) = true
  · rw [if_pos hw] at h ⊢
    rcases h with h | ⟨hasks, hlets⟩
    · refine .inl ?_
      unfold Oper.wp at h ⊢
      rw [execOp_put oj hsj a oi.dst v h1]
      cases hr : (execOp a.eval oj).run P w with
      | halt x w' =>
        rw [hr] at h
        cases x <;> simp only [Oper.upon] at h ⊢
        exact hQ' _ _ h
      | ok n w' =>
        rw [hr] at h
        cases n <;> simp only [Oper.upon] at h ⊢
        case value u => exact turn u h
        case skip => exact turn _ h
        case defer d =>
          have e : ({ tmps := (a.put oi.dst v).tmps, defers := d :: (a.put oi.dst v).defers } : Act) = ({ a with defers := d :: a.defers } : Act).put oi.dst v := by cases oi.dst <;> rfl
          rw [e]
          exact turn (b := { a with defers := d :: a.defers }) _ h
        case row r xs => exact Rows.mono h fun u _ he => turn u he
        case enter f xs =>
          refine Calls.mono h fun e w'' he => ?_
          cases e with
          | returned u => exact turn u he
          | panicked c => exact hQ' _ _ he
          | outgrown => exact he
    · exact .inr ⟨by unfold Oper.asks at hasks ⊢; rwa [execOp_put oj hsj a oi.dst v h1], hlets⟩
  · rw [if_neg hw] at h ⊢
    exact turn _ h

def ptr (p : Nat) : Value := .pointer (some ⟨p, 0, none⟩)

/-- the walk: parts ahead of the block (each in any world behind the present one), those behind it -/
def wpFu (P : Program) (l : List Oper) (Q : Exit → Act → World → Prop) (oa : Oper) (z : Array Value) (B : Nat) (q1 : List Nat) (s2 : List Seg) (last : List Nat) : List (List Nat × Nat) → World → Act → Prop
  | [], W, a => wpQuiet P l.toArray (fun w' => ∃ x : After W, w' = x.val) (fun a' => ∀ x : After W, ∀ p, B ≤ p → row x.val p = some z → wpFs P l Q last s2 (a'.put oa.dst (ptr p)) x.val) (pk l q1) a
  | (qs, e) :: r, W, a => wpQuiet P l.toArray (fun w' => ∃ x : After W, w' = x.val) (fun a' => ∀ x : After W, wpList P l.toArray (atEnd (fun a'' w'' => Below x.val.heap.size x.val w'' ∧ wpFu P l Q oa z B q1 s2 last r w'' a'') Q) (pk l [e]) a' x.val) (pk l qs) a

def allOf : List (List Nat × Nat) → List Nat
  | [] => []
  | (qs, e) :: r => qs ++ e :: allOf r
def fuB (ops : Array Oper) (ia : Nat) (q1 : List Nat) (s2 : List Seg) (last : List Nat) : List (List Nat × Nat) → Array Bool → Bool
  | [], listed => qsB ops q1 listed && qsB ops q1 (listed.setIfInBounds ia true) && Region.ready .any ops (setAll listed q1) == [ia] && flB ops last s2 ((setAll listed q1).setIfInBounds ia true)
  | (qs, e) :: r, listed => qsB ops qs listed && qsB ops qs (listed.setIfInBounds ia true) && (Region.ready .any ops (setAll listed qs) == [e, ia] || Region.ready .any ops (setAll listed qs) == [ia, e]) &&
      Region.ready .any ops ((setAll listed qs).setIfInBounds ia true) == [e] && fuB ops ia q1 s2 last r ((setAll listed qs).setIfInBounds e true)
def lenU (q1 : List Nat) (s2 : List Seg) (last : List Nat) : List (List Nat × Nat) → Nat
  | [] => q1.length + lenS last s2
  | (qs, _) :: r => qs.length + (lenU q1 s2 last r + 1)
def cl2B (ops : Array Oper) (p : List Nat) (s2 : List Seg) : Bool := match upTo s2 with | some x => sunkTo ops (p ++ x.1) x.2 | none => true
def floatFB (l : List Oper) (ia : Nat) (s1 : List (List Nat × Nat)) (q1 : List Nat) (s2 : List Seg) (last : List Nat) : Bool :=
  match l[ia]? with
  | some oa => Region.noSelect l.toArray && oa.guard.isNone && lenU q1 s2 last s1 + 1 == l.length && fuB l.toArray ia q1 s2 last s1 (Array.replicate l.length false) && cl2B l.toArray (allOf s1 ++ q1 ++ [ia]) s2 && (pk l (allOf s1 ++ q1)).all (fun o => oa.apart l.toArray o) && (Region.ready .any l.toArray (Array.replicate l.length false)).contains ia
  | none => false

theorem setAll_comm (i : Nat) : ∀ (qs : List Nat) (listed : Array Bool), setAll (listed.setIfInBounds i true) qs = (setAll listed qs).setIfInBounds i true := by
  intro qs
  induction qs with
  | nil => intro _; rfl
  | cons k r ih =>
    intro listed
    simp only [setAll]
    rw [← ih]
    congr 1
    by_cases h : i = k
    · subst h; rfl
    · exact Array.setIfInBounds_comm _ _ h
theorem pk_mem {l : List Oper} {o : Oper} {i : Nat} (h : l[i]? = some o) : ∀ qs : List Nat, i ∈ qs → o ∈ pk l qs := by
  intro qs
  induction qs with
  | nil => intro hi; cases hi
  | cons k r ih =>
    intro hi
    unfold pk
    rcases List.mem_cons.1 hi with rfl | hi
    · rw [h]; simp
    · split
      · exact List.mem_cons_of_mem _ (ih hi)
      · exact ih hi
/-- a walk of those that only read goes as well with another slot filled -/
theorem wpQuiet_lift {l : List Oper} {C : World → Prop} {K : Act → Prop} {oi : Oper} {v : Value} (hsel : Region.noSelect l.toArray = true) :
    ∀ (qs : List Nat) (a : Act), (∀ i ∈ qs, ∀ o, l[i]? = some o → oi.apart l.toArray o = true ∧ plainB o = true) → wpQuiet P l.toArray C K (pk l qs) a → wpQuiet P l.toArray C (fun a' => ∃ b, a' = b.put oi.dst v ∧ K b) (pk l qs) (a.put oi.dst v) := by
  intro qs
  induction qs with
  | nil => intro a _ h; exact ⟨a, rfl, h⟩
  | cons k r ih =>
    intro a hap h
    cases ho : l[k]? with
    | some o =>
      simp only [pk, ho] at h ⊢
      obtain ⟨h1, h2, h3⟩ := Oper.apart_spec (hap k (by simp) o ho).1
      have hso : ∀ cs b, o.op ≠ .select cs b := fun cs b => Region.noSelect_spec hsel k o cs b (by simpa using ho)
      unfold wpQuiet at h ⊢
      rw [wanted_put o a oi.dst v h1]
      by_cases hw : Region.wanted o (yielded l.toArray a.tmps) = true
      · rw [if_pos hw] at h ⊢
        obtain ⟨u, hu, hn⟩ := h
        refine ⟨u, fun w hc => ?_, ?_⟩
        · have := hu w hc
          unfold Oper.quietAt at this ⊢
          rw [execOp_put o hso a oi.dst v h1]
          exact this
        · rw [Act.put_comm a v u h2]
          exact ih _ (fun i hi => hap i (by simp [hi])) hn
      · rw [if_neg hw] at h ⊢
        rw [Act.put_comm a v undef h2]
        exact ih _ (fun i hi => hap i (by simp [hi])) h
    | none =>
      simp only [pk, ho] at h ⊢
      exact ih _ (fun i hi => hap i (by simp [hi])) h

structure FlF (P : Program) (l : List Oper) (Q : Exit → Act → World → Prop) (ia : Nat) (oa : Oper) (z : Array Value) (B : Nat) (q1 : List Nat) (s2 : List Seg) (last : List Nat) (ord : List Nat) : Prop where
  sel : Region.noSelect l.toArray = true
  hoa : l[ia]? = some oa
  ga : oa.guard = none
  hQ : ∀ c a d v w, Q (.panic c) (a.put (some d) v) w → Q (.panic c) a w
  hQ2 : ∀ c a d v w, Q (.panic c) a w → Q (.panic c) (a.put (some d) v) w
  alloc : ∀ ρ w, ∃ w', (execOp ρ oa).run P w = .ok (.value (ptr w.heap.size)) w' ∧ row w' w.heap.size = some z ∧ Below w.heap.size w w'
  apart : ∀ i ∈ ord, ∀ o, l[i]? = some o → oa.apart l.toArray o = true
  cl : ∀ i ∈ ord, ∀ listed, DC l.toArray listed → listed.getD i false = false → ∀ j ∈ Region.ready .any l.toArray listed, clOf s2 j = false
  cla : ∀ listed, DC l.toArray listed → listed.getD ia false = false → ∀ j ∈ Region.ready .any l.toArray listed, clOf s2 j = false

theorem qsB_plain : ∀ (qs : List Nat) (listed : Array Bool), qsB ops qs listed = true → ∀ i ∈ qs, ∀ o, ops[i]? = some o → plainB o = true := by
  intro qs
  induction qs with
  | nil => intro _ _ i hi; cases hi
  | cons k r ih =>
    intro listed h i hi o ho
    simp only [qsB, Bool.and_eq_true] at h
    rcases List.mem_cons.1 hi with rfl | hi
    · have := h.1.2; rw [ho] at this; exact this
    · exact ih _ h.2 i hi o ho
theorem getD_setAll_other {i : Nat} : ∀ (qs : List Nat) (listed : Array Bool), i ∉ qs → (setAll listed qs).getD i false = listed.getD i false := by
  intro qs
  induction qs with
  | nil => intro _ _; rfl
  | cons k r ih =>
    intro listed h
    simp only [setAll]
    rw [ih _ (fun hi => h (by simp [hi])), getD_set_ne false (fun e => h (by simp [e]))]

theorem FlF.alloc_wp {ia : Nat} {oa : Oper} {l : List Oper} {z : Array Value} {B : Nat} {q1 : List Nat} {s2 : List Seg} {last : List Nat} {ord : List Nat} (F : FlF P l Q ia oa z B q1 s2 last ord) {a : Act} {w : World} {K : Act → World → Prop}
    (h : ∀ w', row w' w.heap.size = some z → Below w.heap.size w w' → K (a.put oa.dst (ptr w.heap.size)) w') : wpOp P l.toArray Q ia K a w := by
  obtain ⟨w', h1, h2, h3⟩ := F.alloc a.eval w
  unfold wpOp
  simp only [show l.toArray[ia]? = some oa by simpa using F.hoa]
  rw [if_pos (by unfold Region.wanted; rw [F.ga])]
  refine .inl ?_
  unfold Oper.wp
  rw [h1]
  exact h w' h2 h3

theorem flowF {ia : Nat} {oa : Oper} {l : List Oper} {z : Array Value} {B : Nat} {q1 : List Nat} {s2 : List Seg} {last : List Nat} {ord : List Nat} (F : FlF P l Q ia oa z B q1 s2 last ord) :
    ∀ (s1 : List (List Nat × Nat)) (listed : Array Bool) (a : Act) (W : World), fuB l.toArray ia q1 s2 last s1 listed = true → (∀ i ∈ allOf s1 ++ q1, i ∈ ord) → DC l.toArray listed → ia ∈ Region.ready .any l.toArray listed → ia ∉ allOf s1 ++ q1 → B ≤ W.heap.size → wpFu P l Q oa z B q1 s2 last s1 W a →
      (∀ x : After W, ∀ p, B ≤ p → row x.val p = some z → TT P l.toArray Q (clOf s2) (Aft W) (lenU q1 s2 last s1) (listed.setIfInBounds ia true) (a.put oa.dst (ptr p)) x.val) ∧
      (∀ x : After W, TT P l.toArray Q (clOf s2) (Aft W) (lenU q1 s2 last s1 + 1) listed a x.val) := by
  intro s1
  induction s1 with
  | nil =>
    intro listed a W hB hord hd hia hni hBW h
    simp only [fuB, Bool.and_eq_true, beq_iff_eq] at hB
    obtain ⟨⟨⟨hq, hq'⟩, hra⟩, hf2⟩ := hB
    simp only [allOf, List.nil_append] at hord hni
    have hap : ∀ i ∈ q1, ∀ o, l[i]? = some o → oa.apart l.toArray o = true ∧ plainB o = true := fun i hi o ho => ⟨F.apart i (hord i hi) o ho, qsB_plain q1 listed hq i hi o (by simpa using ho)⟩
    have part2 : ∀ x : After W, ∀ p, B ≤ p → row x.val p = some z → TT P l.toArray Q (clOf s2) (Aft W) (lenU q1 s2 last []) (listed.setIfInBounds ia true) (a.put oa.dst (ptr p)) x.val := fun x p hp hr => by
      have hl := wpQuiet_lift (oi := oa) (v := ptr p) F.sel q1 a hap h
      refine TT.quiets (C := Aft W) (K := fun a' => ∃ b : Act, a' = b.put oa.dst (ptr p) ∧ ∀ x : After W, ∀ p, B ≤ p → row x.val p = some z → wpFs P l Q last s2 (b.put oa.dst (ptr p)) x.val) F.sel F.hQ (Aft.of x.below) q1 _ _ hq' (hd.set hia) (fun i hi => F.cl i (hord i hi)) hl (fun a' hd' hK => ?_)
      obtain ⟨b, rfl, hK⟩ := hK
      rw [setAll_comm] at hd' ⊢
      exact TT.mono (Aft.sub x.below) _ _ _ _ (flow F.sel F.hQ s2 (Aft x.val) _ _ _ hf2 hd' (Aft.self _) (wpFs.fl s2 _ _ (hK x p hp hr)))
    refine ⟨part2, fun x => ?_⟩
    refine TT.quiets (C := Aft W) (K := fun a' => ∀ x : After W, ∀ p, B ≤ p → row x.val p = some z → wpFs P l Q last s2 (a'.put oa.dst (ptr p)) x.val) (f := lenS last s2 + 1) F.sel F.hQ (Aft.of x.below) q1 listed a hq hd (fun i hi => F.cl i (hord i hi)) h (fun a' hd' hK => ?_)
    refine ⟨fun h0 => (by rw [h0] at hra; cases hra), fun j hj => ?_⟩
    have hj' := hj
    rw [hra] at hj'
    obtain rfl := List.mem_singleton.1 hj'
    have hcl := F.cla _ hd' (getD_both (mem_ready.1 hj).1) j hj
    refine F.alloc_wp fun w' hr hb => ?_
    rw [if_neg (by rw [hcl]; exact Bool.false_ne_true)]
    have hx := onto x.below x.below.size hb
    refine ⟨Aft.of hx, ?_⟩
    exact TT.mono (Aft.sub hx) _ _ _ _ (flow F.sel F.hQ s2 (Aft w') _ _ _ hf2 (hd'.set hj) (Aft.self _) (wpFs.fl s2 _ _ (hK ⟨w', hx⟩ _ (Nat.le_trans hBW x.below.size) hr)))
  | cons y r ih =>
    intro listed a W hB hord hd hia hni hBW h
    obtain ⟨qs, e⟩ := y
    simp only [fuB, Bool.and_eq_true, Bool.or_eq_true, beq_iff_eq] at hB
    obtain ⟨⟨⟨⟨hq, hq'⟩, hr2⟩, hr1⟩, hrest⟩ := hB
    have hordq : ∀ i ∈ qs, i ∈ ord := fun i hi => hord i (by simp [allOf, hi])
    have horde : e ∈ ord := hord e (by simp [allOf])
    have hordr : ∀ i ∈ allOf r ++ q1, i ∈ ord := fun i hi => hord i (by simp only [allOf, List.mem_append, List.mem_cons] at hi ⊢; rcases hi with hi | hi <;> simp [hi])
    have hniq : ia ∉ qs := fun hi => hni (by simp [allOf, hi])
    have hnie : ia ≠ e := fun hi => hni (by simp [allOf, hi])
    have hnir : ia ∉ allOf r ++ q1 := fun hi => hni (by simp only [allOf, List.mem_append, List.mem_cons] at hi ⊢; rcases hi with hi | hi <;> simp [hi])
    have hap : ∀ i ∈ qs, ∀ o, l[i]? = some o → oa.apart l.toArray o = true ∧ plainB o = true := fun i hi o ho => ⟨F.apart i (hordq i hi) o ho, qsB_plain qs listed hq i hi o (by simpa using ho)⟩
    have hre : e ∈ Region.ready .any l.toArray (setAll listed qs) := by rcases hr2 with h2 | h2 <;> rw [h2] <;> simp
    have hria : ia ∈ Region.ready .any l.toArray (setAll listed qs) := by rcases hr2 with h2 | h2 <;> rw [h2] <;> simp
    obtain ⟨_, oe, hoe, _⟩ := mem_ready.1 hre
    have hoe' : l[e]? = some oe := by simpa using hoe
    have hria' : ia ∈ Region.ready .any l.toArray ((setAll listed qs).setIfInBounds e true) := ready_mono hria hnie
    -- the one that changes the world, wherever
    have estep : ∀ (a' : Act), (∀ x : After W, wpList P l.toArray (atEnd (fun a'' w'' => Below x.val.heap.size x.val w'' ∧ wpFu P l Q oa z B q1 s2 last r w'' a'') Q) (pk l [e]) a' x.val) → ∀ x : After W, wpOp P l.toArray Q e (fun a'' w'' => Below x.val.heap.size x.val w'' ∧ wpFu P l Q oa z B q1 s2 last r w'' a'') a' x.val := fun a' hK x => by
      have := hK x
      simp only [pk, hoe'] at this
      exact wpOp_of_list hoe this
    have part2 : ∀ (a' : Act), DC l.toArray (setAll listed qs) → (∀ x : After W, wpList P l.toArray (atEnd (fun a'' w'' => Below x.val.heap.size x.val w'' ∧ wpFu P l Q oa z B q1 s2 last r w'' a'') Q) (pk l [e]) a' x.val) →
        ∀ x : After W, ∀ p, B ≤ p → row x.val p = some z → TT P l.toArray Q (clOf s2) (Aft W) (lenU q1 s2 last r + 1) ((setAll listed qs).setIfInBounds ia true) (a'.put oa.dst (ptr p)) x.val := fun a' hd' hK x p hp hrow => by
      refine ⟨fun h0 => (by rw [h0] at hr1; cases hr1), fun j hj => ?_⟩
      have hj' := hj
      rw [hr1] at hj'
      obtain rfl := List.mem_singleton.1 hj'
      have hcl := F.cl j horde _ (hd'.set hria) (getD_both (mem_ready.1 hj).1) j hj
      refine wpOp_mono (fun a'' w'' h3 => ?_) (wpOp_lift hoe (F.apart j horde oe hoe') (fun cs b => Region.noSelect_spec F.sel j oe cs b hoe) F.hQ2 (estep a' hK x))
      obtain ⟨b, rfl, hb, hrst⟩ := h3
      rw [if_neg (by rw [hcl]; exact Bool.false_ne_true)]
      have hx := onto x.below x.below.size hb
      refine ⟨Aft.of hx, ?_⟩
      have := (ih ((setAll listed qs).setIfInBounds j true) b w'' hrest hordr (hd'.set hre) hria' hnir (Nat.le_trans hBW hx.size) hrst).1 ⟨w'', Below.refl _ _⟩ p hp (carry hb hrow)
      rw [Array.setIfInBounds_comm _ _ hnie]
      exact TT.mono (Aft.sub hx) _ _ _ _ this
    refine ⟨fun x p hp hrow => ?_, fun x => ?_⟩
    · have hl := wpQuiet_lift (oi := oa) (v := ptr p) F.sel qs a hap h
      refine TT.quiets (C := Aft W) (K := fun a' => ∃ b : Act, a' = b.put oa.dst (ptr p) ∧ ∀ x : After W, wpList P l.toArray (atEnd (fun a'' w'' => Below x.val.heap.size x.val w'' ∧ wpFu P l Q oa z B q1 s2 last r w'' a'') Q) (pk l [e]) b x.val) F.sel F.hQ (Aft.of x.below) qs _ _ hq' (hd.set hia) (fun i hi => F.cl i (hordq i hi)) hl (fun a' hd' hK => ?_)
      obtain ⟨b, rfl, hK⟩ := hK
      rw [setAll_comm]
      have hdq : DC l.toArray (setAll listed qs) := by
        have key : ∀ (qs : List Nat) (listed : Array Bool), qsB l.toArray qs listed = true → DC l.toArray listed → DC l.toArray (setAll listed qs) := by
          intro qs
          induction qs with
          | nil => intro _ _ h; exact h
          | cons k r ih =>
            intro listed h hd
            simp only [qsB, Bool.and_eq_true] at h
            exact ih _ h.2 (hd.set (by simpa using h.1.1.1))
        exact key qs listed hq hd
      exact part2 b hdq hK x p hp hrow
    · refine TT.quiets (C := Aft W) (K := fun a' => ∀ x : After W, wpList P l.toArray (atEnd (fun a'' w'' => Below x.val.heap.size x.val w'' ∧ wpFu P l Q oa z B q1 s2 last r w'' a'') Q) (pk l [e]) a' x.val) (f := lenU q1 s2 last r + 1 + 1) F.sel F.hQ (Aft.of x.below) qs listed a hq hd (fun i hi => F.cl i (hordq i hi)) h (fun a' hd' hK => ?_)
      refine ⟨fun h0 => (by rw [h0] at hre; cases hre), fun j hj => ?_⟩
      have hjj : j = e ∨ j = ia := by rcases hr2 with h2 | h2 <;> rw [h2] at hj <;> simp at hj <;> omega
      rcases hjj with rfl | rfl
      · have hcl := F.cl j horde _ hd' (getD_both (mem_ready.1 hj).1) j hj
        refine wpOp_mono (fun a'' w'' h3 => ?_) (estep a' hK x)
        obtain ⟨hb, hrst⟩ := h3
        rw [if_neg (by rw [hcl]; exact Bool.false_ne_true)]
        have hx := onto x.below x.below.size hb
        exact ⟨Aft.of hx, TT.mono (Aft.sub hx) _ _ _ _ ((ih ((setAll listed qs).setIfInBounds j true) a'' w'' hrest hordr (hd'.set hre) hria' hnir (Nat.le_trans hBW hx.size) hrst).2 ⟨w'', Below.refl _ _⟩)⟩
      · have hcl := F.cla _ hd' (getD_both (mem_ready.1 hj).1) j hj
        refine F.alloc_wp fun w' hr hb => ?_
        rw [if_neg (by rw [hcl]; exact Bool.false_ne_true)]
        have hx := onto x.below x.below.size hb
        exact ⟨Aft.of hx, part2 a' hd' hK ⟨w', hx⟩ _ (Nat.le_trans hBW x.below.size) hr⟩

theorem flow_float {id : Nat} {a : Act} {w : World} {l : List Oper} (ia : Nat) (oa : Oper) (z : Array Value) (s1 : List (List Nat × Nat)) (q1 : List Nat) (s2 : List Seg) (last : List Nat) (hm : P.follows .mixedOrders = true) (hB : floatFB l ia s1 q1 s2 last = true)
    (hoa : l[ia]? = some oa) (hni : (allOf s1 ++ q1).contains ia = false) (hQ : ∀ c a d v w, Q (.panic c) (a.put (some d) v) w → Q (.panic c) a w) (hQ2 : ∀ c a d v w, Q (.panic c) a w → Q (.panic c) (a.put (some d) v) w)
    (halloc : ∀ ρ w, ∃ w', (execOp ρ oa).run P w = .ok (.value (ptr w.heap.size)) w' ∧ row w' w.heap.size = some z ∧ Below w.heap.size w w')
    (h : ∀ x : After w, wpFu P l Q oa z w.heap.size q1 s2 last s1 x.val a) : (Code.region id l.toArray true).wp P Q a w := by
  unfold floatFB at hB
  rw [hoa] at hB
  simp only [Bool.and_eq_true, beq_iff_eq, Option.isNone_iff_eq_none] at hB
  obtain ⟨⟨⟨⟨⟨⟨hsel, ga⟩, hlen⟩, hf⟩, hcl⟩, hap⟩, hia⟩ := hB
  have hclosed : ∀ i ∈ allOf s1 ++ q1 ++ [ia], ∀ listed, DC l.toArray listed → listed.getD i false = false → ∀ j ∈ Region.ready .any l.toArray listed, clOf s2 j = false := fun i hi listed hd hun j hj => by
    unfold clOf
    cases hu : upTo s2 with
    | none => rfl
    | some y =>
      simp only [cl2B, hu] at hcl
      simp only [beq_eq_false_iff_ne]
      intro hyj
      exact sunkTo_spec _ hcl i (List.mem_append_left _ hi) listed hd hun (hyj ▸ hj)
  have F : FlF P l Q ia oa z w.heap.size q1 s2 last (allOf s1 ++ q1) :=
    { sel := hsel, hoa, ga, hQ, hQ2, alloc := halloc, apart := fun i hi o ho => List.all_eq_true.1 hap o (pk_mem ho _ hi)
      cl := fun i hi => hclosed i (List.mem_append_left _ hi), cla := hclosed ia (by simp) }
  refine wp_region_any hm ?_
  have e : (Array.replicate l.toArray.size false) = Array.replicate l.length false := by simp
  have T := (flowF F s1 (Array.replicate l.length false) a (w.drewN 1) hf (fun i hi => hi) (by rw [← e]; exact DC.none) (by simpa using hia) (by simpa using hni) (Nat.le_refl _) (h ⟨w.drewN 1, below_drewN (Below.refl _ _) 1⟩)).2 ⟨w.drewN 1, Below.refl _ _⟩
  have := TT.any _ _ _ _ T
  rw [hlen] at this
  rw [e, show l.toArray.size = l.length by simp]
  exact this
end
end Go.Proofs.Ytokhldihfbaeoaa.Oct
