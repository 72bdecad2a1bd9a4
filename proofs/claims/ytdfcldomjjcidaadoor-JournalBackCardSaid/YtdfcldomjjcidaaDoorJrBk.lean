/- JournalBack's rows: all the bytes, where each frame ends, the records; what a Scan of known records answers. -/
import Derived.Test.YtdfcldomjjcidaaDoorJrZb
import Derived.Test.YtdfcldomjjcidaaDoorJrOp
import Derived.Test.YtdfcldomjjcidaaDoorJrW
namespace Go.Proofs.YtdfcldomjjcidaaDoor.Oct
open Go.ChangeShapes Go.WideShapes Go.ChangeAt Go.RowKit
set_option linter.unusedVariables false

/-- ints, one cell each -/
def iEl (T : Mk) (w : World) (x : Int) (vs : List Value) : Prop := vs = [.int .i64 x]
theorem iEl_ok : ElOk 1 iEl where
  len := by rintro T w x vs rfl; rfl
  one := by
    rintro T w x vs rfl v hv
    obtain rfl := List.mem_singleton.1 hv
    rfl
  fr := fun h _ _ => h
  re := fun h _ => h
/-- a row of bytes of mark t that may be appended to -/
structure OwF (T : Mk) (w : World) (t : Nat) (u : TypeId) (v : Value) (n : Nat) (f : Bf) : Prop where
  own : Own w 0 u v n f
  tg : ∀ g, v.ownBlock = some g → T g = t
section
variable {T T' : Mk} {H : Nat → Prop} {w w' : World} {t : Nat} {u : TypeId} {v v' : Value} {n m : Nat} {f g : Bf}
theorem OwF.b (h : OwF T w t u v n f) : OwB T w t u v (bl n f) := ⟨by rw [bl_len]; exact h.own.congr fun i hi => (lf_bl n f i hi).symm, h.tg⟩
theorem OwF.of (h : OwB T w t u v (bl n f)) : OwF T w t u v n f := ⟨by have := h.own; rw [bl_len] at this; exact this.congr fun i hi => lf_bl n f i hi, h.tg⟩
theorem OwF.fr (h : OwF T w t u v n f) (hf : Fr T T' H w w') (ht : ¬ H t) : OwF T' w' t u v n f := .of (h.b.fr hf ht)
theorem OwF.congr (h : OwF T w t u v n f) (e : ∀ i, i < n → f i = g i) : OwF T w t u v n g := ⟨h.own.congr e, h.tg⟩
theorem OwF.app (h : OwF T w t u v n f) (h1 : Own w' 0 u v' (n + m) (catF n f g)) (h2 : w.grownBy w' v.ownBlock) (h3 : v'.ownBlock = v.ownBlock ∨ v'.ownBlock = some w.heap.size) :
    OwF (paint T w.heap.size t) w' t u v' (n + m) (catF n f g) ∧ Fr T (paint T w.heap.size t) (fun c => c = t) w w' := by
  refine ⟨⟨h1, fun g hg => ?_⟩, Fr.grown h2 (fun g hg => h.tg g hg) t⟩
  rcases h3 with e | e
  · rw [e] at hg
    rw [paint_old (World.ownsRow.lt h.own g hg).2]
    exact h.tg g hg
  · rw [e] at hg
    cases hg
    exact paint_new (Nat.le_refl _)
end
/-- where each frame ends, from 0 on -/
def atL (L : List Rc) : List Int := (List.range (L.length + 1)).map fun k => ((lnS (L.take k) : Nat) : Int)
theorem atL_len (L : List Rc) : (atL L).length = L.length + 1 := by simp [atL]
theorem atL_get (L : List Rc) (k : Nat) (h : k < (atL L).length) : (atL L)[k] = ((lnS (L.take k) : Nat) : Int) := by simp [atL]
theorem lnS_snoc (L : List Rc) (r : Rc) : lnS (L ++ [r]) = lnS L + pcL r := by rw [lnS_app]; simp [lnS]
theorem atL_snoc (L : List Rc) (r : Rc) : atL (L ++ [r]) = atL L ++ [((lnS L + pcL r : Nat) : Int)] := by
  apply List.ext_getElem
  · simp [atL_len]
  intro k h1 h2
  rw [atL_get]
  rw [atL_len, List.length_append] at h1
  simp only [List.length_cons, List.length_nil] at h1
  by_cases e : k < L.length + 1
  · rw [List.getElem_append_left (by rw [atL_len]; exact e), atL_get, List.take_append_of_le_length (by omega)]
  · have e2 : k = L.length + 1 := by omega
    rw [List.getElem_append_right (by rw [atL_len]; omega)]
    simp only [List.getElem_singleton]
    rw [List.take_of_length_le (by simp; omega), lnS_snoc]
theorem lnS_le : ∀ {L : List Rc}, (∀ r, r ∈ L → RcIn r ∧ pcE r = 0) → lnS L ≤ 4103 * L.length
  | [], _ => Nat.zero_le _
  | r :: L, h => by
    have h1 := (h r (List.mem_cons_self ..)).2
    have h2 := lnS_le fun x hx => h x (List.mem_cons_of_mem _ hx)
    have h3 : pcL r ≤ 4103 := by
      obtain ⟨-, -, hL⟩ := pc_ok h1
      unfold pcL frL txL
      have := enc_small hL
      omega
    simp only [lnS, List.length_cons]
    omega
theorem lnS_take_le (L : List Rc) (k : Nat) : lnS (L.take k) ≤ lnS L := by
  have := lnS_app (L.take k) (L.drop k)
  rw [List.take_append_drop] at this
  omega
/-- what the loop keeps -/
structure BkI (w0 w' : World) (T : Mk) (L : List Rc) (v : Value) (A2 : Option Addr) (c2 : Nat) (A3 : Option Addr) (c3 : Nat) : Prop where
  o : OwF T w' 2 5 v (lnS L) (allF L)
  p : ElAt 1 iEl T w' 3 A2 c2 (atL L)
  g : ElAt 10 rcEl T w' 4 A3 c3 L
  all : ∀ r, r ∈ L → RcIn r ∧ pcE r = 0
  b : Below w0.heap.size w0 w'
  t : ∀ k, k < w0.heap.size → T k = 0
section
variable {w0 w' w2 : World} {T T' : Mk} {L : List Rc} {v : Value} {A2 A3 : Option Addr} {c2 c3 : Nat}
theorem BkI.calm (h : BkI w0 w' T L v A2 c2 A3 c3) (hb : Below w'.heap.size w' w2) (T' : Mk) (hT : ∀ k, k < w'.heap.size → T' k = T k) : BkI w0 w2 T' L v A2 c2 A3 c3 := by
  have F : Fr T T' (fun _ => False) w' w2 := Fr.calm hb hT
  exact ⟨h.o.fr F (fun e => e), h.p.fr iEl_ok F (fun e => e) (fun e => e), h.g.fr rcEl_ok F (fun e => e) (fun e => e), h.all, onto h.b h.b.size hb, fun k hk => by rw [hT k (by have := h.b.size; omega)]; exact h.t k hk⟩
/-- one more record is put: the bytes, then the place, then the record are laid behind -/
theorem BkI.more {w5 w6 w7 w8 w9 : World} {T5 T7 T9 : Mk} {v5 : Value} {A7 A9 : Option Addr} {c7 c9 : Nat} {r : Rc} (h : BkI w0 w' T L v A2 c2 A3 c3) (hr : RcIn r ∧ pcE r = 0)
    (o5 : OwF T5 w5 2 5 v5 (lnS L + pcL r) (catF (lnS L) (allF L) (pcF r))) (f5 : Fr T T5 (fun c => c = 2) w' w5)
    (b6 : Below w5.heap.size w5 w6) (p7 : ElAt 1 iEl T7 w7 3 A7 c7 (atL L ++ [((lnS L + pcL r : Nat) : Int)])) (f7 : Fr T5 T7 (fun c => c = 3) w6 w7)
    (b8 : Below w7.heap.size w7 w8) (g9 : ElAt 10 rcEl T9 w9 4 A9 c9 (L ++ [r])) (f9 : Fr T7 T9 (fun c => c = 4) w8 w9) : BkI w0 w9 T9 (L ++ [r]) v5 A7 c7 A9 c9 := by
  have F6 : Fr T5 T5 (fun _ => False) w5 w6 := Fr.calm b6 fun _ _ => rfl
  have F8 : Fr T7 T7 (fun _ => False) w7 w8 := Fr.calm b8 fun _ _ => rfl
  have F : Fr T T9 (fun c => c = 2 ∨ c = 3 ∨ c = 4) w' w9 :=
    ((f5.mono fun c e => .inl e).trans (F6.mono fun c e => e.elim)).trans (((f7.mono fun c e => .inr (.inl e)).trans (F8.mono fun c e => e.elim)).trans (f9.mono fun c e => .inr (.inr e)))
  refine ⟨?_, ?_, g9, fun x hx => ?_, h.b.trans (F.below h.b.size fun k hk => by rw [h.t k hk]; omega), fun k hk => by rw [F.tag k (by have := h.b.size; omega)]; exact h.t k hk⟩
  · rw [lnS_snoc]
    exact ((((o5.fr F6 (fun e => e)).fr f7 (by decide)).fr F8 (fun e => e)).fr f9 (by decide)).congr fun i hi => (allF_snoc L r i hi).symm
  · rw [atL_snoc]
    exact (p7.fr iEl_ok F8 (fun e => e) (fun e => e)).fr iEl_ok f9 (by decide) (by decide)
  · rcases List.mem_append.1 hx with hx | hx
    · exact h.all x hx
    · obtain rfl := List.mem_singleton.1 hx
      exact hr
end
/-- a record of an elder world's bottom -/
theorem rcEl_old {T : Mk} {w0 w : World} {r : Rc} {D D' : Option Addr} {k k' : Nat} (he : EnR w0 r.e D k D' k') (hb : Below w0.heap.size w0 w) (ht : ∀ k, k < w0.heap.size → T k = 0) : rcEl T w r (rcC r (.slice D r.e.T k) (.slice D' r.e.n k')).toList :=
  ⟨D, k, D', k', rfl, RdS.of_sl (he.d.below hb) hb.size ht, ⟨(he.m.below hb).more hb.size, fun hn a ha => by
    obtain ⟨g, o, e, hg, _⟩ := he.m.at_ hn
    rw [e] at ha
    cases ha
    exact ht g hg⟩⟩
/-- ints that are read -/
theorem ElAt.ints {T : Mk} {w : World} {t : Nat} {A : Option Addr} {c : Nat} {l : List Int} (h : ElAt 1 iEl T w t A c l) (h0 : 0 < l.length) : ∃ g o, A = some ⟨g, o, none⟩ ∧ g < w.heap.size ∧ ∀ i (hi : i < l.length), w.cell? ⟨g, o + i, none⟩ = some (.int .i64 l[i]) := by
  obtain ⟨g, o, cur, e, hr, hs, hT, hel⟩ := h.at_ (by have := h.le; omega)
  refine ⟨g, o, e, row_lt hr, fun i hi => ?_⟩
  obtain ⟨vs, h1, h2⟩ := hel i hi
  have h3 := h2 0 (by decide)
  unfold iEl at h1
  rw [h1] at h3
  rw [cell_row hr]
  simpa using h3
/-- a Scan whose records are known -/
def scQ (M : List Rc) (w : World) (e : Ending) (w' : World) : Prop := Below w.heap.size w w' ∧ ∃ A c R, e = .returned (.tuple #[.slice A M.length c, .int .i64 ((lnS M : Nat) : Int)]) ∧ RcS w' A M.length c R ∧ ∀ i, i < M.length → rcEq (R i) (gt M i)
theorem scP.known {n : Nat} {f : Bf} {w w' : World} {e : Ending} {M : List Rc} (hM : ScR n f M) (h : scP n f w e w') : scQ M w e w' := by
  obtain ⟨hb, l, A, c, rfl, hS, hR⟩ := h
  obtain ⟨h1, h2, h3⟩ := ScR.one hS hM
  refine ⟨hb, A, c, gt l, by rw [h1, h2], by rw [← h2]; exact hR, fun i hi => h3 i (by omega)⟩
theorem bk_whole {L : List Rc} (h : ∀ r, r ∈ L → RcIn r ∧ pcE r = 0) {f : Bf} (hf : ∀ i, i < lnS L → f i = allF L i) : ScR (lnS L) f L := scr_whole (fun r hr => ⟨fun _ => (h r hr).1.bd, (h r hr).2⟩) rfl hf
theorem bk_snoc {L : List Rc} {q : Nat} (h : L.length = q + 1) : L = L.take q ++ [gt L q] := by
  have e : gt L q = L[q] := by simp [gt, h]
  rw [e, ← List.take_succ_eq_append_getElem (by omega : q < L.length), List.take_of_length_le (by omega)]
theorem gt_take (L : List Rc) {k i : Nat} (h : i < k) : gt (L.take k) i = gt L i := by
  unfold gt
  simp only [List.getD_eq_getElem?_getD, List.getElem?_take, if_pos h]
/-- at the start -/
def bkT (B : Nat) : Mk := fun k => if k = B then 2 else if k = B + 1 then 3 else 0
theorem BkI.start {w0 w1 w2 w3 w4 : World} (hb : Below w0.heap.size w0 w1) (h2 : w2 = w1.alloc (.cells #[] 5)) (h3 : w3 = w2.alloc (.cells #[.int .i64 0] 3)) (h4 : w4 = w3.alloc (.cells #[] 32)) :
    BkI w0 w4 (bkT w1.heap.size) [] (.slice (some ⟨w1.heap.size, 0, none⟩) 0 0) (some ⟨w2.heap.size, 0, none⟩) 1 (some ⟨w3.heap.size, 0, none⟩) 0 := by
  have z2 : w2.heap.size = w1.heap.size + 1 := by rw [h2]; simp
  have z3 : w3.heap.size = w2.heap.size + 1 := by rw [h3]; simp
  have b2 : Below w1.heap.size w1 w2 := by rw [h2]; exact (Below.refl _ _).alloc (Nat.le_refl _) _
  have b3 : Below w2.heap.size w2 w3 := by rw [h3]; exact (Below.refl _ _).alloc (Nat.le_refl _) _
  have b4 : Below w3.heap.size w3 w4 := by rw [h4]; exact (Below.refl _ _).alloc (Nat.le_refl _) _
  have o2 : Own w2 0 5 (.slice (some ⟨w1.heap.size, 0, none⟩) 0 0) 0 nF := by rw [h2]; exact Own.empty _ _ _ _ (Nat.zero_le _)
  have r3 : row w3 w2.heap.size = some #[.int .i64 0] := by rw [h3]; exact row_alloc_at _ _ _ _ rfl
  refine ⟨⟨(o2.below b3 (Nat.le_refl _)).below b4 (Nat.le_refl _), fun g hg => ?_⟩, ⟨Nat.le_refl _, by decide, fun _ => ⟨_, 0, _, rfl, carry b4 r3, by decide, ?_, fun i hi => ?_⟩⟩, ElAt.empty _ _ _ _, fun r hr => (by cases hr), onto hb hb.size (onto b2 b2.size (onto b3 b3.size b4)), fun k hk => ?_⟩
  · cases hg
    unfold bkT
    rw [if_pos rfl]
  · unfold bkT
    rw [if_neg (by omega), if_pos z2]
  · have hi' : i = 0 := by have : i < 1 := hi; omega
    subst hi'
    refine ⟨_, rfl, fun j hj => ?_⟩
    obtain rfl : j = 0 := by omega
    rfl
  · have := hb.size
    unfold bkT
    rw [if_neg (by omega), if_neg (by omega)]
theorem bk_n {L : List Rc} (h : ∀ r, r ∈ L → RcIn r ∧ pcE r = 0) {i : Nat} (hi : i < L.length) : (gt L i).e.n ≤ 140737488355328 := by
  have e : gt L i = L[i] := by simp [gt, hi]
  rw [e]
  have := (h _ (List.getElem_mem hi)).1.m
  omega
/-- the same rows are the same -/
theorem sameQ {M : List Rc} {R : Nat → Rc} {K c c' : Nat} {A A' : Option Addr} {w : World} (hK : M.length = K) (hR : RcS w A M.length c R) (hq : ∀ i, i < M.length → rcEq (R i) (gt M i)) (h' : RcS w A' K c' (gt M)) (hM : ∀ r, r ∈ M → RcIn r ∧ pcE r = 0) (hl : K ≤ 1000) :
    Calls Tryd.prog 14 #[.slice A K c, .slice A' K c'] w fun e w' => e = .returned (.bool true) ∧ Below w.heap.size w w' := by
  subst hK
  exact same11_any M.length c c' A A' R (gt M) w hR h' hq (fun i hi => by rw [(hq i hi).e.n]; exact bk_n hM hi) (by omega)
/-- bytes of the call's own: the row they lie in -/
theorem Own.rowAt {w : World} {base n : Nat} {u : TypeId} {v : Value} {f : Bf} (h : Own w base u v n f) (hn : 0 < n) : ∃ g cap cur, v = .slice (some ⟨g, 0, none⟩) n cap ∧ base ≤ g ∧ row w g = some cur ∧ cap ≤ maxLen ∧ n ≤ cap ∧ cur.size = cap ∧ ∀ i, i < n → cur[i]? = some (.int .u8 (I (f i))) := by
  unfold Own at h
  rcases h.2 with ⟨-, h0⟩ | ⟨g, cap, cur, rfl, hb, hg, hc, hm, hcs, htk⟩
  · omega
  · refine ⟨g, cap, cur, rfl, hb, row_of hg, hm, hc, by omega, fun i hi => ?_⟩
    have e : (cur.toList.take (n * 1))[i]? = (ba n f).toList[i]? := by rw [htk]
    rw [List.getElem?_take, if_pos (by omega), Array.getElem?_toList, Array.getElem?_toList, ba_get _ _ _ hi] at e
    exact e
/-- one byte is written over -/
theorem sl_store {w : World} {g n cap q : Nat} {cur : Array Value} {f : Bf} (hr : row w g = some cur) (hs : cur.size = cap) (hn : n ≤ cap) (hc : ∀ i, i < n → cur[i]? = some (.int .u8 (I (f i)))) (hq : q < n) (b : BitVec 8) :
    Sl (w.setCell ⟨g, q, none⟩ (.int .u8 (I b))) w.heap.size (some ⟨g, 0, none⟩) n cap (fun i => if i = q then b else f i) := by
  refine ⟨hn, fun _ => ⟨g, 0, rfl, row_lt hr, fun i hi => ?_⟩⟩
  rw [setCell_row hr, cell_row (row_setRow hr _), Nat.zero_add]
  by_cases e : i = q
  · subst e
    rw [if_pos rfl, Array.getElem?_setIfInBounds_self_of_lt (by omega)]
  · rw [if_neg e, ← hc i hi, Array.getElem?_setIfInBounds_ne (fun h => e h.symm)]
end Go.Proofs.YtdfcldomjjcidaaDoor.Oct
