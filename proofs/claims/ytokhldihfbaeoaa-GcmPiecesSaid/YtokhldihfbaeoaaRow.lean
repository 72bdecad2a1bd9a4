/- What a block of memory holds, whole: 'row w b'. Loads and stores of whole arrays by it. Of whatever program. -/
import Derived.Test.YtokhldihfbaeoaaKit
import Derived.Below
import Derived.Deep.MidRow
namespace Go.Proofs.Ytokhldihfbaeoaa.Oct
open Go.RowKit

/-- the cells of block b, if it is a block of cells that may be written -/
@[irreducible] def row (w : World) (b : Nat) : Option (Array Value) :=
  match w.heap[b]? with
  | some (.cells c _ fr) => if fr = (0, 0) then some c else none
  | _ => none

theorem row_of {w : World} {b : Nat} {c : Array Value} {t : TypeId} (h : w.heap[b]? = some (.cells c t (0, 0))) : row w b = some c := by
  unfold row; simp [h]
theorem row_is {w : World} {b : Nat} {c : Array Value} (h : row w b = some c) : ∃ t, w.heap[b]? = some (.cells c t (0, 0)) := by
  unfold row at h
  split at h
  · rename_i c' t fr e
    split at h
    · rename_i hfr
      subst hfr
      obtain rfl := Option.some.inj h
      exact ⟨t, e⟩
    · cases h
  · cases h
theorem row_lt {w : World} {b : Nat} {c : Array Value} (h : row w b = some c) : b < w.heap.size := by
  obtain ⟨t, ht⟩ := row_is h
  exact (Array.getElem?_eq_some_iff.1 ht).1
theorem row_heap {w w' : World} {b : Nat} (h : w'.heap[b]? = w.heap[b]?) : row w' b = row w b := by unfold row; rw [h]
theorem cell_row {w : World} {b : Nat} {c : Array Value} (h : row w b = some c) (i : Nat) : w.cell? ⟨b, i, none⟩ = c[i]? := by
  obtain ⟨t, ht⟩ := row_is h
  exact cell_of_row w b i c t (0, 0) ht
theorem froz_row {w : World} {b : Nat} {c : Array Value} (h : row w b = some c) (i : Nat) : w.frozen? ⟨b, i, none⟩ = false := by
  obtain ⟨t, ht⟩ := row_is h
  exact frozen_of_row w b i c t ht

/- a byte that is a numeral -/
@[go_sem] theorem ba_set_lit (n : Nat) (f : Nat → BitVec 8) (k m : Nat) (h : m < 256) : (ba n f).setIfInBounds k (.int .u8 (@OfNat.ofNat Int m instOfNat)) = ba n (upd f k (BitVec.ofNat 8 m)) := by
  rw [← ba_set]
  congr 2
  unfold I
  rw [BitVec.toNat_ofNat, Nat.mod_eq_of_lt h]
  rfl
/- exact worlds -/
@[go_sem] theorem row_alloc_at (w : World) (c : Array Value) (t : TypeId) (n : Nat) (hn : n = w.heap.size) : row (w.alloc (.cells c t)) n = some c := by
  subst hn; exact row_of (heap_alloc_new w _)
@[go_sem] theorem row_alloc_past (w : World) (o : Obj) (n : Nat) (hn : n < w.heap.size) : row (w.alloc o) n = row w n := row_heap (Below.heap_alloc w o n hn)
@[go_sem] theorem row_drewN (w : World) (n b : Nat) : row (w.drewN n) b = row w b := row_heap rfl
@[go_sem] theorem row_drew (w : World) (b : Nat) : row w.drew b = row w b := row_heap rfl
@[go_sem] theorem setRow_drewN (w : World) (n b : Nat) (c : Array Value) : (w.drewN n).setRow b c = (w.setRow b c).drewN n := rfl
@[go_sem] theorem setRow_drew (w : World) (b : Nat) (c : Array Value) : w.drew.setRow b c = (w.setRow b c).drew := rfl
@[go_sem] theorem setRow_alloc_at (w : World) (c c' : Array Value) (t : TypeId) (n : Nat) (hn : n = w.heap.size) : (w.alloc (.cells c t)).setRow n c' = w.alloc (.cells c' t) := by
  subst hn; exact World.setRow_alloc_new w c c' t
@[go_sem] theorem setRow_alloc_past (w : World) (o : Obj) (c' : Array Value) (n : Nat) (hn : n < w.heap.size) : (w.alloc o).setRow n c' = (w.setRow n c').alloc o := by
  simp only [World.setRow, World.alloc]
  congr 1
  apply Array.ext_getElem?
  intro k
  simp only [Array.getElem?_modify, Array.getElem?_push, Array.size_modify]
  by_cases hk : k = w.heap.size
  · subst hk
    simp [Nat.ne_of_lt hn]
  · simp [hk]

/- opaque worlds -/
theorem row_setRow {w : World} {b : Nat} {c : Array Value} (h : row w b = some c) (c' : Array Value) : row (w.setRow b c') b = some c' := by
  obtain ⟨t, ht⟩ := row_is h
  exact row_of (setRow_heap w b c c' t _ ht)
theorem row_setRow_other (w : World) (g b : Nat) (c' : Array Value) (h : b ≠ g) : row (w.setRow g c') b = row w b := row_heap (setRow_other w g b c' h)
theorem setCell_row {w : World} {b : Nat} {c : Array Value} (h : row w b = some c) (i : Nat) (v : Value) : w.setCell ⟨b, i, none⟩ v = w.setRow b (c.setIfInBounds i v) := by
  obtain ⟨t, ht⟩ := row_is h
  exact setCell_eq_setRow w b i c t _ v ht
theorem row_setCell {w : World} {b n : Nat} {f : Nat → BitVec 8} (h : row w b = some (ba n f)) (i : Nat) (v : BitVec 8) : row (w.setCell ⟨b, i, none⟩ (.int .u8 (I v))) b = some (ba n (upd f i v)) := by
  rw [setCell_row h, row_setRow h, ba_set]
theorem row_setCell_other (w : World) (a : Addr) (b : Nat) (v : Value) (h : b ≠ a.block) : row (w.setCell a v) b = row w b := row_heap (Below.heap_setCell w a v b h)
theorem row_alloc {w : World} {b : Nat} {c : Array Value} (h : row w b = some c) (o : Obj) : row (w.alloc o) b = some c := by rw [row_alloc_past _ _ _ (row_lt h), h]
theorem row_below {B b : Nat} {w w' : World} (h : Below B w w') (hb : b < B) : row w' b = row w b := row_heap (h.block b hb)
theorem below_setRow {B b : Nat} {a w : World} (h : Below B a w) (hb : B ≤ b) (c : Array Value) : Below B a (w.setRow b c) :=
  h.trans ⟨rfl, rfl, rfl, by simp, fun k hk => setRow_other w b k c (by omega)⟩
theorem below_drewN {B : Nat} {a w : World} (h : Below B a w) (n : Nat) : Below B a (w.drewN n) := h.trans ⟨rfl, rfl, rfl, Nat.le_refl _, fun _ _ => rfl⟩

/- behind a call that leaves what there was -/
theorem carry {X w' : World} (h : Below X.heap.size X w') {b : Nat} {c : Array Value} (hr : row X b = some c) : row w' b = some c := by rw [row_below h (row_lt hr), hr]
theorem onto {B : Nat} {a X w' : World} (h0 : Below B a X) (hB : B ≤ X.heap.size) (h : Below X.heap.size X w') : Below B a w' := h0.trans (h.mono hB)
/- whole arrays, at whatever place of a block -/
theorem add_mid (b o j : Nat) : (⟨b, o, none⟩ : Addr).add j = ⟨b, o + j, none⟩ := by unfold Addr.add; split <;> simp_all
theorem setRow_self {w : World} {b : Nat} {c : Array Value} (h : row w b = some c) : w.setRow b c = w := by
  obtain ⟨t, ht⟩ := row_is h
  have hb := row_lt h
  have hv : w.heap[b] = .cells c t (0, 0) := (Array.getElem?_eq_some_iff.1 ht).2
  unfold World.setRow
  cases w with
  | mk heap tape drawn os output =>
    congr 1
    apply Array.ext
    · simp
    · intro k h1 h2
      simp only [Array.getElem_modify]
      split
      · rename_i hk; subst hk; simp at hv; simp [hv]
      · rfl
theorem run_stores {P : Program} (b o : Nat) : ∀ (vs : List Value) (i : Nat) (cur : Array Value) (w : World), row w b = some cur → o + i + vs.length ≤ cur.size → (∀ v ∈ vs, v.oneCell' = true) →
    (storeCells ⟨b, o, none⟩ vs i).run P w = .ok () (w.setRow b (spl cur (o + i) vs)) := by
  intro vs
  induction vs with
  | nil => intro i cur w h _ _; simp only [spl, setRow_self h]; rfl
  | cons v r ih =>
    intro i cur w h hl h1
    simp only [List.length_cons] at hl
    have hcell : w.cell? ⟨b, o + i, none⟩ = some cur[o + i] := by rw [cell_row h]; exact Array.getElem?_eq_getElem (by omega)
    have hst : (store ((⟨b, o, none⟩ : Addr).add i) v).run P w = .ok () (w.setRow b (cur.setIfInBounds (o + i) v)) := by
      rw [add_mid, run_store P w _ v _ (h1 v (by simp)), hcell]
      simp [froz_row h, setCell_row h]
    have e := ih (i + 1) (cur.setIfInBounds (o + i) v) (w.setRow b (cur.setIfInBounds (o + i) v)) (row_setRow h _) (by simp; omega) (fun x hx => h1 x (by simp [hx]))
    simp only [storeCells, Sem.run_bind, hst, Result.andThen_ok]
    rw [show o + (i + 1) = o + i + 1 from rfl] at e
    rw [e, setRow_setRow]
    rfl
/- as rules of the walk: a load or store of a whole array keeps its name till its operands are known; what it comes to is reckoned from what the block holds -/
def ldA (t : TypeId) (p : Value) : Sem Value := Instr.loadAt t p
def stA (t : TypeId) (p v : Value) : Sem Unit := Instr.storeAt t p v
/-- each is one cell -/
def Ones (c : Array Value) : Prop := c.all (·.oneCell') = true
instance (c : Array Value) : Decidable (Ones c) := inferInstanceAs (Decidable (_ = true))
@[go_sem] theorem ones_ba (n : Nat) (f : Nat → BitVec 8) : Ones (ba n f) := ba_one n f
@[irreducible] def ldR (P : Program) (t m : Nat) (w : World) (b o : Nat) : Option (Array Value) → Result Value
  | some c => if o + m ≤ c.size then .ok (.agg (c.extract o (o + m))) w else (ldA t (.pointer (some ⟨b, o, none⟩))).run P w
  | none => (ldA t (.pointer (some ⟨b, o, none⟩))).run P w
@[irreducible] def stR (P : Program) (t m : Nat) (w : World) (b o : Nat) (v : Value) : Option (Array Value) → Result Unit
  | some c => if o + m ≤ c.size ∧ v.cells.size = m ∧ Ones v.cells then .ok () (w.setRow b (spl c o v.cells.toList)) else (stA t (.pointer (some ⟨b, o, none⟩)) v).run P w
  | none => (stA t (.pointer (some ⟨b, o, none⟩)) v).run P w
@[go_sem] theorem ldR_ba (P : Program) (t m n : Nat) (w : World) (b o : Nat) (f : Nat → BitVec 8) (h : o + m ≤ n) : ldR P t m w b o (some (ba n f)) = .ok (.agg (ba m (offF f o))) w := by
  unfold ldR
  simp only [ba_size, if_pos h]
  rw [ba_ex n o (o + m) f h, show o + m - o = m by omega]
@[go_sem] theorem stR_ba (P : Program) (t m n : Nat) (w : World) (b o : Nat) (f g : Nat → BitVec 8) (h : o + m ≤ n) : stR P t m w b o (.agg (ba m g)) (some (ba n f)) = .ok () (w.setRow b (ba n (putF f o m g))) := by
  have e : o + m ≤ (ba n f).size ∧ (Value.agg (ba m g)).cells.size = m ∧ Ones (Value.agg (ba m g)).cells := ⟨by rw [ba_size]; exact h, ba_size m g, ones_ba m g⟩
  unfold stR
  simp only [if_pos e]
  exact congrArg (fun c => Result.ok () (w.setRow b c)) (spl_ba n o m f g h)
/-- a whole block over a whole block -/
@[go_sem] theorem ba_put_all (n : Nat) (f g : Nat → BitVec 8) : ba n (putF f 0 n g) = ba n g := ba_ext fun k hk => by simp [putF, hk]
theorem ld_rule {P : Program} (t n : Nat) (e : TypeId) (hu : P.underlying t = some (.array n e)) (m : Nat) (hi : (P.info? t).map (·.size) = some m) (w : World) (b o : Nat) :
    (ldA t (.pointer (some ⟨b, o, none⟩))).run P w = ldR P t m w b o (row w b) := by
  unfold ldR
  split
  · rename_i c hr
    split
    · rename_i hc
      obtain ⟨t', ht⟩ := row_is hr
      have hx := run_loadAt_mid (P := P) w b o t (c.extract o (o + m)).toList _ (World.rangeAt_of_block ht o m) hu rfl (by rw [hi]; simp; omega)
      rw [Array.toArray_toList] at hx
      exact hx
    · rfl
  · rfl
theorem st_rule {P : Program} (t m : Nat) (hi : (P.info? t).map (·.size) = some m) (w : World) (b o : Nat) (c' : Array Value) :
    (stA t (.pointer (some ⟨b, o, none⟩)) (.agg c')).run P w = stR P t m w b o (.agg c') (row w b) := by
  unfold stR
  split
  · rename_i c hr
    split
    · rename_i hc
      obtain ⟨h1, h2, h3⟩ := hc
      have hx := run_stores (P := P) b o c'.toList 0 c w hr (by have : c'.size = m := h2; simp; omega) (fun v hv => (Array.all_eq_true_iff_forall_mem.1 h3) v (by simpa [Value.cells] using hv))
      cases hq : P.info? t with
      | none => rw [hq] at hi; cases hi
      | some i =>
        have hs : c'.size = i.size := by rw [hq] at hi; have : c'.size = m := h2; have h4 : i.size = m := Option.some.inj hi; omega
        simp only [Nat.add_zero] at hx
        simp [stA, Instr.storeAt, Instr.sureAddr, storeVar, sizeOf, typeInfo, hq, Value.cells, hs, hx]
    · rfl
  · rfl
theorem zero_rule {P : Program} (t : TypeId) (v : Value) (h : (P.info? t).map (·.zero) = some (some v)) (w : World) : (zeroValue t).run P w = .ok v w := by
  cases hq : P.info? t with
  | none => rw [hq] at h; cases h
  | some i =>
    rw [hq] at h
    have h' : i.zero = some v := Option.some.inj h
    simp [zeroValue, typeInfo, hq, h']
/- the result's cell -/
theorem res_row {P : Program} {fn : Func} {p : Tmp} {ty : TypeId} (h : fn.results = #[.cell p ty]) (tmps : Array Value) (w : World) (b n : Nat) (e : TypeId) (c : Array Value)
    (hp : tmps.getD p undef = .pointer (some ⟨b, 0, none⟩)) (hr : row w b = some c) (hu : P.underlying ty = some (.array n e)) (hi : (P.info? ty).map (·.size) = some c.size) :
    (results fn tmps).run P w = .ok (.agg c) w := by
  obtain ⟨t', ht⟩ := row_is hr
  exact results_cell_row h tmps w b t' c (0, 0) _ hp ht hu rfl hi
attribute [go_sem] ba_size ba_elem upto_at offF_zero ba_ne

/-- an array's literal, by the value that it has -/
theorem wpl_build {P : Program} {ops : Array Oper} {rest : List Oper} {o : Oper} {a : Act} {w : World} {Q : Exit → Act → World → Prop} (hg : o.guard = none) (t : TypeId) (parts : Array (Nat × Operand)) (ho : o.op = .build t parts)
    (lits : Array (Nat × Value)) (v : Value) (hr : ∀ w, (Instr.build t lits).run P w = .ok v w) (hl : (parts.map fun (i, x) => (i, a.eval x)) = lits) (h : wpList P ops Q rest (a.put o.dst v) w) : wpList P ops Q (o :: rest) a w := by
  refine wpList_plain hg fun K hK => ?_
  unfold Oper.wp execOp
  simp only [ho, hl, Sem.run_bind, hr, Result.andThen_ok, Sem.run_pure]
  exact hK _ _ h
end Go.Proofs.Ytokhldihfbaeoaa.Oct
