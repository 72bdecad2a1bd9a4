import Derived.Test.YteffjpdcghlnlaaGreatDoorZbMat
import Derived.Test.YteffjpdcghlnlaaGreatDoorZbKrAll
import Derived.Deep.AppendSrc
import Derived.Test.YteffjpdcghlnlaaGreatDoorZbWiAll
import Derived.Maps.OwnSet
import Derived.Maps.Ext
import Derived.Lib.SlKeysI
import Derived.Shelf.SlIterI.Nil
import Derived.Shelf.SortM.Plain
import Derived.Shelf.SortM.SortNone
import Derived.Shelf.SlMaps.Clone
set_option linter.unusedVariables false
set_option linter.unusedSimpArgs false
set_option maxHeartbeats 8000000
set_option maxRecDepth 20000
namespace Go.Proofs.YteffjpdcghlnlaaGreatDoor.Oct
open Go.ChangeShapes Go.WideShapes Go.ChangeAt Go.RowKit
theorem setCells_row {b : Nat} : ∀ (vs : List Value) (o : Nat) (cur : Array Value) (w : World), row w b = some cur → w.setCells b o vs = w.setRow b (spl cur o vs)
 | [], o, cur, w, h => by simp only [World.setCells, spl]; rw [yD h]
 | v :: r, o, cur, w, h => by
  simp only [World.setCells, spl]
  rw [zJ h, setCells_row r (o + 1) _ _ (zC h _), setRow_setRow]
theorem run_fromJ {P : Program} {t u : TypeId} {m : Nat} (ht : P.underlying t = some (.slice u)) (hz : (P.info? u).map (·.size) = some m) (A : Option Addr) (n c k : Nat) (hk : k ≤ n) (w : World) :
  (Instr.slice t (.slice A n c) (some (.int .i64 (k : Int))) none none).run P w = .ok (.slice (if c = k then A else A.map (·.add (k * m))) (n - k) (c - k)) w := by
 have he : P.elem t = u := by simp [Program.elem, ht]
 have hs : (sizeOf u).run P w = .ok m w := by
  cases hq : P.info? u with
  | none => rw [hq] at hz; cases hz
  | some i =>
   rw [hq] at hz
   have h : i.size = m := Option.some.inj hz
   simp [sizeOf, typeInfo, hq, h]
 rw [run_slice_l w t A n c (by rw [he]; exact ht) .i64 k (by omega) (by omega), he, hs, Result.andThen_ok]
 simp [sliced, Int.toNat_natCast]
theorem run_uptoJ {P : Program} {t u : TypeId} {m : Nat} (ht : P.underlying t = some (.slice u)) (hz : (P.info? u).map (·.size) = some m) (A : Option Addr) (n c k : Nat) (hk : k ≤ c) (w : World) : (Instr.slice t (.slice A n c) none (some (.int .i64 (k : Int))) none).run P w = .ok (.slice A k c) w := by
 have he : P.elem t = u := by simp [Program.elem, ht]
 have hs : (sizeOf u).run P w = .ok m w := by
  cases hq : P.info? u with
  | none => rw [hq] at hz; cases hz
  | some i =>
   rw [hq] at hz
   have h : i.size = m := Option.some.inj hz
   simp [sizeOf, typeInfo, hq, h]
 rw [run_slice_h w t A n c (by rw [he]; exact ht) .i64 k (by omega) (by omega), he, hs, Result.andThen_ok]
 by_cases h0 : c = 0
 ·subst h0; simp [sliced]
 ·simp [sliced, Int.toNat_natCast, h0]
  cases A with
  | none => rfl
  | some a => simp [Addr.add]
theorem spl_size : ∀ (vs : List Value) (o : Nat) (c : Array Value), (spl c o vs).size = c.size
 | [], _, _ => rfl
 | v :: r, o, c => by simp only [spl]; rw [spl_size r]; simp
structure ElAt {α : Type} (k : Nat) (E : Mk → World → α → List Value → Prop) (T : Mk) (w : World) (t : Nat) (A : Option Addr) (c : Nat) (l : List α) : Prop where
 le : l.length ≤ c
 big : c ≤ maxLen
 at_ : 0 < c → ∃ g o cur, A = some ⟨g, o, none⟩ ∧ row w g = some cur ∧ o + c * k ≤ cur.size ∧ T g = t ∧ ∀ i (h : i < l.length), ∃ vs, E T w l[i] vs ∧ ∀ j, j < k → cur[o + i * k + j]? = vs[j]?
section
variable {α : Type} {k : Nat} {E : Mk → World → α → List Value → Prop} (hE : ElOk k E) {T T' T2 : Mk} {H : Nat → Prop} {w w' : World} {t : Nat} {A : Option Addr} {c : Nat} {l : List α}
theorem ElAt.nil (T : Mk) (w : World) (t : Nat) : ElAt k E T w t none 0 ([] : List α) := ⟨Nat.le_refl _, Nat.zero_le _, fun h => absurd h (by omega)⟩
include hE
theorem ElAt.fr (h : ElAt k E T w t A c l) (hf : Fr T T' H w w') (ht : ¬ H t) (h0 : ¬ H 0) : ElAt k E T' w' t A c l :=
 ⟨h.le, h.big, fun hc => by
  obtain ⟨g, o, cur, e, hr, hs, hT, hel⟩ := h.at_ hc
  refine ⟨g, o, cur, e, hf.rowAt hr (by rw [hT]; exact ht), hs, by rw [hf.tag g (zL hr)]; exact hT, fun i hi => ?_⟩
  obtain ⟨vs, h1, h2⟩ := hel i hi
  exact ⟨vs, hE.fr h1 hf h0, h2⟩⟩
omit hE in
theorem Fr.painted {T : Mk} {t : Nat} (h : Fr T T H w w') (n : Nat) (hn : w.heap.size ≤ n) : Fr T (Oct.paint T n t) H w w' := ⟨h.os, h.tape, h.output, h.size, h.keep, fun k hk => zH (by omega)⟩
theorem run_appAt {P : Program} {ty u : TypeId} {tt : TypeId} {z : Value} {bytes : Nat} (ht : P.underlying tt = some (.slice u)) (hi : (P.info? u).map (fun i => (i.zero, i.size, i.bytes)) = some (some z, k, bytes)) (hz : z.cells.size = k) (hk : 0 < k) (hb : bytes ≤ 1000)
  (h : ElAt k E T w t A c l) {p : Nat} {x : α} {vs : List Value} (hp : row w p = some vs.toArray) (hx : E T w x vs) (hl : l.length ≤ 1000000000) (h0 : 0 ≠ t) :
  ∃ A' c' w', (Builtin.append_ #[tt, tt] ty #[.slice A l.length c, .slice (some ⟨p, 0, none⟩) 1 1]).run P w = .ok (.slice A' (l.length + 1) c') w' ∧ ElAt k E (paint T w.heap.size t) w' t A' c' (l ++ [x]) ∧ Fr T (paint T w.heap.size t) (fun c => c = t) w w' := by
 cases hq : P.info? u with
 | none => rw [hq] at hi; cases hi
 | some i =>
  rw [hq] at hi
  have e0 : (i.zero, i.size, i.bytes) = (some z, k, bytes) := Option.some.inj hi
  simp only [Prod.mk.injEq] at e0
  obtain ⟨z0, z1, z2⟩ := e0
  have hvl := hE.len hx
  have hS : Src P i.size tt (.slice (some ⟨p, 0, none⟩) 1 1) 1 vs w := Src.ofSlice w ht ⟨p, 0, none⟩ 1 1 vs (by rw [hvl, z1]; omega) (fun j y hy => by rw [yI, Nat.zero_add, zG hp, List.getElem?_toArray]; exact hy) (hE.one hx)
  by_cases hroom : l.length + 1 ≤ c
  ·obtain ⟨g, o, cur, rfl, hr, hsz, hT, hel⟩ := h.at_ (by omega)
   have hm : (l.length + 1) * k ≤ c * k := Nat.mul_le_mul_right k hroom
   rw [Nat.add_mul, Nat.one_mul] at hm
   have hrun := run_append_room_src (P := P) w tt tt ty u i ht hq g o l.length c (.slice (some ⟨p, 0, none⟩) 1 1) 1 vs hS hroom
    (fun j hj => by rw [zG hr, z1]; simp only [Option.isSome_iff_exists]; exact ⟨_, Array.getElem?_eq_getElem (by omega)⟩) (fun j hj => zN hr _)
   rw [z1, setCells_row vs _ cur w hr] at hrun
   have hF : Fr T T (fun c => c = t) w (w.setRow g (spl cur (o + l.length * k) vs)) := Fr.row hT _
   have hF2 := hF.painted (t := t) w.heap.size (Nat.le_refl _)
   refine ⟨_, _, _, hrun, ⟨by rw [List.length_append]; exact hroom, h.big, fun _ => ⟨g, o, _, rfl, zC hr _, by rw [spl_size]; exact hsz, by rw [zH (zL hr)]; exact hT, fun i hi => ?_⟩⟩, hF2⟩
   by_cases hlt : i < l.length
   ·obtain ⟨ws, h4, h5⟩ := hel i hlt
    refine ⟨ws, by rw [List.getElem_append_left hlt]; exact hE.fr h4 hF2 (fun e => h0 e), fun j hj => ?_⟩
    have hm2 : (i + 1) * k ≤ l.length * k := Nat.mul_le_mul_right k hlt
    rw [Nat.add_mul, Nat.one_mul] at hm2
    rw [yY _ _ _ _ (by omega), if_neg (by omega)]
    exact h5 j hj
   ·have hi' : i = l.length := by simp at hi; omega
    subst hi'
    refine ⟨vs, by rw [List.getElem_append_right (Nat.le_refl _)]; simpa using hE.fr hx hF2 (fun e => h0 e), fun j hj => ?_⟩
    rw [yY _ _ _ _ (by omega), if_pos ⟨by omega, by omega⟩, show o + l.length * k + j - (o + l.length * k) = j by omega]
  ·have hlc : c = l.length := by have := h.le; omega
   obtain ⟨olds, ho1, ho2, ho3⟩ : ∃ olds : List Value, olds.length = l.length * k ∧ (Builtin.firstCells i.size l.length (.slice A l.length c)).run P w.drew = .ok olds.toArray w.drew ∧ ∀ i (h : i < l.length), ∃ vs, E T w l[i] vs ∧ ∀ j, j < k → olds[i * k + j]? = vs[j]? := by
    by_cases hc0 : 0 < c
    ·obtain ⟨g, o, cur, rfl, hr, hsz, hT, hel⟩ := h.at_ hc0
     have hlen : ((cur.toList.drop o).take (l.length * k)).length = l.length * k := by
      have hq : cur.toList.length = cur.size := Array.length_toList ..
      have hsz' : o + l.length * k ≤ cur.size := by rw [← hlc]; exact hsz
      rw [List.length_take, List.length_drop]
      omega
     refine ⟨(cur.toList.drop o).take (l.length * k), hlen, ?_, fun i hi => ?_⟩
     ·refine run_firstCells_some (P := P) w.drew i.size l.length ⟨g, o, none⟩ l.length c _ (by rw [hlen, z1]) (fun j y hy => ?_)
      rw [List.getElem?_take] at hy
      split at hy
      ·rw [yI]
       show w.cell? ⟨g, o + j, none⟩ = _
       rw [zG hr, ← hy, List.getElem?_drop, Array.getElem?_toList]
      ·cases hy
     ·obtain ⟨ws, h4, h5⟩ := hel i hi
      refine ⟨ws, h4, fun j hj => ?_⟩
      have hm2 : (i + 1) * k ≤ l.length * k := Nat.mul_le_mul_right k hi
      rw [Nat.add_mul, Nat.one_mul] at hm2
      rw [List.getElem?_take, if_pos (by omega), List.getElem?_drop, Array.getElem?_toList, ← h5 j hj]
      congr 1
      omega
    ·have hl0 : l.length = 0 := by omega
     refine ⟨[], by simp [hl0], ?_, fun i hi => by omega⟩
     rw [hl0]
     cases A with
     | none => exact run_firstCells_none w.drew i.size 0 0 c
     | some a => exact run_firstCells_some w.drew i.size 0 a 0 c [] (by simp) (fun j y hy => by simp at hy)
   have hcm := h.big
   have hrun := run_append_grow_src (P := P) w tt tt ty u i z ht hq z0 A l.length c olds ho2 (.slice (some ⟨p, 0, none⟩) 1 1) 1 vs hS (by omega) (by omega) (growslice_fits (by omega) (by rw [z2]; have := Nat.mul_le_mul (show l.length + 1 ≤ 1000000001 by omega) hb; omega))
   have hge := grownCap_ge w (l.length + 1) c u
   have hgm := grownCap_le_maxLen w (l.length + 1) c u (by unfold maxLen; omega)
   obtain ⟨cap, hcap⟩ : ∃ cap, cap = grownCap w (l.length + 1) c u := ⟨_, rfl⟩
   rw [← hcap] at hrun hge hgm
   have hb2 : Below w.heap.size w (w.drew.alloc (.cells ((olds ++ vs).toArray ++ Builtin.zeroCells z.cells (cap - (l.length + 1))) u)) := (Below.refl w.heap.size w).drew.alloc (Nat.le_refl _) _
   have hF2 : Fr T (paint T w.heap.size t) (fun c => c = t) w (w.drew.alloc (.cells ((olds ++ vs).toArray ++ Builtin.zeroCells z.cells (cap - (l.length + 1))) u)) := Fr.new hb2 t
   refine ⟨_, _, _, hrun, ⟨by rw [List.length_append]; exact hge, hgm, fun _ => ⟨w.heap.size, 0, _, rfl, zA w.drew _ _ _ rfl, ?_, zP (Nat.le_refl _), fun i hi => ?_⟩⟩, hF2⟩
   ·rw [Array.size_append, size_zeroCells, hz, List.size_toArray, List.length_append, ho1, hvl]
    have : cap * k = (l.length + 1) * k + (cap - (l.length + 1)) * k := by rw [← Nat.add_mul]; congr 1; omega
    rw [Nat.add_mul, Nat.one_mul] at this
    omega
   ·by_cases hlt : i < l.length
    ·obtain ⟨ws, h4, h5⟩ := ho3 i hlt
     refine ⟨ws, by rw [List.getElem_append_left hlt]; exact hE.fr h4 hF2 (fun e => h0 e), fun j hj => ?_⟩
     have hm2 : (i + 1) * k ≤ l.length * k := Nat.mul_le_mul_right k hlt
     rw [Nat.add_mul, Nat.one_mul] at hm2
     rw [Nat.zero_add, Array.getElem?_append_left (by rw [List.size_toArray, List.length_append]; omega), List.getElem?_toArray, List.getElem?_append_left (by omega)]
     exact h5 j hj
    ·have hi' : i = l.length := by simp at hi; omega
     subst hi'
     refine ⟨vs, by rw [List.getElem_append_right (Nat.le_refl _)]; simpa using hE.fr hx hF2 (fun e => h0 e), fun j hj => ?_⟩
     rw [Nat.zero_add, Array.getElem?_append_left (by rw [List.size_toArray, List.length_append]; omega), List.getElem?_toArray, List.getElem?_append_right (by omega), ho1, Nat.add_sub_cancel_left]
end
theorem wpl_appAt {α : Type} {k : Nat} {E : Mk → World → α → List Value → Prop} (hE : ElOk k E) {T : Mk} {w : World} {tg c : Nat} {A : Option Addr} {l : List α} {P : Program} {ops : Array Oper} {rest : List Oper} {o : Oper} {a : Act} {Q : Exit → Act → World → Prop} (hgd : o.guard = none) (s y : Operand) {t u : TypeId} {z : Value} {bytes : Nat}
  (ho : o.op = .call { callee := .builtin .append, args := #[s, y], argTypes := #[t, t] }) (ht : P.underlying t = some (.slice u)) (hi : (P.info? u).map (fun i => (i.zero, i.size, i.bytes)) = some (some z, k, bytes)) (hz : z.cells.size = k) (hk : 0 < k) (hb : bytes ≤ 1000)
  (hA : ElAt k E T w tg A c l) {p : Nat} {x : α} {vs : List Value} (hp : row w p = some vs.toArray) (hx : E T w x vs) (hl : l.length ≤ 1000000000) (h0 : 0 ≠ tg)
  (hv : a.eval s = .slice A l.length c) (hy : a.eval y = .slice (some ⟨p, 0, none⟩) 1 1)
  (h : ∀ A' c' w', ElAt k E (paint T w.heap.size tg) w' tg A' c' (l ++ [x]) → Fr T (paint T w.heap.size tg) (fun c => c = tg) w w' → wpList P ops Q rest (a.put o.dst (.slice A' (l.length + 1) c')) w') : wpList P ops Q (o :: rest) a w := by
 refine wpList_plain hgd fun K hK => ?_
 obtain ⟨A', c', w', a1, a2, a3⟩ := run_appAt hE (ty := o.type) ht hi hz hk hb hA hp hx hl h0
 unfold Oper.wp execOp
 simp only [ho, resolve, invoke, builtin, Sem.run_bind, Sem.run_pure, Result.andThen_ok, List.map_toArray, List.map_cons, List.map_nil, hv, hy, a1]
 exact hK _ _ (h A' c' w' a2 a3)
section
variable {α : Type} {k : Nat} {E : Mk → World → α → List Value → Prop} (hE : ElOk k E) {T T' T2 : Mk} {H : Nat → Prop} {w w' : World} {t : Nat} {A : Option Addr} {c : Nat} {l : List α}
include hE
end
def blk (A : Option Addr) (c : Nat) : List Nat := if 0 < c then A.toList.map (·.block) else []
section
variable {α : Type} {k : Nat} {E : Mk → World → α → List Value → Prop} (hE : ElOk k E) {T T' T2 : Mk} {H : Nat → Prop} {w w' : World} {t : Nat} {A : Option Addr} {c : Nat} {l : List α}
include hE
end
open Go.Maps
abbrev seV (s : Se) (D : Value) : Value := .agg #[.int .i64 s.id, .int .i64 s.q, .int .i64 s.c, .int .i64 s.n, .int .i64 s.m, D]
def seEl (T : Mk) (w : World) (s : Se) (vs : List Value) : Prop := ∃ A c, vs = [.int .i64 s.id, .int .i64 s.q, .int .i64 s.c, .int .i64 s.n, .int .i64 s.m, .slice A s.T c] ∧ RdS T w 0 A s.T c s.f
theorem xC : ElOk 6 seEl where
 len := fun {T w x vs} h => by obtain ⟨A, c, rfl, -⟩ := h; rfl
 one := fun {T w x vs} h v hv => by
  obtain ⟨A, c, rfl, -⟩ := h
  simp only [List.mem_cons, List.not_mem_nil, or_false] at hv
  rcases hv with rfl | rfl | rfl | rfl | rfl | rfl <;> rfl
 fr := fun h hf ht => by
  obtain ⟨A, c, rfl, h1⟩ := h
  exact ⟨A, c, rfl, h1.fr hf ht⟩
 re := fun h ht => by
  obtain ⟨A, c, rfl, h1⟩ := h
  exact ⟨A, c, rfl, h1.re ht⟩
def RV : Value → Option (DataW Value × List MemPlace) := fun v => some (.held v, [])
theorem seat_u : Tryz.prog.underlying 79 = some (.map 3 121) := Tryz.underlying79
theorem seat_K : Keyed Tryz.prog 3 := int_keyed Tryz.underlying3
theorem id_wf {x : Int} (h : i64B x) : (Lit.int .i64 x).wf = true := by
 simp only [Lit.wf, IntKind.min, IntKind.max, IntKind.signed, IntKind.bits, Bool.and_eq_true, decide_eq_true_eq, if_true]
 omega
theorem id_key {x : Int} (h : i64B x) : keyOf Tryz.prog 3 (.int .i64 x) = some (.int .i64 x) := keyOf_int_mk Tryz.underlying3 (id_wf h)
theorem lit_ne {x y : Int} (h : x ≠ y) : Lit.int .i64 x ≠ Lit.int .i64 y := fun e => h (by cases e; rfl)
structure MpAt (T : Mk) (w : World) (M : Nat) (l : List Se) : Prop where
 ex : ∃ D : DataW Value, w.ownsMap Tryz.prog 3 RV M (Go.Maps.size D) D ∧ (∀ id, Go.Maps.has D (.int .i64 id) = ssH l id) ∧ (∀ id s, ssG l id = some s → ∃ vs, seEl T w s vs ∧ ∀ z, D.atKey (.int .i64 id) z = .held (.agg vs.toArray)) ∧ Go.Maps.size D = l.length
theorem ownsMap_tight {P : Program} {k : TypeId} {R : Value → Option (DataW Value × List MemPlace)} {w : World} {b n : Nat} {D : DataW Value} (h : w.ownsMap P k R b n D) : w.ownsMap P k R b (Go.Maps.size D) D := by
 obtain ⟨es, clock, hb, F, hs, rfl⟩ := h
 exact ⟨es, clock, hb, F, by simp [size, length_sorted], rfl⟩
theorem ownsMap_fr {P : Program} {k : TypeId} {R : Value → Option (DataW Value × List MemPlace)} {w w' : World} {T T' : Mk} {H : Nat → Prop} {b n : Nat} {D : DataW Value} (h : w.ownsMap P k R b n D) (hf : Fr T T' H w w') (ht : ¬ H (T b)) : w'.ownsMap P k R b n D := by
 have hl := h.lt
 obtain ⟨es, clock, hb, r⟩ := h
 exact ⟨es, clock, (hf.keep b hl ht).trans hb, r⟩
section
variable {T T' T2 : Mk} {H : Nat → Prop} {w w' : World} {M t : Nat} {l : List Se} {mv : Option Nat}
theorem MpAt.lt (h : MpAt T w M l) : M < w.heap.size := by obtain ⟨D, hD, -⟩ := h.ex; exact hD.lt
theorem MpAt.fr (h : MpAt T w M l) (hf : Fr T T' H w w') (ht : ¬ H (T M)) (h0 : ¬ H 0) : MpAt T' w' M l := by
 obtain ⟨D, h1, h2, h3, h4⟩ := h.ex
 exact ⟨D, ownsMap_fr h1 hf ht, h2, fun id s hs => by obtain ⟨vs, a, b⟩ := h3 id s hs; exact ⟨vs, xC.fr a hf h0, b⟩, h4⟩
theorem MpAt.re (h : MpAt T w M l) (ht : ∀ j, T j = 0 → T2 j = 0) : MpAt T2 w M l := by
 obtain ⟨D, h1, h2, h3, h4⟩ := h.ex
 exact ⟨D, h1, h2, fun id s hs => by obtain ⟨vs, a, b⟩ := h3 id s hs; exact ⟨vs, xC.re a ht, b⟩, h4⟩
def MpV (T : Mk) (w : World) (t : Nat) (mv : Option Nat) (l : List Se) : Prop := (mv = none ∧ l = []) ∨ ∃ M, mv = some M ∧ T M = t ∧ MpAt T w M l
theorem MpV.fr (h : MpV T w t mv l) (hf : Fr T T' H w w') (ht : ¬ H t) (h0 : ¬ H 0) : MpV T' w' t mv l := by
 rcases h with h | ⟨M, rfl, hT, hM⟩
 ·exact .inl h
 ·exact .inr ⟨M, rfl, by rw [hf.tag M hM.lt]; exact hT, hM.fr hf (by rw [hT]; exact ht) h0⟩
abbrev nilS15 : Value := .slice none 0 0
theorem MpV.look (h : MpV T w t mv l) {id : Int} (hi : i64B id) (hz : (zeroValue 121).run Tryz.prog w = .ok (seV (.new 0) nilS15) w) :
  ∃ s A c, (Instr.lookup 79 (.map mv) (.int .i64 id) true).run Tryz.prog w = .ok (.tuple #[seV s (.slice A s.T c), .bool (ssH l id)]) w ∧
   (Instr.lookup 79 (.map mv) (.int .i64 id) false).run Tryz.prog w = .ok (seV s (.slice A s.T c)) w ∧ RdS T w 0 A s.T c s.f ∧ (ssG l id = some s ∨ (ssH l id = false ∧ ssG l id = none ∧ s = .new 0 ∧ A = none ∧ c = 0)) := by
 have hkey := id_key hi
 have none_ (hg : ssG l id = none) (r1 : (Instr.lookup 79 (.map mv) (.int .i64 id) true).run Tryz.prog w = .ok (.tuple #[seV (.new 0) nilS15, .bool false]) w) (r2 : (Instr.lookup 79 (.map mv) (.int .i64 id) false).run Tryz.prog w = .ok (seV (.new 0) nilS15) w) : ∃ s A c, (Instr.lookup 79 (.map mv) (.int .i64 id) true).run Tryz.prog w = .ok (.tuple #[seV s (.slice A s.T c), .bool (ssH l id)]) w ∧
   (Instr.lookup 79 (.map mv) (.int .i64 id) false).run Tryz.prog w = .ok (seV s (.slice A s.T c)) w ∧ RdS T w 0 A s.T c s.f ∧ (ssG l id = some s ∨ (ssH l id = false ∧ ssG l id = none ∧ s = .new 0 ∧ A = none ∧ c = 0)) := by
  have hh : ssH l id = false := by rw [ssH_G, hg]; rfl
  exact ⟨.new 0, none, 0, by rw [hh]; exact r1, r2, RdS.nil _ _ _ _, .inr ⟨hh, hg, rfl, rfl, rfl⟩⟩
 rcases h with ⟨rfl, rfl⟩ | ⟨M, rfl, -, hM⟩
 ·exact none_ rfl (look_nil true seat_K seat_u hz hkey) (look_nil false seat_K seat_u hz hkey)
 ·obtain ⟨D, h1, h2, h3, h4⟩ := hM.ex
  obtain ⟨v, ps, hr, hv⟩ := h1.look_ok seat_K seat_u hz (zd := .held (seV (.new 0) nilS15)) (zp := []) rfl hkey
  obtain ⟨v', ps', hr', hv'⟩ := h1.lookup seat_K seat_u hz (zd := .held (seV (.new 0) nilS15)) (zp := []) rfl hkey
  have ev : DataW.held v = D.atKey (.int .i64 id) (.held (seV (.new 0) nilS15)) := congrArg Prod.fst (Option.some.inj hv)
  have ev' : DataW.held v' = D.atKey (.int .i64 id) (.held (seV (.new 0) nilS15)) := congrArg Prod.fst (Option.some.inj hv')
  have hh := h2 id
  cases hg : ssG l id with
  | none =>
   rw [ssH_G, hg] at hh
   rw [atKey_of_not_has hh] at ev ev'
   cases ev
   cases ev'
   rw [hh] at hr
   have hn := none_ hg hr hr'
   rw [hg] at hn
   exact hn
  | some s =>
   obtain ⟨vs, hs, hat⟩ := h3 id s hg
   obtain ⟨A, c, rfl, hrd⟩ := hs
   rw [hat] at ev ev'
   cases ev
   cases ev'
   exact ⟨s, A, c, by rw [← hh]; exact hr, hr', hrd, .inl rfl⟩
theorem MpV.len (h : MpV T w t mv l) (ty : TypeId) : (Builtin.len_ #[79] ty #[.map mv]).run Tryz.prog w = .ok (.int .i64 (l.length : Int)) w := by
 rcases h with ⟨rfl, rfl⟩ | ⟨M, rfl, -, hM⟩
 ·exact len_nil seat_u ty
 ·obtain ⟨D, h1, h2, h3, h4⟩ := hM.ex
  rw [← h4]
  exact h1.len seat_u ty
theorem MpV.drop (h : MpV T w t mv l) {id : Int} (hi : i64B id) (hup : l.Pairwise fun a b => a.id < b.id) (hH : H t) (h0 : ¬ H 0) (ty : TypeId) :
  ∃ w', (Builtin.delete_ #[79, 3] ty #[.map mv, .int .i64 id]).run Tryz.prog w = .ok (.tuple #[]) w' ∧ MpV T w' t mv (ssX l id) ∧ Fr T T H w w' ∧ w'.heap.size = w.heap.size := by
 have hkey := id_key hi
 rcases h with ⟨rfl, rfl⟩ | ⟨M, rfl, hT, hM⟩
 ·exact ⟨w, drop_nil seat_K seat_u hkey ty, .inl ⟨rfl, rfl⟩, Fr.refl _ _ _, rfl⟩
 ·have hlt := hM.lt
  obtain ⟨D, h1, h2, h3, h4⟩ := hM.ex
  obtain ⟨w', r, h1', ht⟩ := h1.drop seat_K seat_u hkey ty
  have hg := ht.grown
  have hF : Fr T T H w w' := ⟨hg.os, hg.tape, hg.output, hg.size, fun k hk hn => hg.block k hk (fun e => by cases e; exact hn (by rw [hT]; exact hH)), fun _ _ => rfl⟩
  refine ⟨w', r, .inr ⟨M, rfl, hT, D.del (.int .i64 id), ownsMap_tight h1', fun j => ?_, fun j s hs => ?_, ?_⟩, hF, ?_⟩
  ·rw [ssH_X]
   by_cases e : j = id
   ·subst e; rw [has_del_same]; simp
   ·rw [has_del_other (lit_ne e), h2 j]; simp [e]
  ·obtain ⟨hm, hj⟩ := ssG_some hs
   obtain ⟨hm1, hm2⟩ := List.mem_filter.1 hm
   have e : j ≠ id := by rw [← hj]; simpa using hm2
   have hs' : ssG l j = some s := by rw [← hj]; exact ssG_mem hup hm1
   obtain ⟨vs, a, b⟩ := h3 j s hs'
   exact ⟨vs, xC.fr a hF h0, fun z => by rw [atKey_del_other (lit_ne e)]; exact b z⟩
  ·have e := size_del (k := .int .i64 id) (h1.tidy seat_K)
   rw [h2 id, h4] at e
   have e2 : (ssX l id).length + (if ssH l id then 1 else 0) = l.length := by
    clear e h4 h3 h2 h1 h1' r hM
    induction l with
    | nil => rfl
    | cons a r ih =>
     obtain ⟨p1, p2⟩ := List.pairwise_cons.1 hup
     have ih := ih p2
     unfold ssX ssH at ih ⊢
     rw [List.filter_cons, List.any_cons]
     by_cases e : a.id = id
     ·have hn : (r.any fun s => s.id == id) = false := by
       rw [← Bool.not_eq_true, List.any_eq_true]
       rintro ⟨s, hs, hi⟩
       have := p1 s hs
       have : s.id = id := by simpa using hi
       omega
      rw [hn] at ih
      simp [e] at ih ⊢
      omega
     ·simp [e] at ih ⊢
      omega
   omega
  ·obtain ⟨es, ck, es', ck', _, rfl⟩ := ht; simp [Go.ChangeMaps.setBlock]
theorem MpAt.put (h : MpAt T w M l) {x : Se} {A : Option Addr} {c : Nat} (hi : i64B x.id) (hx : RdS T w 0 A x.T c x.f) (hT : H (T M)) (h0 : ¬ H 0) (hn : l.length < 1000) {l' : List Se} (hH : ∀ j, ssH l' j = (ssH l j || x.id == j)) (hG : ∀ j s, ssG l' j = some s → (j = x.id ∧ s = x) ∨ (j ≠ x.id ∧ ssG l j = some s)) (hl : l'.length = if ssH l x.id then l.length else l.length + 1) :
  ∃ w', (Instr.mapUpdate 79 (.map (some M)) (.int .i64 x.id) (seV x (.slice A x.T c))).run Tryz.prog w = .ok () w' ∧ MpAt T w' M l' ∧ Fr T T H w w' ∧ w'.heap.size = w.heap.size := by
 have hkey := id_key hi
 have hlt := h.lt
 obtain ⟨D, h1, h2, h3, h4⟩ := h.ex
 obtain ⟨w', r, h1', ht⟩ := h1.store seat_K seat_u (by unfold maxLen; omega) hkey (d := .held (seV x (.slice A x.T c))) (ps := []) rfl
 have hg := ht.grown
 have hF : Fr T T H w w' := ⟨hg.os, hg.tape, hg.output, hg.size, fun k hk hn => hg.block k hk (fun e => by cases e; exact hn hT), fun _ _ => rfl⟩
 have hk : WideAt.IsKeyLit (Lit.int .i64 x.id) := trivial
 refine ⟨w', r, ⟨D.put (.int .i64 x.id) (.held (seV x (.slice A x.T c))), ownsMap_tight h1', fun j => ?_, fun j s hs => ?_, ?_⟩, hF, ?_⟩
 ·rw [hH]
  by_cases e : j = x.id
  ·subst e; rw [has_put_same h1.isMap hk]; simp
  ·rw [has_put_other (lit_ne e), h2 j]
   have : (x.id == j) = false := by simp; exact fun e' => e e'.symm
   rw [this, Bool.or_false]
 ·rcases hG j s hs with ⟨rfl, rfl⟩ | ⟨e, hs'⟩
  ·exact ⟨_, xC.fr ⟨A, c, rfl, hx⟩ hF h0, fun z => atKey_put_same h1.isMap hk _ z⟩
  ·obtain ⟨vs, a, b⟩ := h3 j s hs'
   exact ⟨vs, xC.fr a hF h0, fun z => by rw [atKey_put_other (lit_ne e)]; exact b z⟩
 ·rw [size_put (h1.tidy seat_K), h2 x.id, h4, hl]
 ·obtain ⟨es, ck, es', ck', _, rfl⟩ := ht; simp [Go.ChangeMaps.setBlock]
theorem MpAt.made (T : Mk) (w : World) : MpAt T (w.alloc (.map #[] 0)) w.heap.size [] :=
 ⟨.map [], World.ownsMap_made _ _ _ _, fun id => rfl, fun id s hs => (by cases hs), rfl⟩
end
theorem MpAt.keys {T : Mk} {w : World} {M : Nat} {l : List Se} (h : MpAt T w M l) (hup : l.Pairwise fun a b => a.id < b.id) :
  ∃ D : DataW Value, w.ownsMap Tryz.prog 3 RV M (Go.Maps.size D) D ∧ Go.Maps.size D = l.length ∧ ∀ ss : List Int, ss.Perm (intKeys D) → ss.length = l.length ∧ ss.mergeSort leI = l.map Se.id := by
 obtain ⟨D, h1, h2, h3, h4⟩ := h.ex
 refine ⟨D, h1, h4, ?_⟩
 obtain ⟨es, hD, hpw, _⟩ := h1.entries seat_K
 obtain ⟨es', hD', hko⟩ := h1.keysOf
 obtain rfl : es = es' := by rw [hD] at hD'; simpa using hD'
 have h1' : (l.map Se.id).Pairwise (· < ·) := List.pairwise_map.2 hup
 have hp : (l.map Se.id).Perm (intKeys D) := by
  rw [hD]
  refine perm_intKeys hpw (fun p hp => by obtain ⟨v, hv⟩ := hko p hp; obtain ⟨x, _, hx, _⟩ := Maps.keyOf_i64 Tryz.underlying3 hv; exact ⟨x, hx⟩) (h1'.imp fun h => by omega) fun x => ?_
  rw [← hD, h2 x]
  unfold ssH
  rw [List.mem_map, List.any_eq_true]
  simp
 intro ss hss
 refine ⟨by rw [hss.length_eq, ← hp.length_eq, List.length_map], ?_⟩
 rw [mergeSort_of_perm_i (hss.trans hp.symm)]
 exact List.mergeSort_of_pairwise (h1'.imp fun h => by simp [leI]; omega)
end Go.Proofs.YteffjpdcghlnlaaGreatDoor.Oct
namespace Go.Proofs
open Go.Shelf
def Tryz.keysL_ren : Go.Shelf.Ren := ⟨fun | 7 => 151 | 10 => 193 | n => n, fun | 23 => 79 | 26 => 3 | 3 => 121 | 28 => 227 | 0 => 0 | 27 => 226 | 33 => 206 | 4 => 4 | n => n, fun | n => n⟩
theorem Tryz.keysL : Go.Proofs.SlLaysZI.n7 Tryz.prog Tryz.keysL_ren := {
 mixed := by kernel_rfl,
 f7 := ⟨Tryz.f151.name, by decide, Tryz.func151.trans (congrArg some (by kernel_rfl))⟩,
 f10 := ⟨Tryz.f193.name, by decide, Tryz.func193.trans (congrArg some (by kernel_rfl))⟩,
 t0 := Tryz.underlying0,
 a0 := Tryz.isAgg0,
 z0 := Tryz.sizeOf0,
 v0 := Tryz.zeroValue0,
 t4 := Tryz.underlying4,
 a4 := Tryz.isAgg4,
 z4 := Tryz.sizeOf4,
 v4 := Tryz.zeroValue4,
 t23 := Tryz.underlying79,
 a23 := Tryz.isAgg79,
 z23 := Tryz.sizeOf79,
 v23 := Tryz.zeroValue79,
 t26 := Tryz.underlying3,
 a26 := Tryz.isAgg3,
 z26 := Tryz.sizeOf3,
 v26 := Tryz.zeroValue3,
 t27 := Tryz.underlying226,
 a27 := Tryz.isAgg226,
 z27 := Tryz.sizeOf226,
 v27 := Tryz.zeroValue226,
 t28 := Tryz.underlying227,
 a28 := Tryz.isAgg227,
 z28 := Tryz.sizeOf227,
 v28 := Tryz.zeroValue227,
 t33 := Tryz.underlying206,
 a33 := Tryz.isAgg206,
 z33 := Tryz.sizeOf206,
 v33 := Tryz.zeroValue206 }
def Tryz.sortedL_ren : Go.Shelf.Ren := ⟨fun | 6 => 150 | 8 => 191 | 9 => 192 | 11 => 233 | 13 => 235 | 12 => 234 | 23 => 267 | 24 => 268 | 14 => 258 | 15 => 259 | 16 => 260 | 17 => 261 | 18 => 262 | 19 => 263 | 20 => 264 | 21 => 265 | 22 => 266 | 25 => 280 | 26 => 281 | 27 => 282 | 28 => 283 | 29 => 284 | 30 => 285 | 31 => 299 | n => n, fun | 26 => 3 | 28 => 227 | 24 => 224 | 0 => 0 | 3 => 3 | 37 => 245 | 48 => 135 | 50 => 253 | 4 => 4 | 40 => 318 | 39 => 317 | 45 => 323 | 5 => 5 | 9 => 9 | 51 => 335 | 55 => 239 | 57 => 351 | 58 => 352 | 33 => 206 | n => n, fun | n => n⟩
theorem Tryz.sortedL : Go.Proofs.SlLaysZI.n6 Tryz.prog Tryz.sortedL_ren := {
 mixed := by kernel_rfl,
 f6 := ⟨Tryz.f150.name, by decide, Tryz.func150.trans (congrArg some (by kernel_rfl))⟩,
 f8 := ⟨Tryz.f191.name, by decide, Tryz.func191.trans (congrArg some (by kernel_rfl))⟩,
 f11 := ⟨Tryz.f233.name, by decide, Tryz.func233.trans (congrArg some (by kernel_rfl))⟩,
 t0 := Tryz.underlying0,
 a0 := Tryz.isAgg0,
 z0 := Tryz.sizeOf0,
 v0 := Tryz.zeroValue0,
 t24 := Tryz.underlying224,
 a24 := Tryz.isAgg224,
 z24 := Tryz.sizeOf224,
 v24 := Tryz.zeroValue224,
 t26 := Tryz.underlying3,
 a26 := Tryz.isAgg3,
 z26 := Tryz.sizeOf3,
 v26 := Tryz.zeroValue3,
 t28 := Tryz.underlying227,
 a28 := Tryz.isAgg227,
 z28 := Tryz.sizeOf227,
 v28 := Tryz.zeroValue227,
 i26 := by kernel_rfl }
def Tryz.sortL_ren : Go.Shelf.Ren := ⟨fun | 5 => 192 | 8 => 235 | 7 => 234 | 19 => 267 | 20 => 268 | 10 => 258 | 11 => 259 | 12 => 260 | 13 => 261 | 14 => 262 | 15 => 263 | 16 => 264 | 17 => 265 | 18 => 266 | 30 => 280 | 31 => 281 | 32 => 282 | 33 => 283 | 34 => 284 | 35 => 285 | 40 => 299 | n => n, fun | 23 => 224 | 25 => 3 | 3 => 3 | 32 => 245 | 22 => 224 | 0 => 0 | 44 => 135 | 46 => 253 | 4 => 4 | 36 => 318 | 35 => 317 | 41 => 323 | 5 => 5 | 9 => 9 | 53 => 335 | 57 => 239 | 63 => 351 | 64 => 352 | n => n, fun | n => n⟩
theorem Tryz.sortL : Go.Proofs.SlLaysM.n5 Tryz.prog Tryz.sortL_ren := {
 mixed := by kernel_rfl,
 f5 := ⟨Tryz.f192.name, by decide, Tryz.func192.trans (congrArg some (by kernel_rfl))⟩,
 f7 := ⟨Tryz.f234.name, by decide, Tryz.func234.trans (congrArg some (by kernel_rfl))⟩,
 f8 := Tryz.func235.trans (congrArg some (by kernel_rfl)),
 f10 := ⟨Tryz.f258.name, by decide, Tryz.func258.trans (congrArg some (by kernel_rfl))⟩,
 f11 := ⟨Tryz.f259.name, by decide, Tryz.func259.trans (congrArg some (by kernel_rfl))⟩,
 f12 := ⟨Tryz.f260.name, by decide, Tryz.func260.trans (congrArg some (by kernel_rfl))⟩,
 f13 := ⟨Tryz.f261.name, by decide, Tryz.func261.trans (congrArg some (by kernel_rfl))⟩,
 f14 := ⟨Tryz.f262.name, by decide, Tryz.func262.trans (congrArg some (by kernel_rfl))⟩,
 f15 := ⟨Tryz.f263.name, by decide, Tryz.func263.trans (congrArg some (by kernel_rfl))⟩,
 f16 := ⟨Tryz.f264.name, by decide, Tryz.func264.trans (congrArg some (by kernel_rfl))⟩,
 f17 := ⟨Tryz.f265.name, by decide, Tryz.func265.trans (congrArg some (by kernel_rfl))⟩,
 f18 := ⟨Tryz.f266.name, by decide, Tryz.func266.trans (congrArg some (by kernel_rfl))⟩,
 f19 := Tryz.func267.trans (congrArg some (by kernel_rfl)),
 f20 := Tryz.func268.trans (congrArg some (by kernel_rfl)),
 f30 := ⟨Tryz.f280.name, by decide, Tryz.func280.trans (congrArg some (by kernel_rfl))⟩,
 f31 := Tryz.func281.trans (congrArg some (by kernel_rfl)),
 f32 := Tryz.func282.trans (congrArg some (by kernel_rfl)),
 f33 := ⟨Tryz.f283.name, by decide, Tryz.func283.trans (congrArg some (by kernel_rfl))⟩,
 f34 := ⟨Tryz.f284.name, by decide, Tryz.func284.trans (congrArg some (by kernel_rfl))⟩,
 f35 := ⟨Tryz.f285.name, by decide, Tryz.func285.trans (congrArg some (by kernel_rfl))⟩,
 f40 := ⟨Tryz.f299.name, by decide, Tryz.func299.trans (congrArg some (by kernel_rfl))⟩,
 t0 := Tryz.underlying0,
 a0 := Tryz.isAgg0,
 z0 := Tryz.sizeOf0,
 v0 := Tryz.zeroValue0,
 t3 := Tryz.underlying3,
 a3 := Tryz.isAgg3,
 z3 := Tryz.sizeOf3,
 v3 := Tryz.zeroValue3,
 t4 := Tryz.underlying4,
 a4 := Tryz.isAgg4,
 z4 := Tryz.sizeOf4,
 v4 := Tryz.zeroValue4,
 t5 := Tryz.underlying5,
 a5 := Tryz.isAgg5,
 z5 := Tryz.sizeOf5,
 v5 := Tryz.zeroValue5,
 t9 := Tryz.underlying9,
 a9 := Tryz.isAgg9,
 z9 := Tryz.sizeOf9,
 v9 := Tryz.zeroValue9,
 t22 := Tryz.underlying224,
 a22 := Tryz.isAgg224,
 z22 := Tryz.sizeOf224,
 v22 := Tryz.zeroValue224,
 t23 := Tryz.underlying224,
 a23 := Tryz.isAgg224,
 z23 := Tryz.sizeOf224,
 v23 := Tryz.zeroValue224,
 t25 := Tryz.underlying3,
 a25 := Tryz.isAgg3,
 z25 := Tryz.sizeOf3,
 v25 := Tryz.zeroValue3,
 t32 := Tryz.underlying245,
 a32 := Tryz.isAgg245,
 z32 := Tryz.sizeOf245,
 v32 := Tryz.zeroValue245,
 t35 := Tryz.underlying317,
 a35 := Tryz.isAgg317,
 z35 := Tryz.sizeOf317,
 v35 := Tryz.zeroValue317,
 t36 := Tryz.underlying318,
 a36 := Tryz.isAgg318,
 z36 := Tryz.sizeOf318,
 v36 := Tryz.zeroValue318,
 t41 := Tryz.underlying323,
 a41 := Tryz.isAgg323,
 z41 := Tryz.sizeOf323,
 v41 := Tryz.zeroValue323,
 t44 := Tryz.underlying135,
 a44 := Tryz.isAgg135,
 z44 := Tryz.sizeOf135,
 v44 := Tryz.zeroValue135,
 t46 := Tryz.underlying253,
 a46 := Tryz.isAgg253,
 z46 := Tryz.sizeOf253,
 v46 := Tryz.zeroValue253,
 t53 := Tryz.underlying335,
 a53 := Tryz.isAgg335,
 z53 := Tryz.sizeOf335,
 v53 := Tryz.zeroValue335,
 t57 := Tryz.underlying239,
 a57 := Tryz.isAgg239,
 z57 := Tryz.sizeOf239,
 v57 := Tryz.zeroValue239,
 t63 := Tryz.underlying351,
 a63 := Tryz.isAgg351,
 z63 := Tryz.sizeOf351,
 v63 := Tryz.zeroValue351,
 t64 := Tryz.underlying352,
 a64 := Tryz.isAgg352,
 z64 := Tryz.sizeOf352,
 v64 := Tryz.zeroValue352 }
end Go.Proofs
namespace Go.Proofs.YteffjpdcghlnlaaGreatDoor.Oct
open Go.RowKit Go.Maps Go.Sort Go.Shelf
theorem sorts_in (m : Nat) : AnyZI.SortsIn Tryz.prog Tryz.sortedL_ren Fence.wide m :=
 ⟨fun blk off cap ss W hH hblk hsz => callsIn_wide.2 (AnyM.slices_Sort_int Tryz.sortL blk off cap ss W hH hblk hsz),
  fun p cap W => callsIn_wide.2 (AnyM.slices_Sort_int_none Tryz.sortL p cap W)⟩
theorem keysI_any (mb : Option Nat) (W : World) : Calls Tryz.prog 151 #[.map mb] W fun e w' => e = .returned (.func (.func 193) #[] #[.pointer (some ⟨W.heap.size, 0, none⟩)]) ∧ w' = W.alloc (.cells #[.map mb] 79) :=
 (callsIn_wide (n := 5)).1 (AnyZI.keys_in Tryz.keysL Fence.wide 5 trivial rfl mb W)
theorem sortedI_any (b Bm : Nat) (D : DataW Value) (W : World) (hB : Bm < W.heap.size) (hm : W.cell? ⟨Bm, 0, none⟩ = some (.map (some b))) (hown : W.ownsMap Tryz.prog 3 RV b (Go.Maps.size D) D) (hmax : Go.Maps.size D ≤ 1000) :
  Calls Tryz.prog 150 #[.func (.func 193) #[] #[.pointer (some ⟨Bm, 0, none⟩)]] W fun e w' => ∃ (v : Value) (ss : List Int), e = .returned v ∧ ss.Perm (intKeys D) ∧
   w'.ownsRow W.heap.size 3 1 v ss.length ((ss.mergeSort leI).map encZ) ∧ (v = .slice none 0 0 ↔ ss = []) ∧ Below W.heap.size W w' := by
 refine (callsIn_wide (n := 5)).1 ?_
 have hseq : SeqGives Fence.wide 2 Tryz.prog 193 #[.pointer (some ⟨Bm, 0, none⟩)] encZ (fun ss => ss.Perm (intKeys D)) (Go.Maps.size D) W :=
  AnyZI.keys_gives (ρ := Tryz.keysL_ren) { Tryz.keysL with } Fence.wide _ trivial rfl (by omega) Bm b (Go.Maps.size D) D _ hB hm hown
 exact AnyZI.sorted_in Tryz.sortedL Fence.wide 5 trivial trivial trivial trivial rfl (by omega) (sorts_in _) (enters_of Tryz.func192 (by kernel_rfl) rfl) 193 #[.pointer (some ⟨Bm, 0, none⟩)] trivial (enters_of Tryz.func193 (by kernel_rfl) rfl) _ _ (by unfold maxLen; omega) (by omega) _ hseq
theorem sortedN_any (Bm : Nat) (W : World) (hB : Bm < W.heap.size) (hm : W.cell? ⟨Bm, 0, none⟩ = some (.map none)) :
  Calls Tryz.prog 150 #[.func (.func 193) #[] #[.pointer (some ⟨Bm, 0, none⟩)]] W fun e w' => e = .returned (.slice none 0 0) ∧ Below W.heap.size W w' := by
 refine (callsIn_wide (n := 5)).1 ?_
 have hseq : SeqGives Fence.wide 2 Tryz.prog 193 #[.pointer (some ⟨Bm, 0, none⟩)] encZ (fun ss : List Int => ss = []) 0 W :=
  AnyZI.keys_gives_nil (ρ := Tryz.keysL_ren) { Tryz.keysL with } Fence.wide _ trivial rfl Bm _ hB hm
 refine (AnyZI.sorted_in Tryz.sortedL Fence.wide 5 trivial trivial trivial trivial rfl (by omega) (sorts_in _) (enters_of Tryz.func192 (by kernel_rfl) rfl) 193 #[.pointer (some ⟨Bm, 0, none⟩)] trivial (enters_of Tryz.func193 (by kernel_rfl) rfl) _ 0 (Nat.zero_le _) (by omega) _ hseq).mono ?_
 rintro e w' ⟨v, ss, rfl, rfl, hrow, hnil, hb⟩
 obtain rfl : v = .slice none 0 0 := hnil.2 rfl
 exact ⟨rfl, hb⟩
open Go.ChangeShapes Go.WideShapes Go.ChangeAt
theorem ld_rowS {P : Program} (t : Nat) (d : TypeDesc) (hu : P.underlying t = some d) (hd : d.isRow = true) (m : Nat) (hi : (P.info? t).map (·.size) = some m) (w : World) (b o : Nat) :
  (ldA t (.pointer (some ⟨b, o, none⟩))).run P w = ldR P t m w b o (row w b) := by
 unfold ldR
 split
 ·rename_i c hr
  split
  ·rename_i hc
   obtain ⟨t', ht⟩ := xH hr
   have hx := run_loadAt_mid (P := P) w b o t (c.extract o (o + m)).toList _ (World.rangeAt_of_block ht o m) hu hd (by rw [hi]; simp; omega)
   rw [Array.toArray_toList] at hx
   exact hx
  ·rfl
 ·rfl
theorem se_i : (Tryz.prog.info? 121).map (·.size) = some 6 := by kernel_rfl
@[go_sem ↓] theorem se_l (p : Value) : Instr.loadAt 121 p = ldA 121 p := rfl
@[go_sem ↓] theorem se_s (p v : Value) : Instr.storeAt 121 p v = stA 121 p v := rfl
@[go_sem] theorem se_ld (w : World) (b o : Nat) : (ldA 121 (.pointer (some ⟨b, o, none⟩))).run Tryz.prog w = ldR Tryz.prog 121 6 w b o (row w b) := ld_rowS _ _ Tryz.underlying121 rfl 6 se_i w b o
@[go_sem] theorem se_st (w : World) (b o : Nat) (c : Array Value) : (stA 121 (.pointer (some ⟨b, o, none⟩)) (.agg c)).run Tryz.prog w = stR Tryz.prog 121 6 w b o (.agg c) (row w b) := yT _ 6 se_i w b o c
@[go_sem] theorem se_ldx (P : Program) (t : Nat) (w : World) (b : Nat) (x0 x1 x2 x3 x4 x5 : Value) : ldR P t 6 w b 0 (some #[x0, x1, x2, x3, x4, x5]) = .ok (.agg #[x0, x1, x2, x3, x4, x5]) w := xE P t 6 w b _ rfl
theorem ones6 (x0 x1 x2 x3 x4 : Int) (A : Option Addr) (n c : Nat) : Ones #[.int .i64 x0, .int .i64 x1, .int .i64 x2, .int .i64 x3, .int .i64 x4, .slice A n c] := by
 unfold Ones
 have a (x : Int) : (Value.int .i64 x).oneCell' = true := rfl
 have b : (Value.slice A n c).oneCell' = true := rfl
 simp [a, b]
@[go_sem] theorem se_stx (P : Program) (t : Nat) (w : World) (b : Nat) (x0 x1 x2 x3 x4 : Int) (A : Option Addr) (n c : Nat) (y0 y1 y2 y3 y4 y5 : Value) :
  stR P t 6 w b 0 (.agg #[.int .i64 x0, .int .i64 x1, .int .i64 x2, .int .i64 x3, .int .i64 x4, .slice A n c]) (some #[y0, y1, y2, y3, y4, y5]) = .ok () (w.setRow b #[.int .i64 x0, .int .i64 x1, .int .i64 x2, .int .i64 x3, .int .i64 x4, .slice A n c]) :=
 stR_whole P t 6 w b _ _ rfl rfl (ones6 _ _ _ _ _ _ _ _)
theorem rp_i : (Tryz.prog.info? 33).map (·.size) = some 4 := by kernel_rfl
@[go_sem ↓] theorem rp_l (p : Value) : Instr.loadAt 33 p = ldA 33 p := rfl
@[go_sem ↓] theorem rp_s (p v : Value) : Instr.storeAt 33 p v = stA 33 p v := rfl
@[go_sem] theorem rp_ld (w : World) (b o : Nat) : (ldA 33 (.pointer (some ⟨b, o, none⟩))).run Tryz.prog w = ldR Tryz.prog 33 4 w b o (row w b) := ld_rowS _ _ Tryz.underlying33 rfl 4 rp_i w b o
@[go_sem] theorem rp_st (w : World) (b o : Nat) (c : Array Value) : (stA 33 (.pointer (some ⟨b, o, none⟩)) (.agg c)).run Tryz.prog w = stR Tryz.prog 33 4 w b o (.agg c) (row w b) := yT _ 4 rp_i w b o c
@[go_sem] theorem rp_ldx (P : Program) (t : Nat) (w : World) (b : Nat) (x0 x1 x2 x3 : Value) : ldR P t 4 w b 0 (some #[x0, x1, x2, x3]) = .ok (.agg #[x0, x1, x2, x3]) w := xE P t 4 w b _ rfl
@[go_sem] theorem rp_ld2 (P : Program) (t : Nat) (w : World) (b : Nat) (x0 x1 x2 x3 x4 x5 : Value) : ldR P t 4 w b 2 (some #[x0, x1, x2, x3, x4, x5]) = .ok (.agg #[x2, x3, x4, x5]) w := by unfold ldR; simp
theorem ones4 (x0 x1 x2 : Int) (A : Option Addr) (n c : Nat) : Ones #[.int .i64 x0, .int .i64 x1, .int .i64 x2, .slice A n c] := by
 unfold Ones
 have a (x : Int) : (Value.int .i64 x).oneCell' = true := rfl
 have b : (Value.slice A n c).oneCell' = true := rfl
 simp [a, b]
@[go_sem] theorem rp_stx (P : Program) (t : Nat) (w : World) (b : Nat) (x0 x1 x2 : Int) (A : Option Addr) (n c : Nat) (y0 y1 y2 y3 : Value) :
  stR P t 4 w b 0 (.agg #[.int .i64 x0, .int .i64 x1, .int .i64 x2, .slice A n c]) (some #[y0, y1, y2, y3]) = .ok () (w.setRow b #[.int .i64 x0, .int .i64 x1, .int .i64 x2, .slice A n c]) :=
 stR_whole P t 4 w b _ _ rfl rfl (ones4 _ _ _ _ _ _)
@[go_sem] theorem yO (w : World) (b : Nat) (c : Array Value) : (w.setRow b c).heap.size = w.heap.size := by simp
theorem sclone_any (n c : Nat) (A : Option Addr) (b : Bf) (w : World) (hs : Sl w w.heap.size A n c b) (hn : n ≤ 140737488355328) :
  Calls Tryz.prog 176 #[.slice A n c] w fun e w' => ∃ v, e = .returned v ∧ Own w' w.heap.size 5 v n b ∧ Below w.heap.size w w' := by
 have HS := Lib.hid hs
 go_enter Tryz.func176, Tryz.ntmps176
 cases A with
 | none =>
  have h0 := hs.nil_zero rfl
  subst h0
  clear hs
  have qT := fun (w : World) (n c : Nat) => Lib.run_eql_slice_nil (P := Tryz.prog) w 22 5 none n c 0 0 zY
  go_wp2_with fail
  go_ret
  exact ⟨_, rfl, Own.nil _ _ _ _, Below.refl _ _⟩
 | some a =>
  clear hs
  have qT := fun (w : World) (n c : Nat) => Lib.run_eql_slice_nil (P := Tryz.prog) w 22 5 (some a) n c 0 0 zY
  have O1 := Lib.hid (show Own (w.alloc (.cells #[] 5)) w.heap.size 5 (.slice (some ⟨w.heap.size, 0, none⟩) 0 0) 0 b from Own.empty w w.heap.size 5 _ (Nat.le_refl _))
  have B1 := (Below.refl w.heap.size w).alloc (Nat.le_refl _) (.cells #[] 5)
  have S1 := HS.out.below B1
  have hb : w.heap.size ≤ (w.alloc (.cells #[] 5)).heap.size := by simp
  go_wp2_with (at_builtin; refine yS rfl (.tmp 5) (.tmp 6) rfl zY yN O1.out S1 (by omega) hb rfl rfl ?_; intro v4 w4 ho4 hg4 ht4)
  go_ret
  exact ⟨_, rfl, by rw [Nat.zero_add, yG] at ho4; exact ho4, O1.out.after hg4 B1 hb (Nat.le_refl _)⟩
theorem yK {P : Program} {fn : Func} {p : Tmp} {ty : TypeId} (h : fn.results = #[.cell p ty]) (tmps : Array Value) (w : World) (b : Nat) (c : Array Value) (d : TypeDesc)
  (hp : tmps.getD p undef = .pointer (some ⟨b, 0, none⟩)) (hr : row w b = some c) (hu : P.underlying ty = some d) (hd : d.isRow = true) (hi : (P.info? ty).map (·.size) = some c.size) :
  (results fn tmps).run P w = .ok (.agg c) w := by
 have hp2 : tmps[p]?.getD undef = .pointer (some ⟨b, 0, none⟩) := by simpa using hp
 simp only [results, h]
 simp [hp2, asAddr, load_row hr hu hd hi]
theorem cells6 {w : World} {B : Nat} {a b c d e f : Value} (h : row w B = some #[a, b, c, d, e, f]) : w.cell? ⟨B, 0, none⟩ = some a ∧ w.cell? ⟨B, 1, none⟩ = some b ∧ w.cell? ⟨B, 2, none⟩ = some c ∧ w.cell? ⟨B, 3, none⟩ = some d ∧ w.cell? ⟨B, 4, none⟩ = some e ∧ w.cell? ⟨B, 5, none⟩ = some f := by
 simp only [zG h]
 exact ⟨rfl, rfl, rfl, rfl, rfl, rfl⟩
theorem seat_z (w : World) : (zeroValue 121).run Tryz.prog w = .ok (seV (.new 0) (.slice none 0 0)) w := Tryz.zeroValue121 w
theorem cseat_any (s : Se) (A : Option Addr) (c : Nat) (w : World) (hs : Sl w w.heap.size A s.T c s.f) (hn : s.T ≤ 140737488355328) :
  Calls Tryz.prog 134 #[seV s (.slice A s.T c)] w fun e w' => ∃ A' c', e = .returned (seV s (.slice A' s.T c')) ∧ Own w' w.heap.size 5 (.slice A' s.T c') s.T s.f ∧ Below w.heap.size w w' := by
 obtain ⟨w1, hw1⟩ : ∃ w1, w1 = (w.alloc (.cells #[.int .i64 s.id, .int .i64 s.q, .int .i64 s.c, .int .i64 s.n, .int .i64 s.m, .slice A s.T c] 121)).alloc (.cells #[.int .i64 0, .int .i64 0, .int .i64 0, .int .i64 0, .int .i64 0, .slice none 0 0] 121) := ⟨_, rfl⟩
 have bw : Below w.heap.size w w1 := by rw [hw1]; exact ((Below.refl _ _).alloc (by simp) _).alloc (by simp) _
 have hz : w1.heap.size = w.heap.size + 2 := by rw [hw1]; simp
 have B1 := Lib.hid bw
 have R1 := Lib.hid (show row w1 w.heap.size = some #[.int .i64 s.id, .int .i64 s.q, .int .i64 s.c, .int .i64 s.n, .int .i64 s.m, .slice A s.T c] by rw [hw1]; exact zK (zA _ _ _ _ rfl) _)
 have R2 := Lib.hid (show row w1 (w.heap.size + 1) = some #[.int .i64 0, .int .i64 0, .int .i64 0, .int .i64 0, .int .i64 0, .slice none 0 0] by rw [hw1]; exact zA _ _ _ _ (by simp))
 have H1 := Lib.hid (sclone_any s.T c A s.f w1 ((hs.below bw).more bw.size) hn)
 clear hs bw
 go_enter Tryz.func134, Tryz.ntmps134
 go_upto_region 1 with fail
 rw [← hw1]
 clear hw1
 obtain ⟨a0, a1, a2, a3, a4, a5⟩ := cells6 R1.out
 go_wp2_with fail
 refine H1.out.mono ?_
 rintro e w2 ⟨v, rfl, ho, hb⟩
 obtain ⟨A', c', rfl, -⟩ := ho.sl
 have R1' := zE hb R1.out
 have R2' := zE hb R2.out
 have B2 := Lib.hid (onto B1.out B1.out.size hb)
 have O2 := Lib.hid ho
 clear a0 a1 a2 a3 a4 a5 ho
 obtain ⟨w3, hw3⟩ : ∃ w3, w3 = w2.setCell ⟨w.heap.size, 5, none⟩ (.slice A' s.T c') := ⟨_, rfl⟩
 have e2 : w3 = w2.setRow w.heap.size #[.int .i64 s.id, .int .i64 s.q, .int .i64 s.c, .int .i64 s.n, .int .i64 s.m, .slice A' s.T c'] := hw3.trans (zJ R1' 5 _)
 have R3 : row w3 w.heap.size = some #[.int .i64 s.id, .int .i64 s.q, .int .i64 s.c, .int .i64 s.n, .int .i64 s.m, .slice A' s.T c'] := by rw [e2]; exact zC R1' _
 have R4 : row w3 (w.heap.size + 1) = some #[.int .i64 0, .int .i64 0, .int .i64 0, .int .i64 0, .int .i64 0, .slice none 0 0] := by rw [e2, zD _ _ _ _ (by omega)]; exact R2'
 have B3 := Lib.hid (show Below w.heap.size w w3 by rw [e2]; exact zF B2.out (Nat.le_refl _) _)
 have O3 := Lib.hid (show Own w3 w1.heap.size 5 (.slice A' s.T c') s.T s.f by rw [e2]; exact O2.out.setRow _ (fun e => by have := (World.ownsRow.lt O2.out _ e).1; omega) _)
 obtain ⟨a0, a1, a2, a3, a4, a5⟩ := cells6 R1'
 have f5 := zN R1' 5
 have g3 := hw3.symm
 clear e2 R2' hw3
 go_wp2_with fail
 exact bodyPost_ret (v := seV s (.slice A' s.T c')) (yK Tryz.results134 _ _ (w.heap.size + 1) _ _ rfl (zC R4 _) Tryz.underlying121 rfl (by kernel_rfl)) rfl
  ⟨A', c', rfl, (O3.out.setRow _ (fun e => by have := (World.ownsRow.lt O3.out _ e).1; omega) _).base (by omega), zF B3.out (by omega) _⟩
theorem Own.rdS {w' : World} {D n c : Nat} {A : Option Addr} {f : Bf} {u : TypeId} (h : Own w' D u (.slice A n c) n f) (T : Mk) (t : Nat) : RdS (paint T D t) w' t A n c f :=
 ⟨by obtain ⟨A1, c1, e, hs, -, -⟩ := h.sl; cases e; exact hs, fun hn a ha => zP (World.ownsRow.lt h _ (by rw [ha]; rfl)).1⟩
variable {so : Nat} {sR : Array Value}
def mtC (R : Array Value) (mv : Option Nat) (g : Int) : Array Value := R ++ #[.map mv, .int .i64 g]
theorem mtC_nil (mv : Option Nat) (g : Int) : mtC #[] mv g = #[.map mv, .int .i64 g] := by simp [mtC]
theorem mtC_size {R : Array Value} {mv : Option Nat} {g : Int} : (mtC R mv g).size = R.size + 2 := by simp [mtC]
theorem mtC_0 {R : Array Value} {mv : Option Nat} {g : Int} {o : Nat} (h : R.size = o) : (mtC R mv g)[o]? = some (.map mv) := by subst h; simp [mtC]
theorem mtC_1 {R : Array Value} {mv : Option Nat} {g : Int} {o : Nat} (h : R.size = o) : (mtC R mv g)[o + 1]? = some (.int .i64 g) := by subst h; unfold mtC; rw [Array.getElem?_append_right (by omega), Nat.add_sub_cancel_left]; rfl
theorem mtC_else {R : Array Value} {mv : Option Nat} {g : Int} {j : Nat} (h : j < R.size) : (mtC R mv g)[j]? = R[j]? := by unfold mtC; rw [Array.getElem?_append_left h]
theorem mtC_ext {R : Array Value} {mv : Option Nat} {g : Int} {c : Array Value} (hs : c.size = R.size + 2) (h : ∀ j, j < R.size → c[j]? = R[j]?) (h0 : c[R.size]? = some (.map mv)) (h1 : c[R.size + 1]? = some (.int .i64 g)) : c = mtC R mv g := by
 apply Array.ext_getElem?
 intro j
 rcases Nat.lt_trichotomy j R.size with hj | rfl | hj
 ·rw [h j hj, mtC_else hj]
 ·rw [h0, mtC_0 rfl]
 ·by_cases e : j = R.size + 1
  ·subst e; rw [h1, mtC_1 rfl]
  ·rw [Array.getElem?_eq_none (by omega), Array.getElem?_eq_none (by rw [mtC_size]; omega)]
theorem mtC_s0 {R : Array Value} {mv m2 : Option Nat} {g : Int} {o : Nat} (h : R.size = o) : (mtC R mv g).setIfInBounds o (.map m2) = mtC R m2 g := by
 subst h
 refine mtC_ext (by rw [Array.size_setIfInBounds, mtC_size]) (fun j hj => by rw [Array.getElem?_setIfInBounds, if_neg (by omega), mtC_else hj]) (by rw [Array.getElem?_setIfInBounds, if_pos rfl, if_pos (by rw [mtC_size]; omega)]) (by rw [Array.getElem?_setIfInBounds, if_neg (by omega), mtC_1 rfl])
theorem mtC_s1 {R : Array Value} {mv : Option Nat} {g g2 : Int} {o : Nat} (h : R.size = o) : (mtC R mv g).setIfInBounds (o + 1) (.int .i64 g2) = mtC R mv g2 := by
 subst h
 refine mtC_ext (by rw [Array.size_setIfInBounds, mtC_size]) (fun j hj => by rw [Array.getElem?_setIfInBounds, if_neg (by omega), mtC_else hj]) (by rw [Array.getElem?_setIfInBounds, if_neg (by omega), mtC_0 rfl]) (by rw [Array.getElem?_setIfInBounds, if_pos rfl, if_pos (by rw [mtC_size]; omega)])
structure PtAt (T : Mk) (w : World) (t B : Nat) (so : Nat) (sR : Array Value) (mv : Option Nat) (l : List Se) (g : Int) : Prop where
 row : Oct.row w B = some (mtC sR mv g)
 tg : T B = t
 mp : MpV T w (t + 1) mv l
 sz : sR.size = so
def H2 (t : Nat) : Nat → Prop := fun c => c = t ∨ c = t + 1
theorem PtAt.fr {T T' : Mk} {H : Nat → Prop} {w w' : World} {t B : Nat} {mv : Option Nat} {l : List Se} {g : Int} (h : PtAt T w t B so sR mv l g) (hf : Fr T T' H w w') (h1 : ¬ H t) (h2 : ¬ H (t + 1)) (h0 : ¬ H 0) : PtAt T' w' t B so sR mv l g :=
 ⟨hf.rowAt h.row (by rw [h.tg]; exact h1), by rw [hf.tag B (zL h.row)]; exact h.tg, h.mp.fr hf h2 h0, h.sz⟩
theorem cells2T {w : World} {B : Nat} {mv : Option Nat} {g : Int} (h : row w B = some (mtC sR mv g)) (hs : sR.size = so) : w.cell? ⟨B, so, none⟩ = some (.map mv) ∧ w.cell? ⟨B, so + 1, none⟩ = some (.int .i64 g) := by
 simp only [zG h]
 exact ⟨mtC_0 hs, mtC_1 hs⟩
theorem pnext_any (B : Nat) (mv : Option Nat) (g : Int) (w : World) (hr : row w B = some (mtC sR mv g)) (hz : sR.size = so) (h0 : 0 ≤ g) (h1 : g < 1099511627776) :
  Calls Tryz.prog 79 #[.pointer (some ⟨B, so, none⟩)] w fun e w' => e = .returned (.int .i64 (g + 1)) ∧ w' = w := by
 obtain ⟨a0, a1⟩ := cells2T hr hz
 have hw : IntKind.i64.wrap (g + 1) = g + 1 := IntWalk.i64_in _ (by omega)
 clear hr
 go_enter Tryz.func79, Tryz.ntmps79
 go_wp2_with fail
 go_ret
 exact ⟨rfl, rfl⟩
theorem keep_any (T : Mk) (t B : Nat) (mv : Option Nat) (l l' : List Se) (g : Int) (x : Se) (A : Option Addr) (c : Nat) (w : World) (hP : PtAt T w t B so sR mv l g) (ht : 0 < t) (hi : i64B x.id) {tx : Nat} (hs : RdS T w tx A x.T c x.f) (htx : ¬ H2 t tx) (hn : x.T ≤ 140737488355328) (hl9 : l.length < 1000)
  (hH : ∀ j, ssH l' j = (ssH l j || x.id == j)) (hG : ∀ j s, ssG l' j = some s → (j = x.id ∧ s = x) ∨ (j ≠ x.id ∧ ssG l j = some s)) (hl : l'.length = if ssH l x.id then l.length else l.length + 1) :
  Calls Tryz.prog 80 #[.pointer (some ⟨B, so, none⟩), seV x (.slice A x.T c)] w fun e w' => e = .returned (.tuple #[]) ∧ ∃ T' mv', Fr T T' (H2 t) w w' ∧ PtAt T' w' t B so sR mv' l' g := by
 have hBl := zL hP.row
 obtain ⟨w1, hw1⟩ : ∃ w1, w1 = w.alloc (.cells #[.int .i64 x.id, .int .i64 x.q, .int .i64 x.c, .int .i64 x.n, .int .i64 x.m, .slice A x.T c] 121) := ⟨_, rfl⟩
 have bw : Below w.heap.size w w1 := by rw [hw1]; exact (Below.refl _ _).alloc (by simp) _
 have hz : w1.heap.size = w.heap.size + 1 := by rw [hw1]; simp
 have hB0 : w.heap.size ≠ B := by omega
 have F1 := Lib.hid (show Fr T (paint T w.heap.size 0) (H2 t) w w1 from Fr.new bw 0)
 have P1 := Lib.hid (hP.fr (Fr.new (H := fun _ => False) bw 0) (fun h => h) (fun h => h) (fun h => h))
 have S1 := Lib.hid (hs.fr (Fr.new (H := fun _ => False) bw 0) (fun h => h))
 have R1 := Lib.hid (show row w1 w.heap.size = some #[.int .i64 x.id, .int .i64 x.q, .int .i64 x.c, .int .i64 x.n, .int .i64 x.m, .slice A x.T c] by rw [hw1]; exact zA _ _ _ _ rfl)
 obtain ⟨T1, hT1⟩ : ∃ T1, T1 = paint T w.heap.size 0 := ⟨_, rfl⟩
 rw [← hT1] at F1 P1 S1
 clear hP bw hs hT1
 go_enter Tryz.func80, Tryz.ntmps80
 go_upto_region 1 with fail
 rw [← hw1]
 clear hw1
 have q := fun w => run_eql_map_nil_sl (P := Tryz.prog) w 79 _ _ mv seat_u
 obtain ⟨a0, a1⟩ := cells2T P1.out.row P1.out.sz
 rcases P1.out.mp with ⟨rfl, rfl⟩ | ⟨M, rfl, hTM, hM⟩
 ·have hmm := @run_makeMap Tryz.prog
  have f0 := zN P1.out.row so
  obtain ⟨w2, hw2⟩ : ∃ w2, w2 = (w1.setRow B (mtC sR (some (w.heap.size + 1)) g)).alloc (.map #[] 0) := ⟨_, rfl⟩
  have ez : (w1.setRow B (mtC sR (some (w.heap.size + 1)) g)).heap.size = w.heap.size + 1 := by rw [yO]; exact hz
  have b2 : Below w1.heap.size (w1.setRow B (mtC sR (some (w.heap.size + 1)) g)) w2 := by rw [hw2]; exact (Below.refl _ _).alloc (by rw [ez, hz]; omega) _
  have fA : Fr T1 T1 (fun c => c = t) w1 (w1.setRow B (mtC sR (some (w.heap.size + 1)) g)) := Fr.row P1.out.tg _
  have fB : Fr T1 (paint T1 w1.heap.size (t + 1)) (fun c => c = t) (w1.setRow B (mtC sR (some (w.heap.size + 1)) g)) w2 := by
   have := Fr.new (T := T1) (H := fun c => c = t) (w := w1.setRow B (mtC sR (some (w.heap.size + 1)) g)) (w' := w2) (by rw [yO]; exact b2) (t + 1)
   rw [yO] at this
   exact this
  have hrB : row (w1.setRow B (mtC sR (some (w.heap.size + 1)) g)) B = some (mtC sR (some (w.heap.size + 1)) g) := zC P1.out.row _
  have hM2 : MpAt (paint T1 w1.heap.size (t + 1)) w2 (w.heap.size + 1) [] := by
   have h := MpAt.made (paint T1 w1.heap.size (t + 1)) (w1.setRow B (mtC sR (some (w.heap.size + 1)) g))
   rw [← hw2, ez] at h
   exact h
  have P2 := Lib.hid (show PtAt (paint T1 w1.heap.size (t + 1)) w2 t B so sR (some (w.heap.size + 1)) [] g from
   ⟨by rw [hw2]; exact zK hrB _, by rw [zH (zL P1.out.row)]; exact P1.out.tg, .inr ⟨_, rfl, zP (by omega), hM2⟩, P1.out.sz⟩)
  have F2 := Lib.hid ((F1.out.trans (fA.mono fun c hc => (.inl hc : H2 t c))).trans (fB.mono fun c hc => (.inl hc : H2 t c)))
  have R2 := Lib.hid (show row w2 w.heap.size = some #[.int .i64 x.id, .int .i64 x.q, .int .i64 x.c, .int .i64 x.n, .int .i64 x.m, .slice A x.T c] by rw [hw2]; exact zK ((zD _ _ _ _ hB0).trans R1.out) _)
  have S2 := Lib.hid ((S1.out.fr (fA.mono fun c hc => (.inl hc : H2 t c)) htx).fr (fB.mono fun c hc => (.inl hc : H2 t c)) htx)
  go_upto_region 3 with fail
  rw [zJ P1.out.row, mtC_s0 P1.out.sz, ← hw2]
  obtain ⟨T2, hT2⟩ : ∃ T2, T2 = paint T1 w1.heap.size (t + 1) := ⟨_, rfl⟩
  rw [← hT2] at F2 P2 S2
  obtain ⟨M, hMM⟩ : ∃ M, M = w.heap.size + 1 := ⟨_, rfl⟩
  rw [← hMM] at P2
  obtain ⟨l0, hl0⟩ : ∃ l0 : List Se, l0 = [] := ⟨_, rfl⟩
  rw [← hl0] at P2 hl9 hH hG hl
  clear P1 F1 R1 S1 hw2 ez b2 fA fB hrB hM2 f0 hmm a0 a1 q hT2 hMM hl0
  refine yF [([0, 1, 2, 3, 4, 5, 6], 7, false), ([], 8, true)] [] (by kernel_rfl) (by kernel_rfl) (fun _ _ _ _ _ h => h) fun Z => ?_
  have F3 := Lib.hid (F2.out.trans (Fr.calm (H := H2 t) Z.below fun _ _ => rfl))
  have P3 := Lib.hid (P2.out.fr (Fr.calm (H := fun _ => False) Z.below fun _ _ => rfl) (fun h => h) (fun h => h) (fun h => h))
  have R3 := Lib.hid (zE Z.below R2.out)
  have S3 := Lib.hid (S2.out.fr (Fr.calm (H := fun _ => False) Z.below fun _ _ => rfl) (fun h => h))
  obtain ⟨w3, hw3⟩ : ∃ w3, w3 = Z.val := ⟨_, rfl⟩
  rw [← hw3] at F3 P3 R3 S3 ⊢
  clear hw3 Z R2 S2 F2 P2
  have H3 := Lib.hid (cseat_any x A c w3 S3.out.sl hn)
  have cB := fun y : After w3 => cells2T (After.row P3.out.row y) P3.out.sz
  have cR := fun y : After w3 => After.row R3.out y
  have cC := fun y : After w3 => cells6 (After.row R3.out y)
  simp only [wpFs, pk, List.getElem?_cons_zero, List.getElem?_cons_succ]
  repeat (go_big_quiet_step (fail))
  refine wpQuiet_nil ?_
  clear cB cR cC
  go_wp2_with fail
  refine H3.out.mono ?_
  rintro e w4 ⟨A', c', rfl, ho, hb⟩
  have F4 := Lib.hid (F3.out.trans (Fr.new (H := H2 t) hb 0))
  have P4 := Lib.hid (P3.out.fr (Fr.new (H := fun _ => False) hb 0) (fun h => h) (fun h => h) (fun h => h))
  have D4 := Lib.hid (ho.rdS T2 0)
  go_wp2_with fail
  refine ⟨.inr hb, ?_⟩
  clear ho hb H3 S3 R3 P3 F3
  obtain ⟨T4, hT4⟩ : ∃ T4, T4 = paint T2 w3.heap.size 0 := ⟨_, rfl⟩
  rw [← hT4] at F4 P4 D4
  clear hT4
  obtain ⟨hT, hM⟩ : T4 M = t + 1 ∧ MpAt T4 w4 M l0 := by
   rcases P4.out.mp with ⟨h, -⟩ | ⟨M', e, h1, h2⟩
   ·cases h
   ·cases e; exact ⟨h1, h2⟩
  obtain ⟨w5, hr, hM5, hF5, hz5⟩ := hM.put (H := fun c => c = t + 1) hi D4.out hT (by omega) hl9 hH hG hl
  have P5 := Lib.hid (show PtAt T4 w5 t B so sR (some M) l' g from ⟨hF5.rowAt P4.out.row (by rw [P4.out.tg]; omega), P4.out.tg, .inr ⟨M, rfl, hT, hM5⟩, P4.out.sz⟩)
  have F5 := Lib.hid (F4.out.trans (hF5.mono fun c hc => (.inr hc : H2 t c)))
  clear hM hM5 hF5 hT P4 F4 D4
  show wpQuiet _ _ _ _ _ _
  refine wpQuiet_nil ?_
  go_wp2_with fail
  refine ⟨.inl trivial, ?_⟩
  show wpQuiet _ _ _ _ _ _
  refine wpQuiet_nil ?_
  go_wp2_with fail
  exact bodyPost_end (v := .tuple #[]) (by simp [results, Tryz.results80, go_sem]) rfl ⟨rfl, _, _, F5.out, P5.out⟩
 ·obtain ⟨T2, hT2⟩ : ∃ T2, T2 = T1 := ⟨_, rfl⟩
  obtain ⟨l0, hl0⟩ : ∃ l0 : List Se, l0 = l := ⟨_, rfl⟩
  go_upto_region 3 with fail
  have P2 := P1
  have F2 := F1
  have R2 := R1
  have S2 := S1
  rw [← hT2] at F2 P2 S2
  rw [← hl0] at P2 hl9 hH hG hl
  clear P1 F1 R1 S1 a0 a1 q hT2 hTM hM hl0
  refine yF [([0, 1, 2, 3, 4, 5, 6], 7, false), ([], 8, true)] [] (by kernel_rfl) (by kernel_rfl) (fun _ _ _ _ _ h => h) fun Z => ?_
  have F3 := Lib.hid (F2.out.trans (Fr.calm (H := H2 t) Z.below fun _ _ => rfl))
  have P3 := Lib.hid (P2.out.fr (Fr.calm (H := fun _ => False) Z.below fun _ _ => rfl) (fun h => h) (fun h => h) (fun h => h))
  have R3 := Lib.hid (zE Z.below R2.out)
  have S3 := Lib.hid (S2.out.fr (Fr.calm (H := fun _ => False) Z.below fun _ _ => rfl) (fun h => h))
  obtain ⟨w3, hw3⟩ : ∃ w3, w3 = Z.val := ⟨_, rfl⟩
  rw [← hw3] at F3 P3 R3 S3 ⊢
  clear hw3 Z R2 S2 F2 P2
  have H3 := Lib.hid (cseat_any x A c w3 S3.out.sl hn)
  have cB := fun y : After w3 => cells2T (After.row P3.out.row y) P3.out.sz
  have cR := fun y : After w3 => After.row R3.out y
  have cC := fun y : After w3 => cells6 (After.row R3.out y)
  simp only [wpFs, pk, List.getElem?_cons_zero, List.getElem?_cons_succ]
  repeat (go_big_quiet_step (fail))
  refine wpQuiet_nil ?_
  clear cB cR cC
  go_wp2_with fail
  refine H3.out.mono ?_
  rintro e w4 ⟨A', c', rfl, ho, hb⟩
  have F4 := Lib.hid (F3.out.trans (Fr.new (H := H2 t) hb 0))
  have P4 := Lib.hid (P3.out.fr (Fr.new (H := fun _ => False) hb 0) (fun h => h) (fun h => h) (fun h => h))
  have D4 := Lib.hid (ho.rdS T2 0)
  go_wp2_with fail
  refine ⟨.inr hb, ?_⟩
  clear ho hb H3 S3 R3 P3 F3
  obtain ⟨T4, hT4⟩ : ∃ T4, T4 = paint T2 w3.heap.size 0 := ⟨_, rfl⟩
  rw [← hT4] at F4 P4 D4
  clear hT4
  obtain ⟨hT, hM⟩ : T4 M = t + 1 ∧ MpAt T4 w4 M l0 := by
   rcases P4.out.mp with ⟨h, -⟩ | ⟨M', e, h1, h2⟩
   ·cases h
   ·cases e; exact ⟨h1, h2⟩
  obtain ⟨w5, hr, hM5, hF5, hz5⟩ := hM.put (H := fun c => c = t + 1) hi D4.out hT (by omega) hl9 hH hG hl
  have P5 := Lib.hid (show PtAt T4 w5 t B so sR (some M) l' g from ⟨hF5.rowAt P4.out.row (by rw [P4.out.tg]; omega), P4.out.tg, .inr ⟨M, rfl, hT, hM5⟩, P4.out.sz⟩)
  have F5 := Lib.hid (F4.out.trans (hF5.mono fun c hc => (.inr hc : H2 t c)))
  clear hM hM5 hF5 hT P4 F4 D4
  show wpQuiet _ _ _ _ _ _
  refine wpQuiet_nil ?_
  go_wp2_with fail
  refine ⟨.inl trivial, ?_⟩
  show wpQuiet _ _ _ _ _ _
  refine wpQuiet_nil ?_
  go_wp2_with fail
  exact bodyPost_end (v := .tuple #[]) (by simp [results, Tryz.results80, go_sem]) rfl ⟨rfl, _, _, F5.out, P5.out⟩
variable {so : Nat} {sR : Array Value}
theorem se_b1 (x : Int) (w : World) : (Instr.build 121 #[(0, .int .i64 x)]).run Tryz.prog w = .ok (seV (.new x) (.slice none 0 0)) w := by kernel_rfl
theorem snew_any (T : Mk) (t : Nat) (w : World) : Calls Tryz.prog 30 #[] w fun e w' => ∃ B, e = .returned (.pointer (some ⟨B, 0, none⟩)) ∧ PtAt (paint T w.heap.size t) w' t B 0 #[] none [] 0 ∧ Below w.heap.size w w' := by
 go_enter Tryz.func30, Tryz.ntmps30
 go_wp2_with fail
 go_ret
 exact ⟨_, rfl, ⟨by rw [mtC_nil]; exact zA _ _ _ _ rfl, zP (Nat.le_refl _), .inl ⟨rfl, rfl⟩, rfl⟩, (Below.refl _ _).alloc (Nat.le_refl _) _⟩
theorem popen_any (T : Mk) (t B : Nat) (mv : Option Nat) (l : List Se) (g : Int) (w : World) (hP : PtAt T w t B so sR mv l g) (ht : 0 < t) (hK : SsOk l g) :
  Calls Tryz.prog 40 #[.pointer (some ⟨B, so, none⟩)] w fun e w' => e = .returned (.tuple #[.int .i64 (opN l g), .int .i64 (opE l g)]) ∧ ∃ T' mv', Fr T T' (H2 t) w w' ∧ PtAt T' w' t B so sR mv' (opSe l g) (opG l g) := by
 have hg0 := hK.g0
 have hg1 := hK.g1
 have hn8 := hK.n
 have HP := Lib.hid hP
 have H1 := Lib.hid (pnext_any B mv g w hP.row hP.sz hg0 hg1)
 have qL := fun ty => hP.mp.len ty
 obtain ⟨a0, a1⟩ := cells2T hP.row hP.sz
 have hnot : ssH l (g + 1) = false := hK.not (.inr (by omega))
 have H2' := Lib.hid (keep_any T t B mv l (l ++ [Se.new (g + 1)]) g (Se.new (g + 1)) none 0 w hP ht (by unfold i64B; simp only [Se.new]; omega) (tx := t + 2) (RdS.nil _ _ _ _) (by unfold H2; omega) (Nat.zero_le _) (by omega) (fun j => ssH_app _ _ _) (fun j s => ssG_app hnot) (by rw [show (Se.new (g + 1)).id = g + 1 from rfl, hnot]; simp))
 have bd1 := fun w => se_b1 (g + 1) w
 have HN := Lib.hid (show opN l g = if opF l g then 0 else g + 1 from rfl)
 have HE := Lib.hid (show opE l g = if opF l g then 134 else 0 from rfl)
 have HL := Lib.hid (show opSe l g = if opF l g then l else l ++ [Se.new (g + 1)] from rfl)
 have HG := Lib.hid (show opG l g = if opF l g then g else g + 1 from rfl)
 have HF := Lib.hid (show opF l g = (decide (l.length = 8) || decide (g + 1 = 1099511627776)) from rfl)
 clear hP hK hnot
 go_enter Tryz.func40, Tryz.ntmps40
 go_wp2_with fail
 refine H1.out.mono ?_
 rintro e w' ⟨rfl, rfl⟩
 by_cases h8 : l.length = 8
 ·have d8 : ((l.length : Int) == 8) = true := beq_iff_eq.2 (by omega)
  go_wp2_with fail
  have hF : opF l g = true := by rw [HF.out, h8]; rfl
  rw [HN.out, HE.out, HL.out, HG.out, hF]
  exact bodyPost_ret (v := .tuple #[.int .i64 0, .int .i64 134]) (by simp [results, Tryz.results40, go_sem]) rfl ⟨rfl, T, mv, Fr.refl _ _ _, HP.out⟩
 ·have d8 : ((l.length : Int) == 8) = false := beq_eq_false_iff_ne.2 (by omega)
  by_cases h9 : g + 1 = 1099511627776
  ·have d9 : (g + 1 == 1099511627776) = true := beq_iff_eq.2 h9
   go_wp2_with fail
   have hF : opF l g = true := by rw [HF.out, decide_eq_true h9, Bool.or_true]
   rw [HN.out, HE.out, HL.out, HG.out, hF]
   exact bodyPost_ret (v := .tuple #[.int .i64 0, .int .i64 134]) (by simp [results, Tryz.results40, go_sem]) rfl ⟨rfl, T, mv, Fr.refl _ _ _, HP.out⟩
  ·have d9 : (g + 1 == 1099511627776) = false := beq_eq_false_iff_ne.2 h9
   have hF : opF l g = false := by rw [HF.out, decide_eq_false h9, decide_eq_false h8]; rfl
   clear h9
   go_wp2_with fail
   refine H2'.out.mono ?_
   rintro e w2 ⟨rfl, T2, mv2, hF2, hP2⟩
   obtain ⟨b0, b1⟩ := cells2T hP2.row hP2.sz
   have f1 := zN hP2.row (so + 1)
   have HF2 := Lib.hid hF2
   have HP2 := Lib.hid hP2
   clear hF2 hP2 a0 a1
   go_wp2_with fail
   rw [HN.out, HE.out, HL.out, HG.out, hF, zJ HP2.out.row, mtC_s1 HP2.out.sz]
   have hF3 := Fr.row (T := T2) (H := fun c => c = t) (w := w2) (B := B) HP2.out.tg (mtC sR mv2 (g + 1))
   exact bodyPost_ret (v := .tuple #[.int .i64 (g + 1), .int .i64 0]) (by simp [results, Tryz.results40, go_sem]) rfl ⟨rfl, T2, mv2, HF2.out.trans (hF3.mono fun c hc => (.inl hc : H2 t c)), ⟨zC HP2.out.row _, HP2.out.tg, HP2.out.mp.fr hF3 (by omega) (by omega), HP2.out.sz⟩⟩
theorem pexp_any (T : Mk) (t B : Nat) (mv : Option Nat) (l : List Se) (g id : Int) (w : World) (hP : PtAt T w t B so sR mv l g) (ht : 0 < t) (hK : SsOk l g) (hi : i64B id) :
  Calls Tryz.prog 41 #[.pointer (some ⟨B, so, none⟩), .int .i64 id] w fun e w' => e = .returned (.int .i64 (exE l id)) ∧ ∃ T' mv', Fr T T' (H2 t) w w' ∧ PtAt T' w' t B so sR mv' (ssX l id) g := by
 obtain ⟨s, A, c, q1, q2, hs, hg⟩ := hP.mp.look hi (seat_z w)
 obtain ⟨a0, a1⟩ := cells2T hP.row hP.sz
 have HP := Lib.hid hP
 obtain ⟨w1, hw1⟩ : ∃ w1, w1 = w.alloc (.cells #[.int .i64 s.id, .int .i64 s.q, .int .i64 s.c, .int .i64 s.n, .int .i64 s.m, .slice A s.T c] 121) := ⟨_, rfl⟩
 have bw : Below w.heap.size w w1 := by rw [hw1]; exact (Below.refl _ _).alloc (by simp) _
 have P1 := Lib.hid (hP.fr (Fr.new (H := fun _ => False) bw 0) (fun h => h) (fun h => h) (fun h => h))
 have F1 := Lib.hid (show Fr T (paint T w.heap.size 0) (H2 t) w w1 from Fr.new bw 0)
 have HX := Lib.hid (show exE l id = if ssH l id then 0 else 150 from rfl)
 have HU := Lib.hid hK.up
 have HXn := Lib.hid (ssX_none (l := l) (id := id))
 obtain ⟨b, hb⟩ : ∃ b, b = ssH l id := ⟨_, rfl⟩
 rw [← hb] at q1 HX HXn
 clear hP hK hs hg bw q2 hb
 go_enter Tryz.func41, Tryz.ntmps41
 go_upto_region 2 with fail
 rw [← hw1]
 clear hw1 q1 a0 a1
 obtain ⟨a0, a1⟩ := cells2T P1.out.row P1.out.sz
 cases b with
 | false =>
  have EX := Lib.hid (show exE l id = 150 from HX.out)
  have EL := Lib.hid (HXn.out rfl)
  clear HX HXn
  go_wp2_with fail
  go_ret
  rw [EX.out, EL.out]
  exact ⟨rfl, _, mv, F1.out, P1.out⟩
 | true =>
  obtain ⟨w2, hr, hM2, hF2, hz2⟩ := P1.out.mp.drop (H := fun c => c = t + 1) hi HU.out rfl (by omega) 0
  have EX := Lib.hid (show exE l id = 0 from HX.out)
  have P2 := Lib.hid (show PtAt (paint T w.heap.size 0) w2 t B so sR mv (ssX l id) g from ⟨hF2.rowAt P1.out.row (by rw [P1.out.tg]; omega), P1.out.tg, hM2, P1.out.sz⟩)
  have F2 := Lib.hid (F1.out.trans (hF2.mono fun c hc => (.inr hc : H2 t c)))
  clear HX HXn hM2 hF2
  go_wp2_with fail
  go_ret
  rw [EX.out]
  exact ⟨rfl, _, mv, F2.out, P2.out⟩
theorem se_f2 (x0 x1 x2 x3 x4 : Int) (V : Value) (w : World) : (Instr.field 121 (.agg #[.int .i64 x0, .int .i64 x1, .int .i64 x2, .int .i64 x3, .int .i64 x4, V]) 2).run Tryz.prog w = .ok (.agg #[.int .i64 x2, .int .i64 x3, .int .i64 x4, V]) w := by kernel_rfl
theorem rp_b0 (w : World) : (Instr.build 33 #[]).run Tryz.prog w = .ok (repV 0 0 0 (.slice none 0 0)) w := by kernel_rfl
theorem pask_any (T : Mk) (t B : Nat) (mv : Option Nat) (l : List Se) (g id q : Int) (w : World) (hP : PtAt T w t B so sR mv l g) (hK : SsOk l g) (hi : i64B id) :
  Calls Tryz.prog 81 #[.pointer (some ⟨B, so, none⟩), .int .i64 id, .int .i64 q] w fun e w' => ∃ A c, e = .returned (.tuple #[repV (akS l id q).c (akS l id q).n (akS l id q).m (.slice A (akS l id q).T c), .bool (akB l id q), .int .i64 (akE l id q)]) ∧
   Own w' w.heap.size 5 (.slice A (akS l id q).T c) (akS l id q).T (akS l id q).f ∧ Below w.heap.size w w' := by
 have bw0 : Below w.heap.size w (w.alloc (.cells #[.int .i64 0, .int .i64 0, .int .i64 0, .slice none 0 0] 33)) := (Below.refl _ _).alloc (by simp) _
 have P0 := hP.fr (Fr.new (H := fun _ => False) bw0 0) (fun h => h) (fun h => h) (fun h => h)
 obtain ⟨s, A, c, q1, q2, hs, hg⟩ := P0.mp.look hi (seat_z _)
 obtain ⟨a0, a1⟩ := cells2T P0.row P0.sz
 obtain ⟨w1, hw1⟩ : ∃ w1, w1 = (w.alloc (.cells #[.int .i64 0, .int .i64 0, .int .i64 0, .slice none 0 0] 33)).alloc (.cells #[.int .i64 s.id, .int .i64 s.q, .int .i64 s.c, .int .i64 s.n, .int .i64 s.m, .slice A s.T c] 121) := ⟨_, rfl⟩
 have bw : Below w.heap.size w w1 := by rw [hw1]; exact bw0.alloc (by simp) _
 have R1 := Lib.hid (show row w1 w.heap.size = some #[.int .i64 0, .int .i64 0, .int .i64 0, .slice none 0 0] by rw [hw1]; exact zK (zA _ _ _ _ rfl) _)
 have R2 := Lib.hid (show row w1 (w.heap.size + 1) = some #[.int .i64 s.id, .int .i64 s.q, .int .i64 s.c, .int .i64 s.n, .int .i64 s.m, .slice A s.T c] by rw [hw1]; exact zA _ _ _ _ (by simp))
 have B1 := Lib.hid bw
 have hz : w1.heap.size = w.heap.size + 2 := by rw [hw1]; simp
 have S1 := Lib.hid (show Sl w1 w1.heap.size A s.T c s.f by
  have h := hs.fr (Fr.new (H := fun _ => False) (show Below _ _ w1 by rw [hw1]; exact (Below.refl _ _).alloc (Nat.le_refl _) _) 0) (fun h => h)
  exact h.sl)
 have hn : s.T ≤ 140737488355328 := by
  rcases hg with h | ⟨-, -, rfl, -, -⟩
  ·exact hK.t s (ssG_some h).1
  ·exact Nat.zero_le _
 have HG := Lib.hid hg
 have H1 := Lib.hid (cseat_any s A c w1 S1.out hn)
 obtain ⟨b, hb⟩ : ∃ b, b = ssH l id := ⟨_, rfl⟩
 rw [← hb] at q1
 have HB := Lib.hid hb
 clear hP hK hs hg bw q2 hb P0 bw0 S1
 go_enter Tryz.func81, Tryz.ntmps81
 go_upto_region 2 with fail
 rw [← hw1]
 clear hw1 q1 a0 a1
 have bd0 := rp_b0
 have O0 := fun w' => Own.nil w' w.heap.size 5 (fun _ => 0#8)
 obtain ⟨a0, a1, a2, a3, a4, a5⟩ := cells6 R2.out
 have R1' := R1.out
 cases b with
 | false =>
  have hG : ssG l id = none := by
   rcases HG.out with h | ⟨-, h, -⟩
   ·have := HB.out; rw [ssH_G, h] at this; cases this
   ·exact h
  have E1 := Lib.hid (show akE l id q = 150 by unfold akE; rw [hG])
  have E2 := Lib.hid (show akB l id q = false by unfold akB; rw [hG])
  have E3 := Lib.hid (show akS l id q = .new 0 by unfold akS; rw [hG])
  clear hG HG HB
  go_wp2_with fail
  rw [E1.out, E2.out, E3.out]
  exact bodyPost_ret (v := .tuple #[repV 0 0 0 (.slice none 0 0), .bool false, .int .i64 150]) (res_ctt Tryz.results81 _ _ w.heap.size _ _ rfl (zC R1.out _) Tryz.underlying33 rfl (by kernel_rfl)) rfl ⟨none, 0, rfl, O0 _, zF B1.out (Nat.le_refl _) _⟩
 | true =>
  have hG : ssG l id = some s := by
   rcases HG.out with h | ⟨h, -⟩
   ·exact h
   ·rw [← HB.out] at h; cases h
  by_cases h1 : q < s.q
  ·have d1 : decide (q < s.q) = true := decide_eq_true h1
   have E1 := Lib.hid (show akE l id q = 151 by unfold akE; rw [hG]; exact if_pos (.inl h1))
   have E2 := Lib.hid (show akB l id q = false by unfold akB; rw [hG]; exact decide_eq_false (fun h => h.1 (.inl h1)))
   have E3 := Lib.hid (show akS l id q = .new 0 by unfold akS; rw [hG]; exact if_neg (fun h => h.1 (.inl h1)))
   clear hG HG HB h1
   go_wp2_with fail
   rw [E1.out, E2.out, E3.out]
   exact bodyPost_ret (v := .tuple #[repV 0 0 0 (.slice none 0 0), .bool false, .int .i64 151]) (res_ctt Tryz.results81 _ _ w.heap.size _ _ rfl (zC R1.out _) Tryz.underlying33 rfl (by kernel_rfl)) rfl ⟨none, 0, rfl, O0 _, zF B1.out (Nat.le_refl _) _⟩
  ·have d1 : decide (q < s.q) = false := decide_eq_false h1
   by_cases h2 : q < 1
   ·have d2 : decide (q < 1) = true := decide_eq_true h2
    have E1 := Lib.hid (show akE l id q = 151 by unfold akE; rw [hG]; exact if_pos (.inr h2))
    have E2 := Lib.hid (show akB l id q = false by unfold akB; rw [hG]; exact decide_eq_false (fun h => h.1 (.inr h2)))
    have E3 := Lib.hid (show akS l id q = .new 0 by unfold akS; rw [hG]; exact if_neg (fun h => h.1 (.inr h2)))
    clear hG HG HB h1 h2
    go_wp2_with fail
    rw [E1.out, E2.out, E3.out]
    exact bodyPost_ret (v := .tuple #[repV 0 0 0 (.slice none 0 0), .bool false, .int .i64 151]) (res_ctt Tryz.results81 _ _ w.heap.size _ _ rfl (zC R1.out _) Tryz.underlying33 rfl (by kernel_rfl)) rfl ⟨none, 0, rfl, O0 _, zF B1.out (Nat.le_refl _) _⟩
   ·have d2 : decide (q < 1) = false := decide_eq_false h2
    have hno : ¬ (q < s.q ∨ q < 1) := fun h => h.elim h1 h2
    have E1 := Lib.hid (show akE l id q = 0 by unfold akE; rw [hG]; exact if_neg hno)
    by_cases h3 : q = s.q
    ·have d3 : decide (s.q < q) = false := decide_eq_false (by omega)
     have E2 := Lib.hid (show akB l id q = true by unfold akB; rw [hG]; exact decide_eq_true ⟨hno, h3⟩)
     have E3 := Lib.hid (show akS l id q = s by unfold akS; rw [hG]; exact if_pos ⟨hno, h3⟩)
     clear hG HG HB h1 h2 hno h3
     have r2 := R2.out
     go_wp2_with fail
     refine H1.out.mono ?_
     rintro e w2 ⟨A', c', rfl, ho, hb⟩
     have R1x := zE hb R1.out
     have O2 := Lib.hid ho
     have B2 := Lib.hid (onto B1.out (by omega) hb)
     have qf := fun w => se_f2 s.id s.q s.c s.n s.m (.slice A' s.T c') w
     clear ho hb R1' r2 a0 a1 a2 a3 a4 a5 H1
     go_wp2_with fail
     rw [E1.out, E2.out, E3.out]
     exact bodyPost_ret (v := .tuple #[repV s.c s.n s.m (.slice A' s.T c'), .bool true, .int .i64 0]) (res_ctt Tryz.results81 _ _ w.heap.size _ _ rfl (zC R1x _) Tryz.underlying33 rfl (by kernel_rfl)) rfl
      ⟨A', c', rfl, (O2.out.setRow _ (fun e => by have := (World.ownsRow.lt O2.out _ e).1; omega) _).base (by omega), zF B2.out (Nat.le_refl _) _⟩
    ·have d3 : decide (s.q < q) = true := decide_eq_true (by omega)
     have E2 := Lib.hid (show akB l id q = false by unfold akB; rw [hG]; exact decide_eq_false (fun h => h3 h.2))
     have E3 := Lib.hid (show akS l id q = .new 0 by unfold akS; rw [hG]; exact if_neg (fun h => h3 h.2))
     clear hG HG HB h1 h2 hno h3
     go_wp2_with fail
     rw [E1.out, E2.out, E3.out]
     exact bodyPost_ret (v := .tuple #[repV 0 0 0 (.slice none 0 0), .bool false, .int .i64 0]) (res_ctt Tryz.results81 _ _ w.heap.size _ _ rfl (zC R1.out _) Tryz.underlying33 rfl (by kernel_rfl)) rfl ⟨none, 0, rfl, O0 _, zF B1.out (Nat.le_refl _) _⟩
variable {so : Nat} {sR : Array Value}
theorem se_b3 (x q c n m : Int) (V : Value) (w : World) : (Instr.build 121 #[(0, .int .i64 x), (1, .int .i64 q), (2, .agg #[.int .i64 c, .int .i64 n, .int .i64 m, V])]).run Tryz.prog w = .ok (.agg #[.int .i64 x, .int .i64 q, .int .i64 c, .int .i64 n, .int .i64 m, V]) w := by kernel_rfl
theorem pdone_any (T : Mk) (t B : Nat) (mv : Option Nat) (l : List Se) (g : Int) (x : Se) (A : Option Addr) (c : Nat) (w : World) (hP : PtAt T w t B so sR mv l g) (ht : 0 < t) (hK : SsOk l g) (hi : i64B x.id) {tx : Nat} (hs : RdS T w tx A x.T c x.f) (htx : ¬ H2 t tx) (hn : x.T ≤ 140737488355328) :
  Calls Tryz.prog 84 #[.pointer (some ⟨B, so, none⟩), .int .i64 x.id, .int .i64 x.q, repV x.c x.n x.m (.slice A x.T c)] w fun e w' => e = .returned (.int .i64 (dnE l x.id x.q)) ∧ ∃ T' mv', Fr T T' (H2 t) w w' ∧ PtAt T' w' t B so sR mv' (dnL l x) g := by
 have bw0 : Below w.heap.size w (w.alloc (.cells #[.int .i64 x.c, .int .i64 x.n, .int .i64 x.m, .slice A x.T c] 33)) := (Below.refl _ _).alloc (by simp) _
 have P0 := hP.fr (Fr.new (H := fun _ => False) bw0 0) (fun h => h) (fun h => h) (fun h => h)
 obtain ⟨s, A0, c0, q1, q2, hs0, hg⟩ := P0.mp.look hi (seat_z _)
 obtain ⟨a0, a1⟩ := cells2T P0.row P0.sz
 obtain ⟨w1, hw1⟩ : ∃ w1, w1 = (w.alloc (.cells #[.int .i64 x.c, .int .i64 x.n, .int .i64 x.m, .slice A x.T c] 33)).alloc (.cells #[.int .i64 s.id, .int .i64 s.q, .int .i64 s.c, .int .i64 s.n, .int .i64 s.m, .slice A0 s.T c0] 121) := ⟨_, rfl⟩
 have bw : Below w.heap.size w w1 := by rw [hw1]; exact bw0.alloc (by simp) _
 have R1 := Lib.hid (show row w1 w.heap.size = some #[.int .i64 x.c, .int .i64 x.n, .int .i64 x.m, .slice A x.T c] by rw [hw1]; exact zK (zA _ _ _ _ rfl) _)
 have R2 := Lib.hid (show row w1 (w.heap.size + 1) = some #[.int .i64 s.id, .int .i64 s.q, .int .i64 s.c, .int .i64 s.n, .int .i64 s.m, .slice A0 s.T c0] by rw [hw1]; exact zA _ _ _ _ (by simp))
 have F1 := Lib.hid (show Fr T (paint T w.heap.size 0) (H2 t) w w1 from Fr.new bw 0)
 have P1 := Lib.hid (hP.fr (Fr.new (H := fun _ => False) bw 0) (fun h => h) (fun h => h) (fun h => h))
 have S1 := Lib.hid (hs.fr (Fr.new (H := fun _ => False) bw 0) (fun h => h))
 obtain ⟨T1, hT1⟩ : ∃ T1, T1 = paint T w.heap.size 0 := ⟨_, rfl⟩
 rw [← hT1] at F1 P1 S1
 have H1 (hh : ssH l x.id = true) := keep_any T1 t B mv l (ssD l x) g x A c w1 P1.out ht hi S1.out htx hn (by have := hK.n; omega) (fun j => by
  rw [ssH_D l x hh]
  by_cases e : x.id = j
  ·subst e; rw [hh]; rfl
  ·rw [show (x.id == j) = false by simpa using e, Bool.or_false]) (fun j s => ssG_D) (by rw [hh, ssD_len]; rfl)
 have H1 := Lib.hid H1
 have bd3 := fun w => se_b3 x.id x.q x.c x.n x.m (.slice A x.T c) w
 have HG := Lib.hid hg
 obtain ⟨b, hb⟩ : ∃ b, b = ssH l x.id := ⟨_, rfl⟩
 rw [← hb] at q1
 have HB := Lib.hid hb
 clear hP hs hg bw q2 hb P0 bw0 S1 hs0 hT1 hK
 go_enter Tryz.func84, Tryz.ntmps84
 go_upto_region 2 with fail
 rw [← hw1]
 clear hw1 q1 a0 a1
 obtain ⟨a0, a1, a2, a3, a4, a5⟩ := cells6 R2.out
 have r1 := R1.out
 cases b with
 | false =>
  have hG : ssG l x.id = none := by
   rcases HG.out with h | ⟨-, h, -⟩
   ·have := HB.out; rw [ssH_G, h] at this; cases this
   ·exact h
  have hE : dnE l x.id x.q = 150 := by unfold dnE; rw [hG]
  have E1 := Lib.hid hE
  have E2 := Lib.hid (show dnL l x = l by unfold dnL; rw [hE]; exact if_neg (by omega))
  clear hG HG HB hE
  go_wp2_with fail
  go_ret
  rw [E1.out, E2.out]
  exact ⟨rfl, _, _, F1.out, P1.out⟩
 | true =>
  have hG : ssG l x.id = some s := by
   rcases HG.out with h | ⟨h, -⟩
   ·exact h
   ·rw [← HB.out] at h; cases h
  by_cases h1 : x.q ≤ s.q
  ·have d1 : decide (x.q ≤ s.q) = true := decide_eq_true h1
   have hE : dnE l x.id x.q = 151 := by unfold dnE; rw [hG]; exact if_pos h1
   have E1 := Lib.hid hE
   have E2 := Lib.hid (show dnL l x = l by unfold dnL; rw [hE]; exact if_neg (by omega))
   clear hG HG HB hE h1
   go_wp2_with fail
   go_ret
   rw [E1.out, E2.out]
   exact ⟨rfl, _, _, F1.out, P1.out⟩
  ·have d1 : decide (x.q ≤ s.q) = false := decide_eq_false h1
   have hE : dnE l x.id x.q = 0 := by unfold dnE; rw [hG]; exact if_neg h1
   have E1 := Lib.hid hE
   have E2 := Lib.hid (show dnL l x = ssD l x by unfold dnL; rw [hE]; exact if_pos rfl)
   have H1' := Lib.hid (H1.out HB.out.symm)
   clear hG HG HB hE h1 H1
   go_wp2_with fail
   refine H1'.out.mono ?_
   rintro e w2 ⟨rfl, T2, mv2, hF2, hP2⟩
   have F2 := Lib.hid (F1.out.trans hF2)
   have P2 := Lib.hid hP2
   clear hF2 hP2
   go_wp2_with fail
   go_ret
   rw [E1.out, E2.out]
   exact ⟨rfl, _, _, F2.out, P2.out⟩
variable {so : Nat} {sR : Array Value}
theorem keysF_any (mb : Option Nat) (W : World) : Calls Tryz.prog 151 #[.map mb] W fun e w' => e = .returned (.func (.func 193) #[] #[.pointer (some ⟨W.heap.size, 0, none⟩)]) ∧ w' = W.alloc (.cells #[.map mb] 79) := keysI_any mb W
def ssK (l : List Se) : Nat → Value := fun i => .int .i64 ((l.map Se.id).getD i 0)
theorem skeys_any (T : Mk) (t : Nat) (mv : Option Nat) (l : List Se) (w : World) (h : MpV T w t mv l) (hup : l.Pairwise fun a b => a.id < b.id) (hn : l.length ≤ 8) :
  Calls Tryz.prog 150 #[.func (.func 193) #[] #[.pointer (some ⟨w.heap.size, 0, none⟩)]] (w.alloc (.cells #[.map mv] 79)) fun e w' => ∃ A c, e = .returned (.slice A l.length c) ∧
   SlG w' w'.heap.size A l.length c (ssK l) ∧ (∀ a, A = some a → w.heap.size ≤ a.block) ∧ Below w.heap.size w w' := by
 have b1 : Below w.heap.size w (w.alloc (.cells #[.map mv] 79)) := (Below.refl _ _).alloc (Nat.le_refl _) _
 have hz : w.heap.size < (w.alloc (.cells #[.map mv] 79)).heap.size := by simp
 have hc : (w.alloc (.cells #[.map mv] 79)).cell? ⟨w.heap.size, 0, none⟩ = some (.map mv) := by rw [zG (zA _ _ _ _ rfl)]; rfl
 rcases h with ⟨rfl, rfl⟩ | ⟨M, rfl, -, hM⟩
 ·refine (sortedN_any _ _ hz hc).mono ?_
  rintro e w' ⟨rfl, hb⟩
  exact ⟨none, 0, rfl, ⟨Nat.le_refl _, fun h => absurd h (by simp)⟩, fun a ha => by (cases ha), onto b1 (Nat.le_of_lt hz) hb⟩
 ·obtain ⟨D, h1, h2, h3⟩ := hM.keys hup
  have hown : (w.alloc (.cells #[.map (some M)] 79)).ownsMap Tryz.prog 3 RV M (Go.Maps.size D) D := h1.alloc _
  refine (sortedI_any M _ D _ hz hc hown (by omega)).mono ?_
  rintro e w' ⟨v, ss, rfl, hp, hrow, hnil, hb⟩
  obtain ⟨e1, e2⟩ := h3 ss hp
  rw [e2, e1] at hrow
  obtain ⟨A, c, rfl, hs, -, hA⟩ := ownsRow_slG hrow
  refine ⟨A, c, rfl, hs.congr fun i hi => ?_, fun a ha => ?_, onto b1 (Nat.le_of_lt hz) hb⟩
  ·unfold nth ssK
   rw [List.getD_eq_getElem?_getD, List.getD_eq_getElem?_getD, List.getElem?_map, List.getElem?_map, List.getElem?_eq_getElem hi]
   rfl
  ·rcases hA with h | ⟨g, h, hg⟩
   ·rw [h] at ha; cases ha
   ·rw [h] at ha; cases ha; exact Nat.le_trans (Nat.le_of_lt hz) hg
theorem ssl_u : Tryz.prog.underlying 105 = some (.slice 121) := Tryz.underlying105
theorem se_info : (Tryz.prog.info? 121).map (fun i => (i.zero, i.size, i.bytes)) = some (some (seV (.new 0) (.slice none 0 0)), 6, 64) := by kernel_rfl
theorem pseats_any (T : Mk) (t ts B : Nat) (mv : Option Nat) (l : List Se) (g : Int) (w : World) (hP : PtAt T w t B so sR mv l g) (ht : 0 < t) (hts : 0 < ts) (h1 : ts ≠ t) (h2 : ts ≠ t + 1) (hK : SsOk l g) :
  Calls Tryz.prog 97 #[.pointer (some ⟨B, so, none⟩)] w fun e w' => ∃ A c T', e = .returned (.tuple #[.slice A l.length c, .int .i64 (g + 1)]) ∧ ElAt 6 seEl T' w' ts A c l ∧ Fr T T' (fun x => x = ts) w w' := by
 have HK := Lib.hid hK
 have HP := Lib.hid hP
 have hn8 := hK.n
 obtain ⟨a0, a1⟩ := cells2T hP.row hP.sz
 have H1 := Lib.hid (keysF_any mv w)
 have H2' := Lib.hid (skeys_any T (t + 1) mv l w hP.mp hK.up hn8)
 clear hP hK
 go_enter Tryz.func97, Tryz.ntmps97
 go_wp2_with fail
 refine H1.out.mono ?_
 rintro e w' ⟨rfl, rfl⟩
 go_wp2_with fail
 refine H2'.out.mono ?_
 rintro e w4 ⟨AK, cK, rfl, hk, hka, hb4⟩
 have P4 := Lib.hid (HP.out.fr (Fr.new (H := fun _ => False) hb4 0) (fun h => h) (fun h => h) (fun h => h))
 have F4 := Lib.hid (Fr.new (T := T) (H := fun x => x = ts) hb4 0)
 have K4 := Lib.hid hk
 have K5 := Lib.hid (show ∀ a, AK = some a → paint T w.heap.size 0 a.block = 0 from fun a ha => zP (hka a ha))
 obtain ⟨T4, hT4⟩ : ∃ T4, T4 = paint T w.heap.size 0 := ⟨_, rfl⟩
 rw [← hT4] at P4 F4 K5
 clear hk hka hb4 hT4 H1 H2' a0 a1
 go_wp2_with fail
 go_loopw [4, 14] (fun lv iv wr => ∃ (j : Nat) (T1 : Mk) (A : Option Addr) (c : Nat), j ≤ l.length ∧ iv = .int .i64 (j : Int) ∧ lv = .slice A j c ∧ Fr T4 T1 (fun x => x = ts) w4 wr ∧ ElAt 6 seEl T1 wr ts A c (l.take j)) (fun _ iv _ => l.length - (intOf iv).toNat)
 case atStart => exact ⟨0, T4, none, 0, by omega, rfl, rfl, Fr.refl _ _ _, ElAt.nil _ _ _⟩
 case round =>
  obtain ⟨j, T1, A, c, hj, rfl, rfl, hf, hel⟩ := hrel
  obtain ⟨wo, rfl⟩ : ∃ wo : World, wo = wr := ⟨_, rfl⟩
  have HF := Lib.hid hf
  have HE := Lib.hid hel
  have P5 := Lib.hid (P4.out.fr hf (fun e => h1 e.symm) (fun e => h2 e.symm) (by omega))
  clear hf hel
  by_cases hlt : j < l.length
  ·have hd : decide ((j : Int) < (l.length : Int)) = true := by simp; omega
   obtain ⟨gk, ok, hA, hgk, hck⟩ := K4.out.at_ (by omega)
   subst hA
   have ck : wo.cell? ⟨gk, ok + j, none⟩ = some (ssK l j) := by rw [HF.out.cellAt hgk (by rw [K5.out _ rfl]; omega)]; exact hck j hlt
   have ek : ssK l j = .int .i64 (l[j]).id := by unfold ssK; rw [List.getD_eq_getElem?_getD, List.getElem?_map, List.getElem?_eq_getElem hlt]; rfl
   rw [ek] at ck
   have hmem : l[j] ∈ l := List.getElem_mem hlt
   have hbd := HK.out.bd _ hmem
   have hg1 := HK.out.g1
   obtain ⟨s, As, cs, q1, q2, hs, hg⟩ := P5.out.mp.look (id := (l[j]).id) (by unfold i64B; omega) (seat_z _)
   have hs' : s = l[j] := by
    have e := ssG_mem HK.out.up hmem
    rcases hg with h | ⟨-, h, -⟩
    ·rw [e] at h; exact (Option.some.inj h).symm
    ·rw [e] at h; cases h
   have HS := Lib.hid hs'
   have hsT : s.T ≤ 140737488355328 := by rw [hs']; exact HK.out.t _ hmem
   have H6 := Lib.hid (cseat_any s As cs wo hs.sl hsT)
   obtain ⟨a0, a1⟩ := cells2T P5.out.row P5.out.sz
   have hcap := K4.out.le
   clear q1 hg hs hck ek hmem hbd hg1 hs'
   go_wp2_with fail
   refine H6.out.mono ?_
   rintro e w6 ⟨A', c', rfl, ho, hb⟩
   have bx : Below wo.heap.size wo (w6.alloc (.cells #[.int .i64 s.id, .int .i64 s.q, .int .i64 s.c, .int .i64 s.n, .int .i64 s.m, .slice A' s.T c'] 121)) := hb.alloc hb.size _
   have D6 := ho.rdS T1 0
   have b7 := (Below.refl w6.heap.size w6).alloc (Nat.le_refl _) (.cells #[.int .i64 s.id, .int .i64 s.q, .int .i64 s.c, .int .i64 s.n, .int .i64 s.m, .slice A' s.T c'] 121)
   obtain ⟨w7, hw7⟩ : ∃ w7, w7 = w6.alloc (.cells #[.int .i64 s.id, .int .i64 s.q, .int .i64 s.c, .int .i64 s.n, .int .i64 s.m, .slice A' s.T c'] 121) := ⟨_, rfl⟩
   have r7 : row w7 w6.heap.size = some #[.int .i64 s.id, .int .i64 s.q, .int .i64 s.c, .int .i64 s.n, .int .i64 s.m, .slice A' s.T c'] := by rw [hw7]; exact zA _ _ _ _ rfl
   rw [← hw7] at bx b7
   have F7 := Lib.hid (Fr.new (T := T1) (H := fun x => x = ts) bx 0)
   have E7 := Lib.hid (HE.out.fr xC (Fr.new (T := T1) (H := fun _ => False) bx 0) (fun h => h) (fun h => h))
   have D7 := Lib.hid (D6.fr (Fr.calm (T' := paint T1 wo.heap.size 0) (H := fun _ => False) b7 fun _ _ => rfl) (fun h => h))
   have R7 := Lib.hid r7
   clear ho hb bx D6 b7 r7 q2 ck a0 a1 H6 hsT
   obtain ⟨T7, hT7⟩ : ∃ T7, T7 = paint T1 wo.heap.size 0 := ⟨_, rfl⟩
   rw [← hT7] at F7 E7 D7
   clear hT7
   have hla : (l.take j).length = j := by rw [List.length_take]; omega
   go_wp2_with (at_builtin; simp only [← hw7]; refine wpl_appAt xC rfl (.tmp 18) (.tmp 26) rfl ssl_u se_info rfl (by decide) (by decide) E7.out R7.out ⟨A', c', rfl, D7.out⟩ (by omega) (by omega) (by simp [Act.eval, hla]) (by simp [Act.eval]) ?_; intro A8 c8 w8 p8 f8)
   have el : l.take j ++ [s] = l.take (j + 1) := by rw [HS.out, ← List.take_append_getElem hlt]
   rw [el] at p8
   refine ⟨⟨j + 1, _, A8, c8, by omega, by rw [Int.natCast_succ], rfl, HF.out.trans (F7.out.trans f8), p8⟩, ?_⟩
   simp only [intOf]
   omega
  ·obtain rfl : j = l.length := by omega
   have hd : decide ((l.length : Int) < (l.length : Int)) = false := by simp
   have hg0 := HK.out.g0
   have hg1 := HK.out.g1
   have H9 := Lib.hid (pnext_any B mv g wo P5.out.row P5.out.sz hg0 hg1)
   have E9 := HE.out
   rw [List.take_length] at E9
   have HE9 := Lib.hid E9
   clear HE E9 K4 K5
   go_wp2_with fail
   refine H9.out.mono ?_
   rintro e w9 ⟨rfl, rfl⟩
   go_wp2_with fail
   exact bodyPost_ret (v := .tuple #[.slice A l.length c, .int .i64 (g + 1)]) (by simp [results, Tryz.results97, go_sem]) rfl ⟨A, c, T1, rfl, HE9.out, F4.out.trans HF.out⟩
end Go.Proofs.YteffjpdcghlnlaaGreatDoor.Oct
