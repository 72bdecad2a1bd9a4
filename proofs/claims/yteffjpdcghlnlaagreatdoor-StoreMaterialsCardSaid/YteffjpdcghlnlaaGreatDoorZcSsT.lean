import Derived.Test.YteffjpdcghlnlaaGreatDoorZcMat
import Derived.Test.YteffjpdcghlnlaaGreatDoorZcKrAll
import Derived.Deep.AppendSrc
import Derived.Test.YteffjpdcghlnlaaGreatDoorZcWiAll
import Derived.Maps.OwnSet
import Derived.Maps.Ext
import Derived.Lib.SlKeysI
import Derived.Shelf.SlIterI.Nil
import Derived.Shelf.SortM.Plain
import Derived.Shelf.SortM.SortNone
import Derived.Shelf.SlMaps.Clone
set_option linter.unusedVariables false
set_option linter.unusedSimpArgs false
set_option maxHeartbeats 4000000
set_option maxRecDepth 20000
namespace Go.Proofs.YteffjpdcghlnlaaGreatDoor.Oct
open Go.ChangeShapes Go.WideShapes Go.ChangeAt Go.RowKit
section
variable {α : Type} {k : Nat} {E : Mk → World → α → List Value → Prop} (hE : ElOk k E) {T T' T2 : Mk} {H : Nat → Prop} {w w' : World} {t : Nat} {A : Option Addr} {c : Nat} {l : List α}
include hE
end
section
variable {α : Type} {k : Nat} {E : Mk → World → α → List Value → Prop} (hE : ElOk k E) {T T' T2 : Mk} {H : Nat → Prop} {w w' : World} {t : Nat} {A : Option Addr} {c : Nat} {l : List α}
include hE
end
section
variable {α : Type} {k : Nat} {E : Mk → World → α → List Value → Prop} (hE : ElOk k E) {T T' T2 : Mk} {H : Nat → Prop} {w w' : World} {t : Nat} {A : Option Addr} {c : Nat} {l : List α}
include hE
end
open Go.Maps
abbrev seV (s : Se) (D : Value) : Value := .agg #[.int .i64 s.id, .int .i64 s.q, .int .i64 s.c, .int .i64 s.n, .int .i64 s.m, D]
def seEl (T : Mk) (w : World) (s : Se) (vs : List Value) : Prop := ∃ A c, vs = [.int .i64 s.id, .int .i64 s.q, .int .i64 s.c, .int .i64 s.n, .int .i64 s.m, .slice A s.T c] ∧ RdS T w 0 A s.T c s.f
theorem seEl_ok : ElOk 6 seEl where
 len := fun {T w x vs} h => by obtain ⟨A, c, rfl, -⟩ := h; rfl
 one := fun {T w x vs} h v hv => by
  obtain ⟨A, c, rfl, -⟩ := h
  simp only [List.mem_cons, List.not_mem_nil, or_false] at hv
  rcases hv with rfl | rfl | rfl | rfl | rfl | rfl <;> rfl
 fr := fun h hf ht => by
  obtain ⟨A, c, rfl, h1⟩ := h
  exact ⟨A, c, rfl, h1.fr hf ht⟩
 re := fun h ht => by
  obtain ⟨A, c, rfl, h1⟩ := h
  exact ⟨A, c, rfl, h1.re ht⟩
def RV : Value → Option (DataW Value × List MemPlace) := fun v => some (.held v, [])
theorem seat_u : Tryz.prog.underlying 79 = some (.map 3 121) := Tryz.underlying79
theorem seat_K : Keyed Tryz.prog 3 := int_keyed Tryz.underlying3
theorem id_wf {x : Int} (h : i64B x) : (Lit.int .i64 x).wf = true := by
 simp only [Lit.wf, IntKind.min, IntKind.max, IntKind.signed, IntKind.bits, Bool.and_eq_true, decide_eq_true_eq, if_true]
 omega
theorem id_key {x : Int} (h : i64B x) : keyOf Tryz.prog 3 (.int .i64 x) = some (.int .i64 x) := keyOf_int_mk Tryz.underlying3 (id_wf h)
theorem lit_ne {x y : Int} (h : x ≠ y) : Lit.int .i64 x ≠ Lit.int .i64 y := fun e => h (by cases e; rfl)
structure MpAt (T : Mk) (w : World) (M : Nat) (l : List Se) : Prop where
 ex : ∃ D : DataW Value, w.ownsMap Tryz.prog 3 RV M (Go.Maps.size D) D ∧ (∀ id, Go.Maps.has D (.int .i64 id) = ssH l id) ∧ (∀ id s, ssG l id = some s → ∃ vs, seEl T w s vs ∧ ∀ z, D.atKey (.int .i64 id) z = .held (.agg vs.toArray)) ∧ Go.Maps.size D = l.length
theorem ownsMap_tight {P : Program} {k : TypeId} {R : Value → Option (DataW Value × List MemPlace)} {w : World} {b n : Nat} {D : DataW Value} (h : w.ownsMap P k R b n D) : w.ownsMap P k R b (Go.Maps.size D) D := by
 obtain ⟨es, clock, hb, F, hs, rfl⟩ := h
 exact ⟨es, clock, hb, F, by simp [size, length_sorted], rfl⟩
theorem ownsMap_fr {P : Program} {k : TypeId} {R : Value → Option (DataW Value × List MemPlace)} {w w' : World} {T T' : Mk} {H : Nat → Prop} {b n : Nat} {D : DataW Value} (h : w.ownsMap P k R b n D) (hf : Fr T T' H w w') (ht : ¬ H (T b)) : w'.ownsMap P k R b n D := by
 have hl := h.lt
 obtain ⟨es, clock, hb, r⟩ := h
 exact ⟨es, clock, (hf.keep b hl ht).trans hb, r⟩
section
variable {T T' T2 : Mk} {H : Nat → Prop} {w w' : World} {M t : Nat} {l : List Se} {mv : Option Nat}
theorem MpAt.lt (h : MpAt T w M l) : M < w.heap.size := by obtain ⟨D, hD, -⟩ := h.ex; exact hD.lt
theorem MpAt.fr (h : MpAt T w M l) (hf : Fr T T' H w w') (ht : ¬ H (T M)) (h0 : ¬ H 0) : MpAt T' w' M l := by
 obtain ⟨D, h1, h2, h3, h4⟩ := h.ex
 exact ⟨D, ownsMap_fr h1 hf ht, h2, fun id s hs => by obtain ⟨vs, a, b⟩ := h3 id s hs; exact ⟨vs, seEl_ok.fr a hf h0, b⟩, h4⟩
theorem MpAt.re (h : MpAt T w M l) (ht : ∀ j, T j = 0 → T2 j = 0) : MpAt T2 w M l := by
 obtain ⟨D, h1, h2, h3, h4⟩ := h.ex
 exact ⟨D, h1, h2, fun id s hs => by obtain ⟨vs, a, b⟩ := h3 id s hs; exact ⟨vs, seEl_ok.re a ht, b⟩, h4⟩
def MpV (T : Mk) (w : World) (t : Nat) (mv : Option Nat) (l : List Se) : Prop := (mv = none ∧ l = []) ∨ ∃ M, mv = some M ∧ T M = t ∧ MpAt T w M l
theorem MpV.fr (h : MpV T w t mv l) (hf : Fr T T' H w w') (ht : ¬ H t) (h0 : ¬ H 0) : MpV T' w' t mv l := by
 rcases h with h | ⟨M, rfl, hT, hM⟩
 ·exact .inl h
 ·exact .inr ⟨M, rfl, by rw [hf.tag M hM.lt]; exact hT, hM.fr hf (by rw [hT]; exact ht) h0⟩
abbrev nilS15 : Value := .slice none 0 0
theorem MpV.look (h : MpV T w t mv l) {id : Int} (hi : i64B id) (hz : (zeroValue 121).run Tryz.prog w = .ok (seV (.new 0) nilS15) w) :
  ∃ s A c, (Instr.lookup 79 (.map mv) (.int .i64 id) true).run Tryz.prog w = .ok (.tuple #[seV s (.slice A s.T c), .bool (ssH l id)]) w ∧
   (Instr.lookup 79 (.map mv) (.int .i64 id) false).run Tryz.prog w = .ok (seV s (.slice A s.T c)) w ∧ RdS T w 0 A s.T c s.f ∧ (ssG l id = some s ∨ (ssH l id = false ∧ ssG l id = none ∧ s = .new 0 ∧ A = none ∧ c = 0)) := by
 have hkey := id_key hi
 have none_ (hg : ssG l id = none) (r1 : (Instr.lookup 79 (.map mv) (.int .i64 id) true).run Tryz.prog w = .ok (.tuple #[seV (.new 0) nilS15, .bool false]) w) (r2 : (Instr.lookup 79 (.map mv) (.int .i64 id) false).run Tryz.prog w = .ok (seV (.new 0) nilS15) w) : ∃ s A c, (Instr.lookup 79 (.map mv) (.int .i64 id) true).run Tryz.prog w = .ok (.tuple #[seV s (.slice A s.T c), .bool (ssH l id)]) w ∧
   (Instr.lookup 79 (.map mv) (.int .i64 id) false).run Tryz.prog w = .ok (seV s (.slice A s.T c)) w ∧ RdS T w 0 A s.T c s.f ∧ (ssG l id = some s ∨ (ssH l id = false ∧ ssG l id = none ∧ s = .new 0 ∧ A = none ∧ c = 0)) := by
  have hh : ssH l id = false := by rw [ssH_G, hg]; rfl
  exact ⟨.new 0, none, 0, by rw [hh]; exact r1, r2, RdS.nil _ _ _ _, .inr ⟨hh, hg, rfl, rfl, rfl⟩⟩
 rcases h with ⟨rfl, rfl⟩ | ⟨M, rfl, -, hM⟩
 ·exact none_ rfl (look_nil true seat_K seat_u hz hkey) (look_nil false seat_K seat_u hz hkey)
 ·obtain ⟨D, h1, h2, h3, h4⟩ := hM.ex
  obtain ⟨v, ps, hr, hv⟩ := h1.look_ok seat_K seat_u hz (zd := .held (seV (.new 0) nilS15)) (zp := []) rfl hkey
  obtain ⟨v', ps', hr', hv'⟩ := h1.lookup seat_K seat_u hz (zd := .held (seV (.new 0) nilS15)) (zp := []) rfl hkey
  have ev : DataW.held v = D.atKey (.int .i64 id) (.held (seV (.new 0) nilS15)) := congrArg Prod.fst (Option.some.inj hv)
  have ev' : DataW.held v' = D.atKey (.int .i64 id) (.held (seV (.new 0) nilS15)) := congrArg Prod.fst (Option.some.inj hv')
  have hh := h2 id
  cases hg : ssG l id with
  | none =>
   rw [ssH_G, hg] at hh
   rw [atKey_of_not_has hh] at ev ev'
   cases ev
   cases ev'
   rw [hh] at hr
   have hn := none_ hg hr hr'
   rw [hg] at hn
   exact hn
  | some s =>
   obtain ⟨vs, hs, hat⟩ := h3 id s hg
   obtain ⟨A, c, rfl, hrd⟩ := hs
   rw [hat] at ev ev'
   cases ev
   cases ev'
   exact ⟨s, A, c, by rw [← hh]; exact hr, hr', hrd, .inl rfl⟩
theorem MpV.len (h : MpV T w t mv l) (ty : TypeId) : (Builtin.len_ #[79] ty #[.map mv]).run Tryz.prog w = .ok (.int .i64 (l.length : Int)) w := by
 rcases h with ⟨rfl, rfl⟩ | ⟨M, rfl, -, hM⟩
 ·exact len_nil seat_u ty
 ·obtain ⟨D, h1, h2, h3, h4⟩ := hM.ex
  rw [← h4]
  exact h1.len seat_u ty
theorem MpV.drop (h : MpV T w t mv l) {id : Int} (hi : i64B id) (hup : l.Pairwise fun a b => a.id < b.id) (hH : H t) (h0 : ¬ H 0) (ty : TypeId) :
  ∃ w', (Builtin.delete_ #[79, 3] ty #[.map mv, .int .i64 id]).run Tryz.prog w = .ok (.tuple #[]) w' ∧ MpV T w' t mv (ssX l id) ∧ Fr T T H w w' ∧ w'.heap.size = w.heap.size := by
 have hkey := id_key hi
 rcases h with ⟨rfl, rfl⟩ | ⟨M, rfl, hT, hM⟩
 ·exact ⟨w, drop_nil seat_K seat_u hkey ty, .inl ⟨rfl, rfl⟩, Fr.refl _ _ _, rfl⟩
 ·have hlt := hM.lt
  obtain ⟨D, h1, h2, h3, h4⟩ := hM.ex
  obtain ⟨w', r, h1', ht⟩ := h1.drop seat_K seat_u hkey ty
  have hg := ht.grown
  have hF : Fr T T H w w' := ⟨hg.os, hg.tape, hg.output, hg.size, fun k hk hn => hg.block k hk (fun e => by cases e; exact hn (by rw [hT]; exact hH)), fun _ _ => rfl⟩
  refine ⟨w', r, .inr ⟨M, rfl, hT, D.del (.int .i64 id), ownsMap_tight h1', fun j => ?_, fun j s hs => ?_, ?_⟩, hF, ?_⟩
  ·rw [ssH_X]
   by_cases e : j = id
   ·subst e; rw [has_del_same]; simp
   ·rw [has_del_other (lit_ne e), h2 j]; simp [e]
  ·obtain ⟨hm, hj⟩ := ssG_some hs
   obtain ⟨hm1, hm2⟩ := List.mem_filter.1 hm
   have e : j ≠ id := by rw [← hj]; simpa using hm2
   have hs' : ssG l j = some s := by rw [← hj]; exact ssG_mem hup hm1
   obtain ⟨vs, a, b⟩ := h3 j s hs'
   exact ⟨vs, seEl_ok.fr a hF h0, fun z => by rw [atKey_del_other (lit_ne e)]; exact b z⟩
  ·have e := size_del (k := .int .i64 id) (h1.tidy seat_K)
   rw [h2 id, h4] at e
   have e2 : (ssX l id).length + (if ssH l id then 1 else 0) = l.length := by
    clear e h4 h3 h2 h1 h1' r hM
    induction l with
    | nil => rfl
    | cons a r ih =>
     obtain ⟨p1, p2⟩ := List.pairwise_cons.1 hup
     have ih := ih p2
     unfold ssX ssH at ih ⊢
     rw [List.filter_cons, List.any_cons]
     by_cases e : a.id = id
     ·have hn : (r.any fun s => s.id == id) = false := by
       rw [← Bool.not_eq_true, List.any_eq_true]
       rintro ⟨s, hs, hi⟩
       have := p1 s hs
       have : s.id = id := by simpa using hi
       omega
      rw [hn] at ih
      simp [e] at ih ⊢
      omega
     ·simp [e] at ih ⊢
      omega
   omega
  ·obtain ⟨es, ck, es', ck', _, rfl⟩ := ht; simp [Go.ChangeMaps.setBlock]
theorem MpAt.put (h : MpAt T w M l) {x : Se} {A : Option Addr} {c : Nat} (hi : i64B x.id) (hx : RdS T w 0 A x.T c x.f) (hT : H (T M)) (h0 : ¬ H 0) (hn : l.length < 1000) {l' : List Se} (hH : ∀ j, ssH l' j = (ssH l j || x.id == j)) (hG : ∀ j s, ssG l' j = some s → (j = x.id ∧ s = x) ∨ (j ≠ x.id ∧ ssG l j = some s)) (hl : l'.length = if ssH l x.id then l.length else l.length + 1) :
  ∃ w', (Instr.mapUpdate 79 (.map (some M)) (.int .i64 x.id) (seV x (.slice A x.T c))).run Tryz.prog w = .ok () w' ∧ MpAt T w' M l' ∧ Fr T T H w w' ∧ w'.heap.size = w.heap.size := by
 have hkey := id_key hi
 have hlt := h.lt
 obtain ⟨D, h1, h2, h3, h4⟩ := h.ex
 obtain ⟨w', r, h1', ht⟩ := h1.store seat_K seat_u (by unfold maxLen; omega) hkey (d := .held (seV x (.slice A x.T c))) (ps := []) rfl
 have hg := ht.grown
 have hF : Fr T T H w w' := ⟨hg.os, hg.tape, hg.output, hg.size, fun k hk hn => hg.block k hk (fun e => by cases e; exact hn hT), fun _ _ => rfl⟩
 have hk : WideAt.IsKeyLit (Lit.int .i64 x.id) := trivial
 refine ⟨w', r, ⟨D.put (.int .i64 x.id) (.held (seV x (.slice A x.T c))), ownsMap_tight h1', fun j => ?_, fun j s hs => ?_, ?_⟩, hF, ?_⟩
 ·rw [hH]
  by_cases e : j = x.id
  ·subst e; rw [has_put_same h1.isMap hk]; simp
  ·rw [has_put_other (lit_ne e), h2 j]
   have : (x.id == j) = false := by simp; exact fun e' => e e'.symm
   rw [this, Bool.or_false]
 ·rcases hG j s hs with ⟨rfl, rfl⟩ | ⟨e, hs'⟩
  ·exact ⟨_, seEl_ok.fr ⟨A, c, rfl, hx⟩ hF h0, fun z => atKey_put_same h1.isMap hk _ z⟩
  ·obtain ⟨vs, a, b⟩ := h3 j s hs'
   exact ⟨vs, seEl_ok.fr a hF h0, fun z => by rw [atKey_put_other (lit_ne e)]; exact b z⟩
 ·rw [size_put (h1.tidy seat_K), h2 x.id, h4, hl]
 ·obtain ⟨es, ck, es', ck', _, rfl⟩ := ht; simp [Go.ChangeMaps.setBlock]
theorem MpAt.made (T : Mk) (w : World) : MpAt T (w.alloc (.map #[] 0)) w.heap.size [] :=
 ⟨.map [], World.ownsMap_made _ _ _ _, fun id => rfl, fun id s hs => (by cases hs), rfl⟩
end
end Go.Proofs.YteffjpdcghlnlaaGreatDoor.Oct
namespace Go.Proofs
open Go.Shelf
end Go.Proofs
namespace Go.Proofs.YteffjpdcghlnlaaGreatDoor.Oct
open Go.RowKit Go.Maps Go.Sort Go.Shelf
open Go.ChangeShapes Go.WideShapes Go.ChangeAt
theorem ld_rowS {P : Program} (t : Nat) (d : TypeDesc) (hu : P.underlying t = some d) (hd : d.isRow = true) (m : Nat) (hi : (P.info? t).map (·.size) = some m) (w : World) (b o : Nat) :
  (ldA t (.pointer (some ⟨b, o, none⟩))).run P w = ldR P t m w b o (row w b) := by
 unfold ldR
 split
 ·rename_i c hr
  split
  ·rename_i hc
   obtain ⟨t', ht⟩ := xC hr
   have hx := run_loadAt_mid (P := P) w b o t (c.extract o (o + m)).toList _ (World.rangeAt_of_block ht o m) hu hd (by rw [hi]; simp; omega)
   rw [Array.toArray_toList] at hx
   exact hx
  ·rfl
 ·rfl
theorem se_i : (Tryz.prog.info? 121).map (·.size) = some 6 := by kernel_rfl
@[go_sem ↓] theorem se_l (p : Value) : Instr.loadAt 121 p = ldA 121 p := rfl
@[go_sem ↓] theorem se_s (p v : Value) : Instr.storeAt 121 p v = stA 121 p v := rfl
@[go_sem] theorem se_ld (w : World) (b o : Nat) : (ldA 121 (.pointer (some ⟨b, o, none⟩))).run Tryz.prog w = ldR Tryz.prog 121 6 w b o (row w b) := ld_rowS _ _ Tryz.underlying121 rfl 6 se_i w b o
@[go_sem] theorem se_st (w : World) (b o : Nat) (c : Array Value) : (stA 121 (.pointer (some ⟨b, o, none⟩)) (.agg c)).run Tryz.prog w = stR Tryz.prog 121 6 w b o (.agg c) (row w b) := yO _ 6 se_i w b o c
@[go_sem] theorem se_ldx (P : Program) (t : Nat) (w : World) (b : Nat) (x0 x1 x2 x3 x4 x5 : Value) : ldR P t 6 w b 0 (some #[x0, x1, x2, x3, x4, x5]) = .ok (.agg #[x0, x1, x2, x3, x4, x5]) w := ldR_whole P t 6 w b _ rfl
theorem ones6 (x0 x1 x2 x3 x4 : Int) (A : Option Addr) (n c : Nat) : Ones #[.int .i64 x0, .int .i64 x1, .int .i64 x2, .int .i64 x3, .int .i64 x4, .slice A n c] := by
 unfold Ones
 have a (x : Int) : (Value.int .i64 x).oneCell' = true := rfl
 have b : (Value.slice A n c).oneCell' = true := rfl
 simp [a, b]
@[go_sem] theorem se_stx (P : Program) (t : Nat) (w : World) (b : Nat) (x0 x1 x2 x3 x4 : Int) (A : Option Addr) (n c : Nat) (y0 y1 y2 y3 y4 y5 : Value) :
  stR P t 6 w b 0 (.agg #[.int .i64 x0, .int .i64 x1, .int .i64 x2, .int .i64 x3, .int .i64 x4, .slice A n c]) (some #[y0, y1, y2, y3, y4, y5]) = .ok () (w.setRow b #[.int .i64 x0, .int .i64 x1, .int .i64 x2, .int .i64 x3, .int .i64 x4, .slice A n c]) :=
 stR_whole P t 6 w b _ _ rfl rfl (ones6 _ _ _ _ _ _ _ _)
theorem rp_i : (Tryz.prog.info? 33).map (·.size) = some 4 := by kernel_rfl
@[go_sem ↓] theorem rp_l (p : Value) : Instr.loadAt 33 p = ldA 33 p := rfl
@[go_sem ↓] theorem rp_s (p v : Value) : Instr.storeAt 33 p v = stA 33 p v := rfl
@[go_sem] theorem rp_ld (w : World) (b o : Nat) : (ldA 33 (.pointer (some ⟨b, o, none⟩))).run Tryz.prog w = ldR Tryz.prog 33 4 w b o (row w b) := ld_rowS _ _ Tryz.underlying33 rfl 4 rp_i w b o
@[go_sem] theorem rp_st (w : World) (b o : Nat) (c : Array Value) : (stA 33 (.pointer (some ⟨b, o, none⟩)) (.agg c)).run Tryz.prog w = stR Tryz.prog 33 4 w b o (.agg c) (row w b) := yO _ 4 rp_i w b o c
@[go_sem] theorem rp_ldx (P : Program) (t : Nat) (w : World) (b : Nat) (x0 x1 x2 x3 : Value) : ldR P t 4 w b 0 (some #[x0, x1, x2, x3]) = .ok (.agg #[x0, x1, x2, x3]) w := ldR_whole P t 4 w b _ rfl
theorem ones4 (x0 x1 x2 : Int) (A : Option Addr) (n c : Nat) : Ones #[.int .i64 x0, .int .i64 x1, .int .i64 x2, .slice A n c] := by
 unfold Ones
 have a (x : Int) : (Value.int .i64 x).oneCell' = true := rfl
 have b : (Value.slice A n c).oneCell' = true := rfl
 simp [a, b]
@[go_sem] theorem rp_stx (P : Program) (t : Nat) (w : World) (b : Nat) (x0 x1 x2 : Int) (A : Option Addr) (n c : Nat) (y0 y1 y2 y3 : Value) :
  stR P t 4 w b 0 (.agg #[.int .i64 x0, .int .i64 x1, .int .i64 x2, .slice A n c]) (some #[y0, y1, y2, y3]) = .ok () (w.setRow b #[.int .i64 x0, .int .i64 x1, .int .i64 x2, .slice A n c]) :=
 stR_whole P t 4 w b _ _ rfl rfl (ones4 _ _ _ _ _ _)
@[go_sem] theorem setRow_sizeS (w : World) (b : Nat) (c : Array Value) : (w.setRow b c).heap.size = w.heap.size := by simp
theorem sclone_any (n c : Nat) (A : Option Addr) (b : Bf) (w : World) (hs : Sl w w.heap.size A n c b) (hn : n ≤ 140737488355328) :
  Calls Tryz.prog 176 #[.slice A n c] w fun e w' => ∃ v, e = .returned v ∧ Own w' w.heap.size 5 v n b ∧ Below w.heap.size w w' := by
 have HS := Lib.hid hs
 go_enter Tryz.func176, Tryz.ntmps176
 cases A with
 | none =>
  have h0 := hs.nil_zero rfl
  subst h0
  clear hs
  have qT := fun (w : World) (n c : Nat) => Lib.run_eql_slice_nil (P := Tryz.prog) w 22 5 none n c 0 0 zZ
  go_wp2_with fail
  go_ret
  exact ⟨_, rfl, Own.nil _ _ _ _, Below.refl _ _⟩
 | some a =>
  clear hs
  have qT := fun (w : World) (n c : Nat) => Lib.run_eql_slice_nil (P := Tryz.prog) w 22 5 (some a) n c 0 0 zZ
  have O1 := Lib.hid (show Own (w.alloc (.cells #[] 5)) w.heap.size 5 (.slice (some ⟨w.heap.size, 0, none⟩) 0 0) 0 b from Own.empty w w.heap.size 5 _ (Nat.le_refl _))
  have B1 := (Below.refl w.heap.size w).alloc (Nat.le_refl _) (.cells #[] 5)
  have S1 := HS.out.below B1
  have hb : w.heap.size ≤ (w.alloc (.cells #[] 5)).heap.size := by simp
  go_wp2_with (at_builtin; refine yN rfl (.tmp 5) (.tmp 6) rfl zZ yG O1.out S1 (by omega) hb rfl rfl ?_; intro v4 w4 ho4 hg4 ht4)
  go_ret
  exact ⟨_, rfl, by rw [Nat.zero_add, xF] at ho4; exact ho4, O1.out.after hg4 B1 hb (Nat.le_refl _)⟩
theorem yV {P : Program} {fn : Func} {p : Tmp} {ty : TypeId} (h : fn.results = #[.cell p ty]) (tmps : Array Value) (w : World) (b : Nat) (c : Array Value) (d : TypeDesc)
  (hp : tmps.getD p undef = .pointer (some ⟨b, 0, none⟩)) (hr : row w b = some c) (hu : P.underlying ty = some d) (hd : d.isRow = true) (hi : (P.info? ty).map (·.size) = some c.size) :
  (results fn tmps).run P w = .ok (.agg c) w := by
 have hp2 : tmps[p]?.getD undef = .pointer (some ⟨b, 0, none⟩) := by simpa using hp
 simp only [results, h]
 simp [hp2, asAddr, load_row hr hu hd hi]
theorem cells6 {w : World} {B : Nat} {a b c d e f : Value} (h : row w B = some #[a, b, c, d, e, f]) : w.cell? ⟨B, 0, none⟩ = some a ∧ w.cell? ⟨B, 1, none⟩ = some b ∧ w.cell? ⟨B, 2, none⟩ = some c ∧ w.cell? ⟨B, 3, none⟩ = some d ∧ w.cell? ⟨B, 4, none⟩ = some e ∧ w.cell? ⟨B, 5, none⟩ = some f := by
 simp only [zF h]
 exact ⟨rfl, rfl, rfl, rfl, rfl, rfl⟩
theorem seat_z (w : World) : (zeroValue 121).run Tryz.prog w = .ok (seV (.new 0) (.slice none 0 0)) w := Tryz.zeroValue121 w
theorem cseat_any (s : Se) (A : Option Addr) (c : Nat) (w : World) (hs : Sl w w.heap.size A s.T c s.f) (hn : s.T ≤ 140737488355328) :
  Calls Tryz.prog 134 #[seV s (.slice A s.T c)] w fun e w' => ∃ A' c', e = .returned (seV s (.slice A' s.T c')) ∧ Own w' w.heap.size 5 (.slice A' s.T c') s.T s.f ∧ Below w.heap.size w w' := by
 obtain ⟨w1, hw1⟩ : ∃ w1, w1 = (w.alloc (.cells #[.int .i64 s.id, .int .i64 s.q, .int .i64 s.c, .int .i64 s.n, .int .i64 s.m, .slice A s.T c] 121)).alloc (.cells #[.int .i64 0, .int .i64 0, .int .i64 0, .int .i64 0, .int .i64 0, .slice none 0 0] 121) := ⟨_, rfl⟩
 have bw : Below w.heap.size w w1 := by rw [hw1]; exact ((Below.refl _ _).alloc (by simp) _).alloc (by simp) _
 have hz : w1.heap.size = w.heap.size + 2 := by rw [hw1]; simp
 have B1 := Lib.hid bw
 have R1 := Lib.hid (show row w1 w.heap.size = some #[.int .i64 s.id, .int .i64 s.q, .int .i64 s.c, .int .i64 s.n, .int .i64 s.m, .slice A s.T c] by rw [hw1]; exact zI (zA _ _ _ _ rfl) _)
 have R2 := Lib.hid (show row w1 (w.heap.size + 1) = some #[.int .i64 0, .int .i64 0, .int .i64 0, .int .i64 0, .int .i64 0, .slice none 0 0] by rw [hw1]; exact zA _ _ _ _ (by simp))
 have H1 := Lib.hid (sclone_any s.T c A s.f w1 ((hs.below bw).more bw.size) hn)
 clear hs bw
 go_enter Tryz.func134, Tryz.ntmps134
 go_upto_region 1 with fail
 rw [← hw1]
 clear hw1
 obtain ⟨a0, a1, a2, a3, a4, a5⟩ := cells6 R1.out
 go_wp2_with fail
 refine H1.out.mono ?_
 rintro e w2 ⟨v, rfl, ho, hb⟩
 obtain ⟨A', c', rfl, -⟩ := ho.sl
 have R1' := zC hb R1.out
 have R2' := zC hb R2.out
 have B2 := Lib.hid (onto B1.out B1.out.size hb)
 have O2 := Lib.hid ho
 clear a0 a1 a2 a3 a4 a5 ho
 obtain ⟨w3, hw3⟩ : ∃ w3, w3 = w2.setCell ⟨w.heap.size, 5, none⟩ (.slice A' s.T c') := ⟨_, rfl⟩
 have e2 : w3 = w2.setRow w.heap.size #[.int .i64 s.id, .int .i64 s.q, .int .i64 s.c, .int .i64 s.n, .int .i64 s.m, .slice A' s.T c'] := hw3.trans (zP R1' 5 _)
 have R3 : row w3 w.heap.size = some #[.int .i64 s.id, .int .i64 s.q, .int .i64 s.c, .int .i64 s.n, .int .i64 s.m, .slice A' s.T c'] := by rw [e2]; exact zD R1' _
 have R4 : row w3 (w.heap.size + 1) = some #[.int .i64 0, .int .i64 0, .int .i64 0, .int .i64 0, .int .i64 0, .slice none 0 0] := by rw [e2, zB _ _ _ _ (by omega)]; exact R2'
 have B3 := Lib.hid (show Below w.heap.size w w3 by rw [e2]; exact zE B2.out (Nat.le_refl _) _)
 have O3 := Lib.hid (show Own w3 w1.heap.size 5 (.slice A' s.T c') s.T s.f by rw [e2]; exact O2.out.setRow _ (fun e => by have := (World.ownsRow.lt O2.out _ e).1; omega) _)
 obtain ⟨a0, a1, a2, a3, a4, a5⟩ := cells6 R1'
 have f5 := zW R1' 5
 have g3 := hw3.symm
 clear e2 R2' hw3
 go_wp2_with fail
 exact bodyPost_ret (v := seV s (.slice A' s.T c')) (yV Tryz.results134 _ _ (w.heap.size + 1) _ _ rfl (zD R4 _) Tryz.underlying121 rfl (by kernel_rfl)) rfl
  ⟨A', c', rfl, (O3.out.setRow _ (fun e => by have := (World.ownsRow.lt O3.out _ e).1; omega) _).base (by omega), zE B3.out (by omega) _⟩
theorem Own.rdS {w' : World} {D n c : Nat} {A : Option Addr} {f : Bf} {u : TypeId} (h : Own w' D u (.slice A n c) n f) (T : Mk) (t : Nat) : RdS (zH T D t) w' t A n c f :=
 ⟨by obtain ⟨A1, c1, e, hs, -, -⟩ := h.sl; cases e; exact hs, fun hn a ha => zN (World.ownsRow.lt h _ (by rw [ha]; rfl)).1⟩
variable {so : Nat} {sR : Array Value}
def mtC (R : Array Value) (mv : Option Nat) (g : Int) : Array Value := R ++ #[.map mv, .int .i64 g]
theorem mtC_nil (mv : Option Nat) (g : Int) : mtC #[] mv g = #[.map mv, .int .i64 g] := by simp [mtC]
theorem mtC_size {R : Array Value} {mv : Option Nat} {g : Int} : (mtC R mv g).size = R.size + 2 := by simp [mtC]
theorem mtC_0 {R : Array Value} {mv : Option Nat} {g : Int} {o : Nat} (h : R.size = o) : (mtC R mv g)[o]? = some (.map mv) := by subst h; simp [mtC]
theorem mtC_1 {R : Array Value} {mv : Option Nat} {g : Int} {o : Nat} (h : R.size = o) : (mtC R mv g)[o + 1]? = some (.int .i64 g) := by subst h; unfold mtC; rw [Array.getElem?_append_right (by omega), Nat.add_sub_cancel_left]; rfl
theorem mtC_else {R : Array Value} {mv : Option Nat} {g : Int} {j : Nat} (h : j < R.size) : (mtC R mv g)[j]? = R[j]? := by unfold mtC; rw [Array.getElem?_append_left h]
theorem mtC_ext {R : Array Value} {mv : Option Nat} {g : Int} {c : Array Value} (hs : c.size = R.size + 2) (h : ∀ j, j < R.size → c[j]? = R[j]?) (h0 : c[R.size]? = some (.map mv)) (h1 : c[R.size + 1]? = some (.int .i64 g)) : c = mtC R mv g := by
 apply Array.ext_getElem?
 intro j
 rcases Nat.lt_trichotomy j R.size with hj | rfl | hj
 ·rw [h j hj, mtC_else hj]
 ·rw [h0, mtC_0 rfl]
 ·by_cases e : j = R.size + 1
  ·subst e; rw [h1, mtC_1 rfl]
  ·rw [Array.getElem?_eq_none (by omega), Array.getElem?_eq_none (by rw [mtC_size]; omega)]
theorem mtC_s0 {R : Array Value} {mv m2 : Option Nat} {g : Int} {o : Nat} (h : R.size = o) : (mtC R mv g).setIfInBounds o (.map m2) = mtC R m2 g := by
 subst h
 refine mtC_ext (by rw [Array.size_setIfInBounds, mtC_size]) (fun j hj => by rw [Array.getElem?_setIfInBounds, if_neg (by omega), mtC_else hj]) (by rw [Array.getElem?_setIfInBounds, if_pos rfl, if_pos (by rw [mtC_size]; omega)]) (by rw [Array.getElem?_setIfInBounds, if_neg (by omega), mtC_1 rfl])
theorem mtC_s1 {R : Array Value} {mv : Option Nat} {g g2 : Int} {o : Nat} (h : R.size = o) : (mtC R mv g).setIfInBounds (o + 1) (.int .i64 g2) = mtC R mv g2 := by
 subst h
 refine mtC_ext (by rw [Array.size_setIfInBounds, mtC_size]) (fun j hj => by rw [Array.getElem?_setIfInBounds, if_neg (by omega), mtC_else hj]) (by rw [Array.getElem?_setIfInBounds, if_neg (by omega), mtC_0 rfl]) (by rw [Array.getElem?_setIfInBounds, if_pos rfl, if_pos (by rw [mtC_size]; omega)])
structure PtAt (T : Mk) (w : World) (t B : Nat) (so : Nat) (sR : Array Value) (mv : Option Nat) (l : List Se) (g : Int) : Prop where
 row : Oct.row w B = some (mtC sR mv g)
 tg : T B = t
 mp : MpV T w (t + 1) mv l
 sz : sR.size = so
def H2 (t : Nat) : Nat → Prop := fun c => c = t ∨ c = t + 1
theorem PtAt.fr {T T' : Mk} {H : Nat → Prop} {w w' : World} {t B : Nat} {mv : Option Nat} {l : List Se} {g : Int} (h : PtAt T w t B so sR mv l g) (hf : Fr T T' H w w') (h1 : ¬ H t) (h2 : ¬ H (t + 1)) (h0 : ¬ H 0) : PtAt T' w' t B so sR mv l g :=
 ⟨hf.rowAt h.row (by rw [h.tg]; exact h1), by rw [hf.tag B (zK h.row)]; exact h.tg, h.mp.fr hf h2 h0, h.sz⟩
theorem cells2T {w : World} {B : Nat} {mv : Option Nat} {g : Int} (h : row w B = some (mtC sR mv g)) (hs : sR.size = so) : w.cell? ⟨B, so, none⟩ = some (.map mv) ∧ w.cell? ⟨B, so + 1, none⟩ = some (.int .i64 g) := by
 simp only [zF h]
 exact ⟨mtC_0 hs, mtC_1 hs⟩
theorem pnext_any (B : Nat) (mv : Option Nat) (g : Int) (w : World) (hr : row w B = some (mtC sR mv g)) (hz : sR.size = so) (h0 : 0 ≤ g) (h1 : g < 1099511627776) :
  Calls Tryz.prog 79 #[.pointer (some ⟨B, so, none⟩)] w fun e w' => e = .returned (.int .i64 (g + 1)) ∧ w' = w := by
 obtain ⟨a0, a1⟩ := cells2T hr hz
 have hw : IntKind.i64.wrap (g + 1) = g + 1 := IntWalk.i64_in _ (by omega)
 clear hr
 go_enter Tryz.func79, Tryz.ntmps79
 go_wp2_with fail
 go_ret
 exact ⟨rfl, rfl⟩
theorem keep_any (T : Mk) (t B : Nat) (mv : Option Nat) (l l' : List Se) (g : Int) (x : Se) (A : Option Addr) (c : Nat) (w : World) (hP : PtAt T w t B so sR mv l g) (ht : 0 < t) (hi : i64B x.id) {tx : Nat} (hs : RdS T w tx A x.T c x.f) (htx : ¬ H2 t tx) (hn : x.T ≤ 140737488355328) (hl9 : l.length < 1000)
  (hH : ∀ j, ssH l' j = (ssH l j || x.id == j)) (hG : ∀ j s, ssG l' j = some s → (j = x.id ∧ s = x) ∨ (j ≠ x.id ∧ ssG l j = some s)) (hl : l'.length = if ssH l x.id then l.length else l.length + 1) :
  Calls Tryz.prog 80 #[.pointer (some ⟨B, so, none⟩), seV x (.slice A x.T c)] w fun e w' => e = .returned (.tuple #[]) ∧ ∃ T' mv', Fr T T' (H2 t) w w' ∧ PtAt T' w' t B so sR mv' l' g := by
 have hBl := zK hP.row
 obtain ⟨w1, hw1⟩ : ∃ w1, w1 = w.alloc (.cells #[.int .i64 x.id, .int .i64 x.q, .int .i64 x.c, .int .i64 x.n, .int .i64 x.m, .slice A x.T c] 121) := ⟨_, rfl⟩
 have bw : Below w.heap.size w w1 := by rw [hw1]; exact (Below.refl _ _).alloc (by simp) _
 have hz : w1.heap.size = w.heap.size + 1 := by rw [hw1]; simp
 have hB0 : w.heap.size ≠ B := by omega
 have F1 := Lib.hid (show Fr T (zH T w.heap.size 0) (H2 t) w w1 from Fr.new bw 0)
 have P1 := Lib.hid (hP.fr (Fr.new (H := fun _ => False) bw 0) (fun h => h) (fun h => h) (fun h => h))
 have S1 := Lib.hid (hs.fr (Fr.new (H := fun _ => False) bw 0) (fun h => h))
 have R1 := Lib.hid (show row w1 w.heap.size = some #[.int .i64 x.id, .int .i64 x.q, .int .i64 x.c, .int .i64 x.n, .int .i64 x.m, .slice A x.T c] by rw [hw1]; exact zA _ _ _ _ rfl)
 obtain ⟨T1, hT1⟩ : ∃ T1, T1 = zH T w.heap.size 0 := ⟨_, rfl⟩
 rw [← hT1] at F1 P1 S1
 clear hP bw hs hT1
 go_enter Tryz.func80, Tryz.ntmps80
 go_upto_region 1 with fail
 rw [← hw1]
 clear hw1
 have q := fun w => run_eql_map_nil_sl (P := Tryz.prog) w 79 _ _ mv seat_u
 obtain ⟨a0, a1⟩ := cells2T P1.out.row P1.out.sz
 rcases P1.out.mp with ⟨rfl, rfl⟩ | ⟨M, rfl, hTM, hM⟩
 ·have hmm := @run_makeMap Tryz.prog
  have f0 := zW P1.out.row so
  obtain ⟨w2, hw2⟩ : ∃ w2, w2 = (w1.setRow B (mtC sR (some (w.heap.size + 1)) g)).alloc (.map #[] 0) := ⟨_, rfl⟩
  have ez : (w1.setRow B (mtC sR (some (w.heap.size + 1)) g)).heap.size = w.heap.size + 1 := by rw [setRow_sizeS]; exact hz
  have b2 : Below w1.heap.size (w1.setRow B (mtC sR (some (w.heap.size + 1)) g)) w2 := by rw [hw2]; exact (Below.refl _ _).alloc (by rw [ez, hz]; omega) _
  have fA : Fr T1 T1 (fun c => c = t) w1 (w1.setRow B (mtC sR (some (w.heap.size + 1)) g)) := Fr.row P1.out.tg _
  have fB : Fr T1 (zH T1 w1.heap.size (t + 1)) (fun c => c = t) (w1.setRow B (mtC sR (some (w.heap.size + 1)) g)) w2 := by
   have := Fr.new (T := T1) (H := fun c => c = t) (w := w1.setRow B (mtC sR (some (w.heap.size + 1)) g)) (w' := w2) (by rw [setRow_sizeS]; exact b2) (t + 1)
   rw [setRow_sizeS] at this
   exact this
  have hrB : row (w1.setRow B (mtC sR (some (w.heap.size + 1)) g)) B = some (mtC sR (some (w.heap.size + 1)) g) := zD P1.out.row _
  have hM2 : MpAt (zH T1 w1.heap.size (t + 1)) w2 (w.heap.size + 1) [] := by
   have h := MpAt.made (zH T1 w1.heap.size (t + 1)) (w1.setRow B (mtC sR (some (w.heap.size + 1)) g))
   rw [← hw2, ez] at h
   exact h
  have P2 := Lib.hid (show PtAt (zH T1 w1.heap.size (t + 1)) w2 t B so sR (some (w.heap.size + 1)) [] g from
   ⟨by rw [hw2]; exact zI hrB _, by rw [zJ (zK P1.out.row)]; exact P1.out.tg, .inr ⟨_, rfl, zN (by omega), hM2⟩, P1.out.sz⟩)
  have F2 := Lib.hid ((F1.out.trans (fA.mono fun c hc => (.inl hc : H2 t c))).trans (fB.mono fun c hc => (.inl hc : H2 t c)))
  have R2 := Lib.hid (show row w2 w.heap.size = some #[.int .i64 x.id, .int .i64 x.q, .int .i64 x.c, .int .i64 x.n, .int .i64 x.m, .slice A x.T c] by rw [hw2]; exact zI ((zB _ _ _ _ hB0).trans R1.out) _)
  have S2 := Lib.hid ((S1.out.fr (fA.mono fun c hc => (.inl hc : H2 t c)) htx).fr (fB.mono fun c hc => (.inl hc : H2 t c)) htx)
  go_upto_region 3 with fail
  rw [zP P1.out.row, mtC_s0 P1.out.sz, ← hw2]
  obtain ⟨T2, hT2⟩ : ∃ T2, T2 = zH T1 w1.heap.size (t + 1) := ⟨_, rfl⟩
  rw [← hT2] at F2 P2 S2
  obtain ⟨M, hMM⟩ : ∃ M, M = w.heap.size + 1 := ⟨_, rfl⟩
  rw [← hMM] at P2
  obtain ⟨l0, hl0⟩ : ∃ l0 : List Se, l0 = [] := ⟨_, rfl⟩
  rw [← hl0] at P2 hl9 hH hG hl
  clear P1 F1 R1 S1 hw2 ez b2 fA fB hrB hM2 f0 hmm a0 a1 q hT2 hMM hl0
  refine yL [([0, 1, 2, 3, 4, 5, 6], 7, false), ([], 8, true)] [] (by kernel_rfl) (by kernel_rfl) (fun _ _ _ _ _ h => h) fun Z => ?_
  have F3 := Lib.hid (F2.out.trans (Fr.calm (H := H2 t) Z.below fun _ _ => rfl))
  have P3 := Lib.hid (P2.out.fr (Fr.calm (H := fun _ => False) Z.below fun _ _ => rfl) (fun h => h) (fun h => h) (fun h => h))
  have R3 := Lib.hid (zC Z.below R2.out)
  have S3 := Lib.hid (S2.out.fr (Fr.calm (H := fun _ => False) Z.below fun _ _ => rfl) (fun h => h))
  obtain ⟨w3, hw3⟩ : ∃ w3, w3 = Z.val := ⟨_, rfl⟩
  rw [← hw3] at F3 P3 R3 S3 ⊢
  clear hw3 Z R2 S2 F2 P2
  have H3 := Lib.hid (cseat_any x A c w3 S3.out.sl hn)
  have cB := fun y : After w3 => cells2T (After.row P3.out.row y) P3.out.sz
  have cR := fun y : After w3 => After.row R3.out y
  have cC := fun y : After w3 => cells6 (After.row R3.out y)
  simp only [wpFs, pk, List.getElem?_cons_zero, List.getElem?_cons_succ]
  repeat (go_big_quiet_step (fail))
  refine wpQuiet_nil ?_
  clear cB cR cC
  go_wp2_with fail
  refine H3.out.mono ?_
  rintro e w4 ⟨A', c', rfl, ho, hb⟩
  have F4 := Lib.hid (F3.out.trans (Fr.new (H := H2 t) hb 0))
  have P4 := Lib.hid (P3.out.fr (Fr.new (H := fun _ => False) hb 0) (fun h => h) (fun h => h) (fun h => h))
  have D4 := Lib.hid (ho.rdS T2 0)
  go_wp2_with fail
  refine ⟨.inr hb, ?_⟩
  clear ho hb H3 S3 R3 P3 F3
  obtain ⟨T4, hT4⟩ : ∃ T4, T4 = zH T2 w3.heap.size 0 := ⟨_, rfl⟩
  rw [← hT4] at F4 P4 D4
  clear hT4
  obtain ⟨hT, hM⟩ : T4 M = t + 1 ∧ MpAt T4 w4 M l0 := by
   rcases P4.out.mp with ⟨h, -⟩ | ⟨M', e, h1, h2⟩
   ·cases h
   ·cases e; exact ⟨h1, h2⟩
  obtain ⟨w5, hr, hM5, hF5, hz5⟩ := hM.put (H := fun c => c = t + 1) hi D4.out hT (by omega) hl9 hH hG hl
  have P5 := Lib.hid (show PtAt T4 w5 t B so sR (some M) l' g from ⟨hF5.rowAt P4.out.row (by rw [P4.out.tg]; omega), P4.out.tg, .inr ⟨M, rfl, hT, hM5⟩, P4.out.sz⟩)
  have F5 := Lib.hid (F4.out.trans (hF5.mono fun c hc => (.inr hc : H2 t c)))
  clear hM hM5 hF5 hT P4 F4 D4
  show wpQuiet _ _ _ _ _ _
  refine wpQuiet_nil ?_
  go_wp2_with fail
  refine ⟨.inl trivial, ?_⟩
  show wpQuiet _ _ _ _ _ _
  refine wpQuiet_nil ?_
  go_wp2_with fail
  exact bodyPost_end (v := .tuple #[]) (by simp [results, Tryz.results80, go_sem]) rfl ⟨rfl, _, _, F5.out, P5.out⟩
 ·obtain ⟨T2, hT2⟩ : ∃ T2, T2 = T1 := ⟨_, rfl⟩
  obtain ⟨l0, hl0⟩ : ∃ l0 : List Se, l0 = l := ⟨_, rfl⟩
  go_upto_region 3 with fail
  have P2 := P1
  have F2 := F1
  have R2 := R1
  have S2 := S1
  rw [← hT2] at F2 P2 S2
  rw [← hl0] at P2 hl9 hH hG hl
  clear P1 F1 R1 S1 a0 a1 q hT2 hTM hM hl0
  refine yL [([0, 1, 2, 3, 4, 5, 6], 7, false), ([], 8, true)] [] (by kernel_rfl) (by kernel_rfl) (fun _ _ _ _ _ h => h) fun Z => ?_
  have F3 := Lib.hid (F2.out.trans (Fr.calm (H := H2 t) Z.below fun _ _ => rfl))
  have P3 := Lib.hid (P2.out.fr (Fr.calm (H := fun _ => False) Z.below fun _ _ => rfl) (fun h => h) (fun h => h) (fun h => h))
  have R3 := Lib.hid (zC Z.below R2.out)
  have S3 := Lib.hid (S2.out.fr (Fr.calm (H := fun _ => False) Z.below fun _ _ => rfl) (fun h => h))
  obtain ⟨w3, hw3⟩ : ∃ w3, w3 = Z.val := ⟨_, rfl⟩
  rw [← hw3] at F3 P3 R3 S3 ⊢
  clear hw3 Z R2 S2 F2 P2
  have H3 := Lib.hid (cseat_any x A c w3 S3.out.sl hn)
  have cB := fun y : After w3 => cells2T (After.row P3.out.row y) P3.out.sz
  have cR := fun y : After w3 => After.row R3.out y
  have cC := fun y : After w3 => cells6 (After.row R3.out y)
  simp only [wpFs, pk, List.getElem?_cons_zero, List.getElem?_cons_succ]
  repeat (go_big_quiet_step (fail))
  refine wpQuiet_nil ?_
  clear cB cR cC
  go_wp2_with fail
  refine H3.out.mono ?_
  rintro e w4 ⟨A', c', rfl, ho, hb⟩
  have F4 := Lib.hid (F3.out.trans (Fr.new (H := H2 t) hb 0))
  have P4 := Lib.hid (P3.out.fr (Fr.new (H := fun _ => False) hb 0) (fun h => h) (fun h => h) (fun h => h))
  have D4 := Lib.hid (ho.rdS T2 0)
  go_wp2_with fail
  refine ⟨.inr hb, ?_⟩
  clear ho hb H3 S3 R3 P3 F3
  obtain ⟨T4, hT4⟩ : ∃ T4, T4 = zH T2 w3.heap.size 0 := ⟨_, rfl⟩
  rw [← hT4] at F4 P4 D4
  clear hT4
  obtain ⟨hT, hM⟩ : T4 M = t + 1 ∧ MpAt T4 w4 M l0 := by
   rcases P4.out.mp with ⟨h, -⟩ | ⟨M', e, h1, h2⟩
   ·cases h
   ·cases e; exact ⟨h1, h2⟩
  obtain ⟨w5, hr, hM5, hF5, hz5⟩ := hM.put (H := fun c => c = t + 1) hi D4.out hT (by omega) hl9 hH hG hl
  have P5 := Lib.hid (show PtAt T4 w5 t B so sR (some M) l' g from ⟨hF5.rowAt P4.out.row (by rw [P4.out.tg]; omega), P4.out.tg, .inr ⟨M, rfl, hT, hM5⟩, P4.out.sz⟩)
  have F5 := Lib.hid (F4.out.trans (hF5.mono fun c hc => (.inr hc : H2 t c)))
  clear hM hM5 hF5 hT P4 F4 D4
  show wpQuiet _ _ _ _ _ _
  refine wpQuiet_nil ?_
  go_wp2_with fail
  refine ⟨.inl trivial, ?_⟩
  show wpQuiet _ _ _ _ _ _
  refine wpQuiet_nil ?_
  go_wp2_with fail
  exact bodyPost_end (v := .tuple #[]) (by simp [results, Tryz.results80, go_sem]) rfl ⟨rfl, _, _, F5.out, P5.out⟩
variable {so : Nat} {sR : Array Value}
theorem se_b1 (x : Int) (w : World) : (Instr.build 121 #[(0, .int .i64 x)]).run Tryz.prog w = .ok (seV (.new x) (.slice none 0 0)) w := by kernel_rfl
theorem snew_any (T : Mk) (t : Nat) (w : World) : Calls Tryz.prog 30 #[] w fun e w' => ∃ B, e = .returned (.pointer (some ⟨B, 0, none⟩)) ∧ PtAt (zH T w.heap.size t) w' t B 0 #[] none [] 0 ∧ Below w.heap.size w w' := by
 go_enter Tryz.func30, Tryz.ntmps30
 go_wp2_with fail
 go_ret
 exact ⟨_, rfl, ⟨by rw [mtC_nil]; exact zA _ _ _ _ rfl, zN (Nat.le_refl _), .inl ⟨rfl, rfl⟩, rfl⟩, (Below.refl _ _).alloc (Nat.le_refl _) _⟩
theorem popen_any (T : Mk) (t B : Nat) (mv : Option Nat) (l : List Se) (g : Int) (w : World) (hP : PtAt T w t B so sR mv l g) (ht : 0 < t) (hK : SsOk l g) :
  Calls Tryz.prog 40 #[.pointer (some ⟨B, so, none⟩)] w fun e w' => e = .returned (.tuple #[.int .i64 (opN l g), .int .i64 (opE l g)]) ∧ ∃ T' mv', Fr T T' (H2 t) w w' ∧ PtAt T' w' t B so sR mv' (opSe l g) (opG l g) := by
 have hg0 := hK.g0
 have hg1 := hK.g1
 have hn8 := hK.n
 have HP := Lib.hid hP
 have H1 := Lib.hid (pnext_any B mv g w hP.row hP.sz hg0 hg1)
 have qL := fun ty => hP.mp.len ty
 obtain ⟨a0, a1⟩ := cells2T hP.row hP.sz
 have hnot : ssH l (g + 1) = false := hK.not (.inr (by omega))
 have H2' := Lib.hid (keep_any T t B mv l (l ++ [Se.new (g + 1)]) g (Se.new (g + 1)) none 0 w hP ht (by unfold i64B; simp only [Se.new]; omega) (tx := t + 2) (RdS.nil _ _ _ _) (by unfold H2; omega) (Nat.zero_le _) (by omega) (fun j => ssH_app _ _ _) (fun j s => ssG_app hnot) (by rw [show (Se.new (g + 1)).id = g + 1 from rfl, hnot]; simp))
 have bd1 := fun w => se_b1 (g + 1) w
 have HN := Lib.hid (show opN l g = if opF l g then 0 else g + 1 from rfl)
 have HE := Lib.hid (show opE l g = if opF l g then 134 else 0 from rfl)
 have HL := Lib.hid (show opSe l g = if opF l g then l else l ++ [Se.new (g + 1)] from rfl)
 have HG := Lib.hid (show opG l g = if opF l g then g else g + 1 from rfl)
 have HF := Lib.hid (show opF l g = (decide (l.length = 8) || decide (g + 1 = 1099511627776)) from rfl)
 clear hP hK hnot
 go_enter Tryz.func40, Tryz.ntmps40
 go_wp2_with fail
 refine H1.out.mono ?_
 rintro e w' ⟨rfl, rfl⟩
 by_cases h8 : l.length = 8
 ·have d8 : ((l.length : Int) == 8) = true := beq_iff_eq.2 (by omega)
  go_wp2_with fail
  have hF : opF l g = true := by rw [HF.out, h8]; rfl
  rw [HN.out, HE.out, HL.out, HG.out, hF]
  exact bodyPost_ret (v := .tuple #[.int .i64 0, .int .i64 134]) (by simp [results, Tryz.results40, go_sem]) rfl ⟨rfl, T, mv, Fr.refl _ _ _, HP.out⟩
 ·have d8 : ((l.length : Int) == 8) = false := beq_eq_false_iff_ne.2 (by omega)
  by_cases h9 : g + 1 = 1099511627776
  ·have d9 : (g + 1 == 1099511627776) = true := beq_iff_eq.2 h9
   go_wp2_with fail
   have hF : opF l g = true := by rw [HF.out, decide_eq_true h9, Bool.or_true]
   rw [HN.out, HE.out, HL.out, HG.out, hF]
   exact bodyPost_ret (v := .tuple #[.int .i64 0, .int .i64 134]) (by simp [results, Tryz.results40, go_sem]) rfl ⟨rfl, T, mv, Fr.refl _ _ _, HP.out⟩
  ·have d9 : (g + 1 == 1099511627776) = false := beq_eq_false_iff_ne.2 h9
   have hF : opF l g = false := by rw [HF.out, decide_eq_false h9, decide_eq_false h8]; rfl
   clear h9
   go_wp2_with fail
   refine H2'.out.mono ?_
   rintro e w2 ⟨rfl, T2, mv2, hF2, hP2⟩
   obtain ⟨b0, b1⟩ := cells2T hP2.row hP2.sz
   have f1 := zW hP2.row (so + 1)
   have HF2 := Lib.hid hF2
   have HP2 := Lib.hid hP2
   clear hF2 hP2 a0 a1
   go_wp2_with fail
   rw [HN.out, HE.out, HL.out, HG.out, hF, zP HP2.out.row, mtC_s1 HP2.out.sz]
   have hF3 := Fr.row (T := T2) (H := fun c => c = t) (w := w2) (B := B) HP2.out.tg (mtC sR mv2 (g + 1))
   exact bodyPost_ret (v := .tuple #[.int .i64 (g + 1), .int .i64 0]) (by simp [results, Tryz.results40, go_sem]) rfl ⟨rfl, T2, mv2, HF2.out.trans (hF3.mono fun c hc => (.inl hc : H2 t c)), ⟨zD HP2.out.row _, HP2.out.tg, HP2.out.mp.fr hF3 (by omega) (by omega), HP2.out.sz⟩⟩
theorem pexp_any (T : Mk) (t B : Nat) (mv : Option Nat) (l : List Se) (g id : Int) (w : World) (hP : PtAt T w t B so sR mv l g) (ht : 0 < t) (hK : SsOk l g) (hi : i64B id) :
  Calls Tryz.prog 41 #[.pointer (some ⟨B, so, none⟩), .int .i64 id] w fun e w' => e = .returned (.int .i64 (exE l id)) ∧ ∃ T' mv', Fr T T' (H2 t) w w' ∧ PtAt T' w' t B so sR mv' (ssX l id) g := by
 obtain ⟨s, A, c, q1, q2, hs, hg⟩ := hP.mp.look hi (seat_z w)
 obtain ⟨a0, a1⟩ := cells2T hP.row hP.sz
 have HP := Lib.hid hP
 obtain ⟨w1, hw1⟩ : ∃ w1, w1 = w.alloc (.cells #[.int .i64 s.id, .int .i64 s.q, .int .i64 s.c, .int .i64 s.n, .int .i64 s.m, .slice A s.T c] 121) := ⟨_, rfl⟩
 have bw : Below w.heap.size w w1 := by rw [hw1]; exact (Below.refl _ _).alloc (by simp) _
 have P1 := Lib.hid (hP.fr (Fr.new (H := fun _ => False) bw 0) (fun h => h) (fun h => h) (fun h => h))
 have F1 := Lib.hid (show Fr T (zH T w.heap.size 0) (H2 t) w w1 from Fr.new bw 0)
 have HX := Lib.hid (show exE l id = if ssH l id then 0 else 150 from rfl)
 have HU := Lib.hid hK.up
 have HXn := Lib.hid (ssX_none (l := l) (id := id))
 obtain ⟨b, hb⟩ : ∃ b, b = ssH l id := ⟨_, rfl⟩
 rw [← hb] at q1 HX HXn
 clear hP hK hs hg bw q2 hb
 go_enter Tryz.func41, Tryz.ntmps41
 go_upto_region 2 with fail
 rw [← hw1]
 clear hw1 q1 a0 a1
 obtain ⟨a0, a1⟩ := cells2T P1.out.row P1.out.sz
 cases b with
 | false =>
  have EX := Lib.hid (show exE l id = 150 from HX.out)
  have EL := Lib.hid (HXn.out rfl)
  clear HX HXn
  go_wp2_with fail
  go_ret
  rw [EX.out, EL.out]
  exact ⟨rfl, _, mv, F1.out, P1.out⟩
 | true =>
  obtain ⟨w2, hr, hM2, hF2, hz2⟩ := P1.out.mp.drop (H := fun c => c = t + 1) hi HU.out rfl (by omega) 0
  have EX := Lib.hid (show exE l id = 0 from HX.out)
  have P2 := Lib.hid (show PtAt (zH T w.heap.size 0) w2 t B so sR mv (ssX l id) g from ⟨hF2.rowAt P1.out.row (by rw [P1.out.tg]; omega), P1.out.tg, hM2, P1.out.sz⟩)
  have F2 := Lib.hid (F1.out.trans (hF2.mono fun c hc => (.inr hc : H2 t c)))
  clear HX HXn hM2 hF2
  go_wp2_with fail
  go_ret
  rw [EX.out]
  exact ⟨rfl, _, mv, F2.out, P2.out⟩
theorem se_f2 (x0 x1 x2 x3 x4 : Int) (V : Value) (w : World) : (Instr.field 121 (.agg #[.int .i64 x0, .int .i64 x1, .int .i64 x2, .int .i64 x3, .int .i64 x4, V]) 2).run Tryz.prog w = .ok (.agg #[.int .i64 x2, .int .i64 x3, .int .i64 x4, V]) w := by kernel_rfl
theorem rp_b0 (w : World) : (Instr.build 33 #[]).run Tryz.prog w = .ok (repV 0 0 0 (.slice none 0 0)) w := by kernel_rfl
theorem pask_any (T : Mk) (t B : Nat) (mv : Option Nat) (l : List Se) (g id q : Int) (w : World) (hP : PtAt T w t B so sR mv l g) (hK : SsOk l g) (hi : i64B id) :
  Calls Tryz.prog 81 #[.pointer (some ⟨B, so, none⟩), .int .i64 id, .int .i64 q] w fun e w' => ∃ A c, e = .returned (.tuple #[repV (akS l id q).c (akS l id q).n (akS l id q).m (.slice A (akS l id q).T c), .bool (akB l id q), .int .i64 (akE l id q)]) ∧
   Own w' w.heap.size 5 (.slice A (akS l id q).T c) (akS l id q).T (akS l id q).f ∧ Below w.heap.size w w' := by
 have bw0 : Below w.heap.size w (w.alloc (.cells #[.int .i64 0, .int .i64 0, .int .i64 0, .slice none 0 0] 33)) := (Below.refl _ _).alloc (by simp) _
 have P0 := hP.fr (Fr.new (H := fun _ => False) bw0 0) (fun h => h) (fun h => h) (fun h => h)
 obtain ⟨s, A, c, q1, q2, hs, hg⟩ := P0.mp.look hi (seat_z _)
 obtain ⟨a0, a1⟩ := cells2T P0.row P0.sz
 obtain ⟨w1, hw1⟩ : ∃ w1, w1 = (w.alloc (.cells #[.int .i64 0, .int .i64 0, .int .i64 0, .slice none 0 0] 33)).alloc (.cells #[.int .i64 s.id, .int .i64 s.q, .int .i64 s.c, .int .i64 s.n, .int .i64 s.m, .slice A s.T c] 121) := ⟨_, rfl⟩
 have bw : Below w.heap.size w w1 := by rw [hw1]; exact bw0.alloc (by simp) _
 have R1 := Lib.hid (show row w1 w.heap.size = some #[.int .i64 0, .int .i64 0, .int .i64 0, .slice none 0 0] by rw [hw1]; exact zI (zA _ _ _ _ rfl) _)
 have R2 := Lib.hid (show row w1 (w.heap.size + 1) = some #[.int .i64 s.id, .int .i64 s.q, .int .i64 s.c, .int .i64 s.n, .int .i64 s.m, .slice A s.T c] by rw [hw1]; exact zA _ _ _ _ (by simp))
 have B1 := Lib.hid bw
 have hz : w1.heap.size = w.heap.size + 2 := by rw [hw1]; simp
 have S1 := Lib.hid (show Sl w1 w1.heap.size A s.T c s.f by
  have h := hs.fr (Fr.new (H := fun _ => False) (show Below _ _ w1 by rw [hw1]; exact (Below.refl _ _).alloc (Nat.le_refl _) _) 0) (fun h => h)
  exact h.sl)
 have hn : s.T ≤ 140737488355328 := by
  rcases hg with h | ⟨-, -, rfl, -, -⟩
  ·exact hK.t s (ssG_some h).1
  ·exact Nat.zero_le _
 have HG := Lib.hid hg
 have H1 := Lib.hid (cseat_any s A c w1 S1.out hn)
 obtain ⟨b, hb⟩ : ∃ b, b = ssH l id := ⟨_, rfl⟩
 rw [← hb] at q1
 have HB := Lib.hid hb
 clear hP hK hs hg bw q2 hb P0 bw0 S1
 go_enter Tryz.func81, Tryz.ntmps81
 go_upto_region 2 with fail
 rw [← hw1]
 clear hw1 q1 a0 a1
 have bd0 := rp_b0
 have O0 := fun w' => Own.nil w' w.heap.size 5 (fun _ => 0#8)
 obtain ⟨a0, a1, a2, a3, a4, a5⟩ := cells6 R2.out
 have R1' := R1.out
 cases b with
 | false =>
  have hG : ssG l id = none := by
   rcases HG.out with h | ⟨-, h, -⟩
   ·have := HB.out; rw [ssH_G, h] at this; cases this
   ·exact h
  have E1 := Lib.hid (show akE l id q = 150 by unfold akE; rw [hG])
  have E2 := Lib.hid (show akB l id q = false by unfold akB; rw [hG])
  have E3 := Lib.hid (show akS l id q = .new 0 by unfold akS; rw [hG])
  clear hG HG HB
  go_wp2_with fail
  rw [E1.out, E2.out, E3.out]
  exact bodyPost_ret (v := .tuple #[repV 0 0 0 (.slice none 0 0), .bool false, .int .i64 150]) (res_ctt Tryz.results81 _ _ w.heap.size _ _ rfl (zD R1.out _) Tryz.underlying33 rfl (by kernel_rfl)) rfl ⟨none, 0, rfl, O0 _, zE B1.out (Nat.le_refl _) _⟩
 | true =>
  have hG : ssG l id = some s := by
   rcases HG.out with h | ⟨h, -⟩
   ·exact h
   ·rw [← HB.out] at h; cases h
  by_cases h1 : q < s.q
  ·have d1 : decide (q < s.q) = true := decide_eq_true h1
   have E1 := Lib.hid (show akE l id q = 151 by unfold akE; rw [hG]; exact if_pos (.inl h1))
   have E2 := Lib.hid (show akB l id q = false by unfold akB; rw [hG]; exact decide_eq_false (fun h => h.1 (.inl h1)))
   have E3 := Lib.hid (show akS l id q = .new 0 by unfold akS; rw [hG]; exact if_neg (fun h => h.1 (.inl h1)))
   clear hG HG HB h1
   go_wp2_with fail
   rw [E1.out, E2.out, E3.out]
   exact bodyPost_ret (v := .tuple #[repV 0 0 0 (.slice none 0 0), .bool false, .int .i64 151]) (res_ctt Tryz.results81 _ _ w.heap.size _ _ rfl (zD R1.out _) Tryz.underlying33 rfl (by kernel_rfl)) rfl ⟨none, 0, rfl, O0 _, zE B1.out (Nat.le_refl _) _⟩
  ·have d1 : decide (q < s.q) = false := decide_eq_false h1
   by_cases h2 : q < 1
   ·have d2 : decide (q < 1) = true := decide_eq_true h2
    have E1 := Lib.hid (show akE l id q = 151 by unfold akE; rw [hG]; exact if_pos (.inr h2))
    have E2 := Lib.hid (show akB l id q = false by unfold akB; rw [hG]; exact decide_eq_false (fun h => h.1 (.inr h2)))
    have E3 := Lib.hid (show akS l id q = .new 0 by unfold akS; rw [hG]; exact if_neg (fun h => h.1 (.inr h2)))
    clear hG HG HB h1 h2
    go_wp2_with fail
    rw [E1.out, E2.out, E3.out]
    exact bodyPost_ret (v := .tuple #[repV 0 0 0 (.slice none 0 0), .bool false, .int .i64 151]) (res_ctt Tryz.results81 _ _ w.heap.size _ _ rfl (zD R1.out _) Tryz.underlying33 rfl (by kernel_rfl)) rfl ⟨none, 0, rfl, O0 _, zE B1.out (Nat.le_refl _) _⟩
   ·have d2 : decide (q < 1) = false := decide_eq_false h2
    have hno : ¬ (q < s.q ∨ q < 1) := fun h => h.elim h1 h2
    have E1 := Lib.hid (show akE l id q = 0 by unfold akE; rw [hG]; exact if_neg hno)
    by_cases h3 : q = s.q
    ·have d3 : decide (s.q < q) = false := decide_eq_false (by omega)
     have E2 := Lib.hid (show akB l id q = true by unfold akB; rw [hG]; exact decide_eq_true ⟨hno, h3⟩)
     have E3 := Lib.hid (show akS l id q = s by unfold akS; rw [hG]; exact if_pos ⟨hno, h3⟩)
     clear hG HG HB h1 h2 hno h3
     have r2 := R2.out
     go_wp2_with fail
     refine H1.out.mono ?_
     rintro e w2 ⟨A', c', rfl, ho, hb⟩
     have R1x := zC hb R1.out
     have O2 := Lib.hid ho
     have B2 := Lib.hid (onto B1.out (by omega) hb)
     have qf := fun w => se_f2 s.id s.q s.c s.n s.m (.slice A' s.T c') w
     clear ho hb R1' r2 a0 a1 a2 a3 a4 a5 H1
     go_wp2_with fail
     rw [E1.out, E2.out, E3.out]
     exact bodyPost_ret (v := .tuple #[repV s.c s.n s.m (.slice A' s.T c'), .bool true, .int .i64 0]) (res_ctt Tryz.results81 _ _ w.heap.size _ _ rfl (zD R1x _) Tryz.underlying33 rfl (by kernel_rfl)) rfl
      ⟨A', c', rfl, (O2.out.setRow _ (fun e => by have := (World.ownsRow.lt O2.out _ e).1; omega) _).base (by omega), zE B2.out (Nat.le_refl _) _⟩
    ·have d3 : decide (s.q < q) = true := decide_eq_true (by omega)
     have E2 := Lib.hid (show akB l id q = false by unfold akB; rw [hG]; exact decide_eq_false (fun h => h3 h.2))
     have E3 := Lib.hid (show akS l id q = .new 0 by unfold akS; rw [hG]; exact if_neg (fun h => h3 h.2))
     clear hG HG HB h1 h2 hno h3
     go_wp2_with fail
     rw [E1.out, E2.out, E3.out]
     exact bodyPost_ret (v := .tuple #[repV 0 0 0 (.slice none 0 0), .bool false, .int .i64 0]) (res_ctt Tryz.results81 _ _ w.heap.size _ _ rfl (zD R1.out _) Tryz.underlying33 rfl (by kernel_rfl)) rfl ⟨none, 0, rfl, O0 _, zE B1.out (Nat.le_refl _) _⟩
variable {so : Nat} {sR : Array Value}
theorem se_b3 (x q c n m : Int) (V : Value) (w : World) : (Instr.build 121 #[(0, .int .i64 x), (1, .int .i64 q), (2, .agg #[.int .i64 c, .int .i64 n, .int .i64 m, V])]).run Tryz.prog w = .ok (.agg #[.int .i64 x, .int .i64 q, .int .i64 c, .int .i64 n, .int .i64 m, V]) w := by kernel_rfl
theorem pdone_any (T : Mk) (t B : Nat) (mv : Option Nat) (l : List Se) (g : Int) (x : Se) (A : Option Addr) (c : Nat) (w : World) (hP : PtAt T w t B so sR mv l g) (ht : 0 < t) (hK : SsOk l g) (hi : i64B x.id) {tx : Nat} (hs : RdS T w tx A x.T c x.f) (htx : ¬ H2 t tx) (hn : x.T ≤ 140737488355328) :
  Calls Tryz.prog 84 #[.pointer (some ⟨B, so, none⟩), .int .i64 x.id, .int .i64 x.q, repV x.c x.n x.m (.slice A x.T c)] w fun e w' => e = .returned (.int .i64 (dnE l x.id x.q)) ∧ ∃ T' mv', Fr T T' (H2 t) w w' ∧ PtAt T' w' t B so sR mv' (dnL l x) g := by
 have bw0 : Below w.heap.size w (w.alloc (.cells #[.int .i64 x.c, .int .i64 x.n, .int .i64 x.m, .slice A x.T c] 33)) := (Below.refl _ _).alloc (by simp) _
 have P0 := hP.fr (Fr.new (H := fun _ => False) bw0 0) (fun h => h) (fun h => h) (fun h => h)
 obtain ⟨s, A0, c0, q1, q2, hs0, hg⟩ := P0.mp.look hi (seat_z _)
 obtain ⟨a0, a1⟩ := cells2T P0.row P0.sz
 obtain ⟨w1, hw1⟩ : ∃ w1, w1 = (w.alloc (.cells #[.int .i64 x.c, .int .i64 x.n, .int .i64 x.m, .slice A x.T c] 33)).alloc (.cells #[.int .i64 s.id, .int .i64 s.q, .int .i64 s.c, .int .i64 s.n, .int .i64 s.m, .slice A0 s.T c0] 121) := ⟨_, rfl⟩
 have bw : Below w.heap.size w w1 := by rw [hw1]; exact bw0.alloc (by simp) _
 have R1 := Lib.hid (show row w1 w.heap.size = some #[.int .i64 x.c, .int .i64 x.n, .int .i64 x.m, .slice A x.T c] by rw [hw1]; exact zI (zA _ _ _ _ rfl) _)
 have R2 := Lib.hid (show row w1 (w.heap.size + 1) = some #[.int .i64 s.id, .int .i64 s.q, .int .i64 s.c, .int .i64 s.n, .int .i64 s.m, .slice A0 s.T c0] by rw [hw1]; exact zA _ _ _ _ (by simp))
 have F1 := Lib.hid (show Fr T (zH T w.heap.size 0) (H2 t) w w1 from Fr.new bw 0)
 have P1 := Lib.hid (hP.fr (Fr.new (H := fun _ => False) bw 0) (fun h => h) (fun h => h) (fun h => h))
 have S1 := Lib.hid (hs.fr (Fr.new (H := fun _ => False) bw 0) (fun h => h))
 obtain ⟨T1, hT1⟩ : ∃ T1, T1 = zH T w.heap.size 0 := ⟨_, rfl⟩
 rw [← hT1] at F1 P1 S1
 have H1 (hh : ssH l x.id = true) := keep_any T1 t B mv l (ssD l x) g x A c w1 P1.out ht hi S1.out htx hn (by have := hK.n; omega) (fun j => by
  rw [ssH_D l x hh]
  by_cases e : x.id = j
  ·subst e; rw [hh]; rfl
  ·rw [show (x.id == j) = false by simpa using e, Bool.or_false]) (fun j s => ssG_D) (by rw [hh, ssD_len]; rfl)
 have H1 := Lib.hid H1
 have bd3 := fun w => se_b3 x.id x.q x.c x.n x.m (.slice A x.T c) w
 have HG := Lib.hid hg
 obtain ⟨b, hb⟩ : ∃ b, b = ssH l x.id := ⟨_, rfl⟩
 rw [← hb] at q1
 have HB := Lib.hid hb
 clear hP hs hg bw q2 hb P0 bw0 S1 hs0 hT1 hK
 go_enter Tryz.func84, Tryz.ntmps84
 go_upto_region 2 with fail
 rw [← hw1]
 clear hw1 q1 a0 a1
 obtain ⟨a0, a1, a2, a3, a4, a5⟩ := cells6 R2.out
 have r1 := R1.out
 cases b with
 | false =>
  have hG : ssG l x.id = none := by
   rcases HG.out with h | ⟨-, h, -⟩
   ·have := HB.out; rw [ssH_G, h] at this; cases this
   ·exact h
  have hE : dnE l x.id x.q = 150 := by unfold dnE; rw [hG]
  have E1 := Lib.hid hE
  have E2 := Lib.hid (show dnL l x = l by unfold dnL; rw [hE]; exact if_neg (by omega))
  clear hG HG HB hE
  go_wp2_with fail
  go_ret
  rw [E1.out, E2.out]
  exact ⟨rfl, _, _, F1.out, P1.out⟩
 | true =>
  have hG : ssG l x.id = some s := by
   rcases HG.out with h | ⟨h, -⟩
   ·exact h
   ·rw [← HB.out] at h; cases h
  by_cases h1 : x.q ≤ s.q
  ·have d1 : decide (x.q ≤ s.q) = true := decide_eq_true h1
   have hE : dnE l x.id x.q = 151 := by unfold dnE; rw [hG]; exact if_pos h1
   have E1 := Lib.hid hE
   have E2 := Lib.hid (show dnL l x = l by unfold dnL; rw [hE]; exact if_neg (by omega))
   clear hG HG HB hE h1
   go_wp2_with fail
   go_ret
   rw [E1.out, E2.out]
   exact ⟨rfl, _, _, F1.out, P1.out⟩
  ·have d1 : decide (x.q ≤ s.q) = false := decide_eq_false h1
   have hE : dnE l x.id x.q = 0 := by unfold dnE; rw [hG]; exact if_neg h1
   have E1 := Lib.hid hE
   have E2 := Lib.hid (show dnL l x = ssD l x by unfold dnL; rw [hE]; exact if_pos rfl)
   have H1' := Lib.hid (H1.out HB.out.symm)
   clear hG HG HB hE h1 H1
   go_wp2_with fail
   refine H1'.out.mono ?_
   rintro e w2 ⟨rfl, T2, mv2, hF2, hP2⟩
   have F2 := Lib.hid (F1.out.trans hF2)
   have P2 := Lib.hid hP2
   clear hF2 hP2
   go_wp2_with fail
   go_ret
   rw [E1.out, E2.out]
   exact ⟨rfl, _, _, F2.out, P2.out⟩
variable {so : Nat} {sR : Array Value}
end Go.Proofs.YteffjpdcghlnlaaGreatDoor.Oct
