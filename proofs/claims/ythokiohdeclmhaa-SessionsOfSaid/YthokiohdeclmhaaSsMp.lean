/- sessions: a seat's cells; the program's map of seats: looked up, written, struck. -/
import Derived.Test.YthokiohdeclmhaaSsMath
import Derived.Test.YthokiohdeclmhaaElA
import Derived.Test.YthokiohdeclmhaaWiAll
import Derived.Maps.OwnSet
import Derived.Maps.Ext
import Derived.Lib.SlKeysI
namespace Go.Proofs.Ythokiohdeclmhaa.Oct
open Go.ChangeShapes Go.WideShapes Go.ChangeAt Go.RowKit Go.Maps
set_option linter.unusedVariables false

abbrev seV (s : Se) (D : Value) : Value := .agg #[.int .i64 s.id, .int .i64 s.q, .int .i64 s.c, .int .i64 s.n, .int .i64 s.m, D]
/-- a seat's cells, its bytes in a block that nobody writes -/
def seEl (T : Mk) (w : World) (s : Se) (vs : List Value) : Prop := ∃ A c, vs = [.int .i64 s.id, .int .i64 s.q, .int .i64 s.c, .int .i64 s.n, .int .i64 s.m, .slice A s.T c] ∧ RdS T w 0 A s.T c s.f
theorem seEl_ok : ElOk 6 seEl where
  len := fun {T w x vs} h => by obtain ⟨A, c, rfl, -⟩ := h; rfl
  one := fun {T w x vs} h v hv => by
    obtain ⟨A, c, rfl, -⟩ := h
    simp only [List.mem_cons, List.not_mem_nil, or_false] at hv
    rcases hv with rfl | rfl | rfl | rfl | rfl | rfl <;> rfl
  fr := fun h hf ht => by
    obtain ⟨A, c, rfl, h1⟩ := h
    exact ⟨A, c, rfl, h1.fr hf ht⟩
  re := fun h ht => by
    obtain ⟨A, c, rfl, h1⟩ := h
    exact ⟨A, c, rfl, h1.re ht⟩
/-- a map's element reads as itself -/
def RV : Value → Option (DataW Value × List MemPlace) := fun v => some (.held v, [])
theorem seat_u : Try.prog.underlying 59 = some (.map 3 50) := Try.underlying59
theorem seat_K : Keyed Try.prog 3 := int_keyed Try.underlying3
theorem id_wf {x : Int} (h : i64B x) : (Lit.int .i64 x).wf = true := by
  simp only [Lit.wf, IntKind.min, IntKind.max, IntKind.signed, IntKind.bits, Bool.and_eq_true, decide_eq_true_eq, if_true]
  omega
theorem id_key {x : Int} (h : i64B x) : keyOf Try.prog 3 (.int .i64 x) = some (.int .i64 x) := keyOf_int_mk Try.underlying3 (id_wf h)
theorem lit_ne {x y : Int} (h : x ≠ y) : Lit.int .i64 x ≠ Lit.int .i64 y := fun e => h (by cases e; rfl)
/-- block M is a map of the seats l -/
structure MpAt (T : Mk) (w : World) (M : Nat) (l : List Se) : Prop where
  ex : ∃ D : DataW Value, w.ownsMap Try.prog 3 RV M (Go.Maps.size D) D ∧ (∀ id, Go.Maps.has D (.int .i64 id) = ssH l id) ∧ (∀ id s, ssG l id = some s → ∃ vs, seEl T w s vs ∧ ∀ z, D.atKey (.int .i64 id) z = .held (.agg vs.toArray)) ∧ Go.Maps.size D = l.length
theorem ownsMap_tight {P : Program} {k : TypeId} {R : Value → Option (DataW Value × List MemPlace)} {w : World} {b n : Nat} {D : DataW Value} (h : w.ownsMap P k R b n D) : w.ownsMap P k R b (Go.Maps.size D) D := by
  obtain ⟨es, clock, hb, F, hs, rfl⟩ := h
  exact ⟨es, clock, hb, F, by simp [size, length_sorted], rfl⟩
theorem ownsMap_fr {P : Program} {k : TypeId} {R : Value → Option (DataW Value × List MemPlace)} {w w' : World} {T T' : Mk} {H : Nat → Prop} {b n : Nat} {D : DataW Value} (h : w.ownsMap P k R b n D) (hf : Fr T T' H w w') (ht : ¬ H (T b)) : w'.ownsMap P k R b n D := by
  have hl := h.lt
  obtain ⟨es, clock, hb, r⟩ := h
  exact ⟨es, clock, (hf.keep b hl ht).trans hb, r⟩
section
variable {T T' T2 : Mk} {H : Nat → Prop} {w w' : World} {M t : Nat} {l : List Se} {mv : Option Nat}
theorem MpAt.lt (h : MpAt T w M l) : M < w.heap.size := by obtain ⟨D, hD, -⟩ := h.ex; exact hD.lt
theorem MpAt.fr (h : MpAt T w M l) (hf : Fr T T' H w w') (ht : ¬ H (T M)) (h0 : ¬ H 0) : MpAt T' w' M l := by
  obtain ⟨D, h1, h2, h3, h4⟩ := h.ex
  exact ⟨D, ownsMap_fr h1 hf ht, h2, fun id s hs => by obtain ⟨vs, a, b⟩ := h3 id s hs; exact ⟨vs, seEl_ok.fr a hf h0, b⟩, h4⟩
theorem MpAt.re (h : MpAt T w M l) (ht : ∀ j, T j = 0 → T2 j = 0) : MpAt T2 w M l := by
  obtain ⟨D, h1, h2, h3, h4⟩ := h.ex
  exact ⟨D, h1, h2, fun id s hs => by obtain ⟨vs, a, b⟩ := h3 id s hs; exact ⟨vs, seEl_ok.re a ht, b⟩, h4⟩
/-- the same value, of no session or of a map with mark t -/
def MpV (T : Mk) (w : World) (t : Nat) (mv : Option Nat) (l : List Se) : Prop := (mv = none ∧ l = []) ∨ ∃ M, mv = some M ∧ T M = t ∧ MpAt T w M l
theorem MpV.fr (h : MpV T w t mv l) (hf : Fr T T' H w w') (ht : ¬ H t) (h0 : ¬ H 0) : MpV T' w' t mv l := by
  rcases h with h | ⟨M, rfl, hT, hM⟩
  · exact .inl h
  · exact .inr ⟨M, rfl, by rw [hf.tag M hM.lt]; exact hT, hM.fr hf (by rw [hT]; exact ht) h0⟩
abbrev nilS15 : Value := .slice none 0 0
/-- a look-up: whether it is there; it, or the zero seat -/
theorem MpV.look (h : MpV T w t mv l) {id : Int} (hi : i64B id) (hz : (zeroValue 50).run Try.prog w = .ok (seV (.new 0) nilS15) w) :
    ∃ s A c, (Instr.lookup 59 (.map mv) (.int .i64 id) true).run Try.prog w = .ok (.tuple #[seV s (.slice A s.T c), .bool (ssH l id)]) w ∧
      (Instr.lookup 59 (.map mv) (.int .i64 id) false).run Try.prog w = .ok (seV s (.slice A s.T c)) w ∧ RdS T w 0 A s.T c s.f ∧ (ssG l id = some s ∨ (ssH l id = false ∧ ssG l id = none ∧ s = .new 0 ∧ A = none ∧ c = 0)) := by
  have hkey := id_key hi
  have none_ (hg : ssG l id = none) (r1 : (Instr.lookup 59 (.map mv) (.int .i64 id) true).run Try.prog w = .ok (.tuple #[seV (.new 0) nilS15, .bool false]) w) (r2 : (Instr.lookup 59 (.map mv) (.int .i64 id) false).run Try.prog w = .ok (seV (.new 0) nilS15) w) : ∃ s A c, (Instr.lookup 59 (.map mv) (.int .i64 id) true).run Try.prog w = .ok (.tuple #[seV s (.slice A s.T c), .bool (ssH l id)]) w ∧
      (Instr.lookup 59 (.map mv) (.int .i64 id) false).run Try.prog w = .ok (seV s (.slice A s.T c)) w ∧ RdS T w 0 A s.T c s.f ∧ (ssG l id = some s ∨ (ssH l id = false ∧ ssG l id = none ∧ s = .new 0 ∧ A = none ∧ c = 0)) := by
    have hh : ssH l id = false := by rw [ssH_G, hg]; rfl
    exact ⟨.new 0, none, 0, by rw [hh]; exact r1, r2, RdS.nil _ _ _ _, .inr ⟨hh, hg, rfl, rfl, rfl⟩⟩
  rcases h with ⟨rfl, rfl⟩ | ⟨M, rfl, -, hM⟩
  · exact none_ rfl (look_nil true seat_K seat_u hz hkey) (look_nil false seat_K seat_u hz hkey)
  · obtain ⟨D, h1, h2, h3, h4⟩ := hM.ex
    obtain ⟨v, ps, hr, hv⟩ := h1.look_ok seat_K seat_u hz (zd := .held (seV (.new 0) nilS15)) (zp := []) rfl hkey
    obtain ⟨v', ps', hr', hv'⟩ := h1.lookup seat_K seat_u hz (zd := .held (seV (.new 0) nilS15)) (zp := []) rfl hkey
    have ev : DataW.held v = D.atKey (.int .i64 id) (.held (seV (.new 0) nilS15)) := congrArg Prod.fst (Option.some.inj hv)
    have ev' : DataW.held v' = D.atKey (.int .i64 id) (.held (seV (.new 0) nilS15)) := congrArg Prod.fst (Option.some.inj hv')
    have hh := h2 id
    cases hg : ssG l id with
    | none =>
      rw [ssH_G, hg] at hh
      rw [atKey_of_not_has hh] at ev ev'
      cases ev
      cases ev'
      rw [hh] at hr
      have hn := none_ hg hr hr'
      rw [hg] at hn
      exact hn
    | some s =>
      obtain ⟨vs, hs, hat⟩ := h3 id s hg
      obtain ⟨A, c, rfl, hrd⟩ := hs
      rw [hat] at ev ev'
      cases ev
      cases ev'
      exact ⟨s, A, c, by rw [← hh]; exact hr, hr', hrd, .inl rfl⟩
/-- how many -/
theorem MpV.len (h : MpV T w t mv l) (ty : TypeId) : (Builtin.len_ #[59] ty #[.map mv]).run Try.prog w = .ok (.int .i64 (l.length : Int)) w := by
  rcases h with ⟨rfl, rfl⟩ | ⟨M, rfl, -, hM⟩
  · exact len_nil seat_u ty
  · obtain ⟨D, h1, h2, h3, h4⟩ := hM.ex
    rw [← h4]
    exact h1.len seat_u ty
/-- one is struck -/
theorem MpV.drop (h : MpV T w t mv l) {id : Int} (hi : i64B id) (hup : l.Pairwise fun a b => a.id < b.id) (hH : H t) (h0 : ¬ H 0) (ty : TypeId) :
    ∃ w', (Builtin.delete_ #[59, 3] ty #[.map mv, .int .i64 id]).run Try.prog w = .ok (.tuple #[]) w' ∧ MpV T w' t mv (ssX l id) ∧ Fr T T H w w' ∧ w'.heap.size = w.heap.size := by
  have hkey := id_key hi
  rcases h with ⟨rfl, rfl⟩ | ⟨M, rfl, hT, hM⟩
  · exact ⟨w, drop_nil seat_K seat_u hkey ty, .inl ⟨rfl, rfl⟩, Fr.refl _ _ _, rfl⟩
  · have hlt := hM.lt
    obtain ⟨D, h1, h2, h3, h4⟩ := hM.ex
    obtain ⟨w', r, h1', ht⟩ := h1.drop seat_K seat_u hkey ty
    have hg := ht.grown
    have hF : Fr T T H w w' := ⟨hg.os, hg.tape, hg.output, hg.size, fun k hk hn => hg.block k hk (fun e => by cases e; exact hn (by rw [hT]; exact hH)), fun _ _ => rfl⟩
    refine ⟨w', r, .inr ⟨M, rfl, hT, D.del (.int .i64 id), ownsMap_tight h1', fun j => ?_, fun j s hs => ?_, ?_⟩, hF, ?_⟩
    · rw [ssH_X]
      by_cases e : j = id
      · subst e; rw [has_del_same]; simp
      · rw [has_del_other (lit_ne e), h2 j]; simp [e]
    · obtain ⟨hm, hj⟩ := ssG_some hs
      obtain ⟨hm1, hm2⟩ := List.mem_filter.1 hm
      have e : j ≠ id := by rw [← hj]; simpa using hm2
      have hs' : ssG l j = some s := by rw [← hj]; exact ssG_mem hup hm1
      obtain ⟨vs, a, b⟩ := h3 j s hs'
      exact ⟨vs, seEl_ok.fr a hF h0, fun z => by rw [atKey_del_other (lit_ne e)]; exact b z⟩
    · have e := size_del (k := .int .i64 id) (h1.tidy seat_K)
      rw [h2 id, h4] at e
      have e2 : (ssX l id).length + (if ssH l id then 1 else 0) = l.length := by
        clear e h4 h3 h2 h1 h1' r hM
        induction l with
        | nil => rfl
        | cons a r ih =>
          obtain ⟨p1, p2⟩ := List.pairwise_cons.1 hup
          have ih := ih p2
          unfold ssX ssH at ih ⊢
          rw [List.filter_cons, List.any_cons]
          by_cases e : a.id = id
          · have hn : (r.any fun s => s.id == id) = false := by
              rw [← Bool.not_eq_true, List.any_eq_true]
              rintro ⟨s, hs, hi⟩
              have := p1 s hs
              have : s.id = id := by simpa using hi
              omega
            rw [hn] at ih
            simp [e] at ih ⊢
            omega
          · simp [e] at ih ⊢
            omega
      omega
    · obtain ⟨es, ck, es', ck', _, rfl⟩ := ht; simp [Go.ChangeMaps.setBlock]
/-- one is laid in the place of another, or behind all -/
theorem MpAt.put (h : MpAt T w M l) {x : Se} {A : Option Addr} {c : Nat} (hi : i64B x.id) (hx : RdS T w 0 A x.T c x.f) (hT : H (T M)) (h0 : ¬ H 0) (hn : l.length < 1000) {l' : List Se} (hH : ∀ j, ssH l' j = (ssH l j || x.id == j)) (hG : ∀ j s, ssG l' j = some s → (j = x.id ∧ s = x) ∨ (j ≠ x.id ∧ ssG l j = some s)) (hl : l'.length = if ssH l x.id then l.length else l.length + 1) :
    ∃ w', (Instr.mapUpdate 59 (.map (some M)) (.int .i64 x.id) (seV x (.slice A x.T c))).run Try.prog w = .ok () w' ∧ MpAt T w' M l' ∧ Fr T T H w w' ∧ w'.heap.size = w.heap.size := by
  have hkey := id_key hi
  have hlt := h.lt
  obtain ⟨D, h1, h2, h3, h4⟩ := h.ex
  obtain ⟨w', r, h1', ht⟩ := h1.store seat_K seat_u (by unfold maxLen; omega) hkey (d := .held (seV x (.slice A x.T c))) (ps := []) rfl
  have hg := ht.grown
  have hF : Fr T T H w w' := ⟨hg.os, hg.tape, hg.output, hg.size, fun k hk hn => hg.block k hk (fun e => by cases e; exact hn hT), fun _ _ => rfl⟩
  have hk : WideAt.IsKeyLit (Lit.int .i64 x.id) := trivial
  refine ⟨w', r, ⟨D.put (.int .i64 x.id) (.held (seV x (.slice A x.T c))), ownsMap_tight h1', fun j => ?_, fun j s hs => ?_, ?_⟩, hF, ?_⟩
  · rw [hH]
    by_cases e : j = x.id
    · subst e; rw [has_put_same h1.isMap hk]; simp
    · rw [has_put_other (lit_ne e), h2 j]
      have : (x.id == j) = false := by simp; exact fun e' => e e'.symm
      rw [this, Bool.or_false]
  · rcases hG j s hs with ⟨rfl, rfl⟩ | ⟨e, hs'⟩
    · exact ⟨_, seEl_ok.fr ⟨A, c, rfl, hx⟩ hF h0, fun z => atKey_put_same h1.isMap hk _ z⟩
    · obtain ⟨vs, a, b⟩ := h3 j s hs'
      exact ⟨vs, seEl_ok.fr a hF h0, fun z => by rw [atKey_put_other (lit_ne e)]; exact b z⟩
  · rw [size_put (h1.tidy seat_K), h2 x.id, h4, hl]
  · obtain ⟨es, ck, es', ck', _, rfl⟩ := ht; simp [Go.ChangeMaps.setBlock]
/-- a new map -/
theorem MpAt.made (T : Mk) (w : World) : MpAt T (w.alloc (.map #[] 0)) w.heap.size [] :=
  ⟨.map [], World.ownsMap_made _ _ _ _, fun id => rfl, fun id s hs => (by cases hs), rfl⟩
end
/-- its keys, sorted -/
theorem MpAt.keys {T : Mk} {w : World} {M : Nat} {l : List Se} (h : MpAt T w M l) (hup : l.Pairwise fun a b => a.id < b.id) :
    ∃ D : DataW Value, w.ownsMap Try.prog 3 RV M (Go.Maps.size D) D ∧ Go.Maps.size D = l.length ∧ ∀ ss : List Int, ss.Perm (intKeys D) → ss.length = l.length ∧ ss.mergeSort leI = l.map Se.id := by
  obtain ⟨D, h1, h2, h3, h4⟩ := h.ex
  refine ⟨D, h1, h4, ?_⟩
  obtain ⟨es, hD, hpw, _⟩ := h1.entries seat_K
  obtain ⟨es', hD', hko⟩ := h1.keysOf
  obtain rfl : es = es' := by rw [hD] at hD'; simpa using hD'
  have h1' : (l.map Se.id).Pairwise (· < ·) := List.pairwise_map.2 hup
  have hp : (l.map Se.id).Perm (intKeys D) := by
    rw [hD]
    refine perm_intKeys hpw (fun p hp => by obtain ⟨v, hv⟩ := hko p hp; obtain ⟨x, _, hx, _⟩ := Maps.keyOf_i64 Try.underlying3 hv; exact ⟨x, hx⟩) (h1'.imp fun h => by omega) fun x => ?_
    rw [← hD, h2 x]
    unfold ssH
    rw [List.mem_map, List.any_eq_true]
    simp
  intro ss hss
  refine ⟨by rw [hss.length_eq, ← hp.length_eq, List.length_map], ?_⟩
  rw [mergeSort_of_perm_i (hss.trans hp.symm)]
  exact List.mergeSort_of_pairwise (h1'.imp fun h => by simp [leI]; omega)
end Go.Proofs.Ythokiohdeclmhaa.Oct
