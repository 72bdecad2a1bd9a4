/- What came in: replies within structs, calls, seats. -/
import Derived.Test.YthokiohdeclmhaaSsP
import Derived.Test.YthokiohdeclmhaaOpW
namespace Go.Proofs.Ythokiohdeclmhaa.Oct
open Go.ChangeShapes Go.WideShapes Go.ChangeAt Go.RowKit Go.Maps
set_option linter.unusedVariables false

section
variable {H : Type} {enc : TypeId × Value → H} {w : World} {base : Nat} {spare : Nat → Bool} {held : Bool}
theorem size4S {cs : List Value} (h : cs.length = 4) : ∃ a b c d, cs = [a, b, c, d] := by
  rcases cs with _ | ⟨a, _ | ⟨b, _ | ⟨c, _ | ⟨d, _ | ⟨x, r⟩⟩⟩⟩⟩
  all_goals first | (simp at h; done) | skip
  exact ⟨a, b, c, d, rfl⟩
theorem size6S {cs : List Value} (h : cs.length = 6) : ∃ a b c d e f, cs = [a, b, c, d, e, f] := by
  rcases cs with _ | ⟨a, _ | ⟨b, _ | ⟨c, _ | ⟨d, _ | ⟨e, _ | ⟨f, _ | ⟨x, r⟩⟩⟩⟩⟩⟩⟩
  all_goals first | (simp at h; done) | skip
  exact ⟨a, b, c, d, e, f, rfl⟩
theorem size7S {cs : List Value} (h : cs.length = 7) : ∃ a b c d e f g, cs = [a, b, c, d, e, f, g] := by
  rcases cs with _ | ⟨a, _ | ⟨b, _ | ⟨c, _ | ⟨d, _ | ⟨e, _ | ⟨f, _ | ⟨g, _ | ⟨x, r⟩⟩⟩⟩⟩⟩⟩⟩
  all_goals first | (simp at h; done) | skip
  exact ⟨a, b, c, d, e, f, g, rfl⟩
set_option maxRecDepth 20000 in
/-- a reply's cells -/
theorem el_rep {fuel : Nat} {cs : List Value} {x : DataW H × List MemPlace} {Z : Nat} (hl : cs.length = 4) (h : DataW.trod enc Try.prog w base spare held fuel 31 cs = some x) (hz : ∀ n ∈ x.1.weights Try.prog 31, n ≤ Z) :
    ∃ c n m A T k f, cs = [.int .i64 c, .int .i64 n, .int .i64 m, .slice A T k] ∧ Sl w w.heap.size A T k f ∧ i64B c ∧ i64B n ∧ i64B m ∧ T ≤ Z := by
  have h0 : Try.prog.cellsOf 5 = 1 := by kernel_rfl
  have b0 : Try.prog.bytesOf 5 = 1 := by kernel_rfl
  obtain ⟨m', hall⟩ := fldw_struct Try.underlying31 h hz
  obtain ⟨a0, a1, a2, a3, rfl⟩ := size4S hl
  obtain ⟨y0, e0, -⟩ := hall 0 _ rfl
  obtain ⟨y1, e1, -⟩ := hall 1 _ rfl
  obtain ⟨y2, e2, -⟩ := hall 2 _ rfl
  obtain ⟨y3, e3, z3⟩ := hall 3 _ rfl
  obtain ⟨c, ec, _, hc⟩ := DataW.trod_int (k := .i64) (by kernel_rfl) e0
  obtain ⟨n, en, _, hn⟩ := DataW.trod_int (k := .i64) (by kernel_rfl) e1
  obtain ⟨m, em, _, hm⟩ := DataW.trod_int (k := .i64) (by kernel_rfl) e2
  obtain ⟨A, T, k, f, ef, hf, hmm⟩ := fld_sl sli_u u8_u h0 e3
  rw [ef] at e3
  have hT := fldw_reach sli_u e3 z3
  rw [b0] at hT
  have ec' : a0 = .int .i64 c := List.head_eq_of_cons_eq (show [a0] = [.int .i64 c] from ec)
  have en' : a1 = .int .i64 n := List.head_eq_of_cons_eq (show [a1] = [.int .i64 n] from en)
  have em' : a2 = .int .i64 m := List.head_eq_of_cons_eq (show [a2] = [.int .i64 m] from em)
  have ef' : a3 = .slice A T k := List.head_eq_of_cons_eq (show [a3] = [.slice A T k] from ef)
  subst ec' en' em' ef'
  exact ⟨c, n, m, A, T, k, f, rfl, hf, wf_bd2 hc, wf_bd2 hn, wf_bd2 hm, by omega⟩
/-- a call of the plays: kind, session, number, reply -/
structure OpS where
  k : Int
  id : Int
  q : Int
  c : Int
  n : Int
  m : Int
  A : Option Addr
  T : Nat
  e : Nat
  f : Bf
abbrev osC (o : OpS) : List Value := [.int .i64 o.k, .int .i64 o.id, .int .i64 o.q, .int .i64 o.c, .int .i64 o.n, .int .i64 o.m, .slice o.A o.T o.e]
structure OsW (w : World) (o : OpS) : Prop where
  k : i64B o.k
  id : i64B o.id
  q : i64B o.q
  s : Sl w w.heap.size o.A o.T o.e o.f
set_option maxRecDepth 20000 in
theorem el_opS {fuel : Nat} {cs : List Value} {x : DataW H × List MemPlace} {Z : Nat} (hl : cs.length = 7) (h : DataW.trod enc Try.prog w base spare held fuel 33 cs = some x) (hz : ∀ n ∈ x.1.weights Try.prog 33, n ≤ Z) :
    ∃ o : OpS, cs = osC o ∧ OsW w o := by
  obtain ⟨m', hall⟩ := fldw_struct Try.underlying33 h hz
  obtain ⟨a0, a1, a2, a3, a4, a5, a6, rfl⟩ := size7S hl
  obtain ⟨y0, e0, -⟩ := hall 0 _ rfl
  obtain ⟨y1, e1, -⟩ := hall 1 _ rfl
  obtain ⟨y2, e2, -⟩ := hall 2 _ rfl
  obtain ⟨y3, e3, z3⟩ := hall 3 _ rfl
  obtain ⟨c, ec, _, hc⟩ := DataW.trod_int (k := .i64) (by kernel_rfl) e0
  obtain ⟨n, en, _, hn⟩ := DataW.trod_int (k := .i64) (by kernel_rfl) e1
  obtain ⟨m, em, _, hm⟩ := DataW.trod_int (k := .i64) (by kernel_rfl) e2
  obtain ⟨rc, rn, rm, A, T, k, f, er, hf, h1, h2, h3, -⟩ := el_rep (by rfl) e3 z3
  have ec' : a0 = .int .i64 c := List.head_eq_of_cons_eq (show [a0] = [.int .i64 c] from ec)
  have en' : a1 = .int .i64 n := List.head_eq_of_cons_eq (show [a1] = [.int .i64 n] from en)
  have em' : a2 = .int .i64 m := List.head_eq_of_cons_eq (show [a2] = [.int .i64 m] from em)
  have er' : [a3, a4, a5, a6] = [.int .i64 rc, .int .i64 rn, .int .i64 rm, .slice A T k] := er
  injection er' with g3 r
  injection r with g4 r
  injection r with g5 r
  injection r with g6 _
  subst ec' en' em' g3 g4 g5 g6
  exact ⟨⟨c, n, m, rc, rn, rm, A, T, k, f⟩, rfl, wf_bd2 hc, wf_bd2 hn, wf_bd2 hm, hf⟩
set_option maxRecDepth 20000 in
theorem el_seS {fuel : Nat} {cs : List Value} {x : DataW H × List MemPlace} {Z : Nat} (hl : cs.length = 6) (h : DataW.trod enc Try.prog w base spare held fuel 50 cs = some x) (hz : ∀ n ∈ x.1.weights Try.prog 50, n ≤ Z) :
    ∃ (s : Se) (A : Option Addr) (k : Nat), cs = [.int .i64 s.id, .int .i64 s.q, .int .i64 s.c, .int .i64 s.n, .int .i64 s.m, .slice A s.T k] ∧ Sl w w.heap.size A s.T k s.f ∧ (i64B s.id ∧ i64B s.q ∧ i64B s.c ∧ i64B s.n ∧ i64B s.m ∧ s.T ≤ Z) := by
  obtain ⟨m', hall⟩ := fldw_struct Try.underlying50 h hz
  obtain ⟨a0, a1, a2, a3, a4, a5, rfl⟩ := size6S hl
  obtain ⟨y0, e0, -⟩ := hall 0 _ rfl
  obtain ⟨y1, e1, -⟩ := hall 1 _ rfl
  obtain ⟨y2, e2, z2⟩ := hall 2 _ rfl
  obtain ⟨c, ec, _, hc⟩ := DataW.trod_int (k := .i64) (by kernel_rfl) e0
  obtain ⟨n, en, _, hn⟩ := DataW.trod_int (k := .i64) (by kernel_rfl) e1
  obtain ⟨rc, rn, rm, A, T, k, f, er, hf, h1, h2, h3, hT⟩ := el_rep (by rfl) e2 z2
  have ec' : a0 = .int .i64 c := List.head_eq_of_cons_eq (show [a0] = [.int .i64 c] from ec)
  have en' : a1 = .int .i64 n := List.head_eq_of_cons_eq (show [a1] = [.int .i64 n] from en)
  have er' : [a2, a3, a4, a5] = [.int .i64 rc, .int .i64 rn, .int .i64 rm, .slice A T k] := er
  injection er' with g3 r
  injection r with g4 r
  injection r with g5 r
  injection r with g6 _
  subst ec' en' g3 g4 g5 g6
  exact ⟨⟨c, n, rc, rn, rm, T, f⟩, A, k, rfl, hf, wf_bd2 hc, wf_bd2 hn, h1, h2, h3, hT⟩
theorem add_0S (a : Addr) : a.add 0 = a := by unfold Addr.add; simp
/-- elements that came in, by what one is -/
structure InS {α : Type} (k : Nat) (E : World → α → List Value → Prop) (w : World) (v : Value) (l : List α) : Prop where
  at_ : ∃ A c, v = .slice A l.length c ∧ l.length ≤ c ∧ c ≤ maxLen ∧ (0 < l.length → ∃ g o, A = some ⟨g, o, none⟩ ∧ g < w.heap.size ∧ ∀ i (hi : i < l.length), ∃ vs, E w l[i] vs ∧ ∀ j, j < k → w.cell? ⟨g, o + i * k + j, none⟩ = vs[j]?)
set_option maxRecDepth 20000 in
theorem open_ins {α : Type} [Inhabited α] {k : Nat} {E : World → α → List Value → Prop} {P : Program} {tt e : TypeId} (hu : P.underlying tt = some (.slice e)) (hk : P.cellsOf e = k) (hk0 : 0 < k)
    (hel : ∀ {fuel : Nat} {cs : List Value} {x : DataW H × List MemPlace}, cs.length = k → DataW.trod enc P w base spare held fuel e cs = some x → (∀ n ∈ x.1.weights P e, n ≤ 140737488351232) → ∃ o : α, E w o cs)
    {r : Reach} {b : Nat} {v : Value} {d : DataW H} {p : List MemPlace} (hv : Value.okWide P w r b tt v) (h : DataW.Trod enc P w base spare held tt v d p)
    {ts : List TypeId} {ds : List (DataW H)} (hz : (DataW.weightsEach P ts ds).all (· ≤ reachBytes) = true) {j : Nat} (htj : ts[j]? = some tt) (hdj : ds[j]? = some d) : ∃ l, InS k E w v l := by
  obtain ⟨a0, n0, c0, rfl⟩ := okWide_slice hu hv
  obtain ⟨fuel, hf⟩ := h
  rcases Deep.open_slice hu hf with ⟨hcs, _⟩ | ⟨a, len, cap, m, n, D, Pl, hcs, _, hl, hm, hmm, hxe, hx⟩
  · have e0 : (.slice a0 n0 c0 : Value) = .slice none 0 0 := by simpa [Value.cells] using hcs
    injection e0 with e1 e2 e3
    subst e1; subst e2; subst e3
    exact ⟨[], none, 0, rfl, Nat.le_refl _, Nat.zero_le _, fun hn => absurd hn (Nat.lt_irrefl 0)⟩
  · have e0 : (.slice a0 n0 c0 : Value) = .slice (some a) len cap := by simpa [Value.cells] using hcs
    injection e0 with e1 e2 e3
    subst e1; subst e2; subst e3
    have hlen : n0 ≤ m := by rw [hmm]; split <;> omega
    have hd : d = .slice ((List.range n0).map D) ((List.range (m - n0)).map fun j => D (n0 + j)) := congrArg Prod.fst hxe
    have er : reachBytes = 140737488351232 := by decide
    have hw : ∀ k ∈ d.weights P tt, k ≤ 140737488351232 := fun k hk => by
      have := List.all_eq_true.1 hz k (DataW.weights_mem_each htj hdj k hk)
      rw [← er]
      simpa using this
    have hwi : ∀ i, i < n0 → ∀ k ∈ (D i).weights P e, k ≤ 140737488351232 := fun i hi k hk => by
      refine hw k ?_
      rw [hd]
      simp only [DataW.weights, hu, List.mem_cons, List.mem_append]
      exact .inr (.inl (weights_all (List.mem_map.2 ⟨i, List.mem_range.2 hi, rfl⟩) k hk))
    have hsp : 0 < n0 → a.spot = none ∧ a.block < w.heap.size := fun hn => by
      obtain ⟨cs0, hcl0, _⟩ := hx 0 (by omega)
      rw [hk] at hcl0
      obtain ⟨_, hl0, hcell0⟩ := World.cells?_some hcl0
      have hc0 := hcell0 0 (by omega)
      rw [List.getElem?_eq_getElem (by omega)] at hc0
      rw [Nat.zero_mul, add_0S, add_0S] at hc0
      have h1 := World.cell?_spot hc0
      obtain ⟨g, o, s⟩ := a
      have hs' : s = none := h1
      subst hs'
      have h2 := World.block_lt_of_cell? w _ hc0
      exact ⟨rfl, h2⟩
    have hb : ∀ i : Nat, ∃ O : α, i < n0 → ∃ vs, E w O vs ∧ ∀ j, j < k → w.cell? ⟨a.block, a.off + i * k + j, none⟩ = vs[j]? := fun i => by
      by_cases hi : i < n0
      · obtain ⟨cs', hcl, htr⟩ := hx i (by omega)
        rw [hk] at hcl
        obtain ⟨hb', hl5, hcell⟩ := World.cells?_some hcl
        obtain ⟨O, e⟩ := hel hl5 htr (hwi i hi)
        refine ⟨O, fun _ => ⟨cs', e, fun j hj => ?_⟩⟩
        have h1 := hcell j (by omega)
        have h2 := (hsp (by omega)).1
        obtain ⟨g, o, s⟩ := a
        have hs' : s = none := h2
        subst hs'
        simp only [add_mid] at h1
        exact h1
      · exact ⟨default, fun e => absurd e hi⟩
    obtain ⟨X, hX⟩ := Classical.axiomOfChoice hb
    have hlr : ((List.range n0).map X).length = n0 := by simp
    refine ⟨(List.range n0).map X, some a, c0, by rw [hlr], by rw [hlr]; exact hl, hm, fun hn => ?_⟩
    rw [hlr] at hn
    obtain ⟨h1, h2⟩ := hsp hn
    refine ⟨a.block, a.off, by obtain ⟨g, o, s⟩ := a; have hs' : s = none := h1; subst hs'; rfl, h2, fun i hi => ?_⟩
    have hi' : i < n0 := by rw [hlr] at hi; exact hi
    obtain ⟨vs, e, hc⟩ := hX i hi'
    exact ⟨vs, by rw [List.getElem_map, List.getElem_range]; exact e, hc⟩
end
instance : Inhabited Se := ⟨.new 0⟩
instance : Inhabited OpS := ⟨⟨0, 0, 0, 0, 0, 0, none, 0, 0, nF⟩⟩
abbrev osE (w : World) (o : OpS) (vs : List Value) : Prop := vs = osC o ∧ OsW w o
abbrev seE (w : World) (s : Se) (vs : List Value) : Prop := ∃ A k, vs = [.int .i64 s.id, .int .i64 s.q, .int .i64 s.c, .int .i64 s.n, .int .i64 s.m, .slice A s.T k] ∧ Sl w w.heap.size A s.T k s.f ∧ (i64B s.id ∧ i64B s.q ∧ i64B s.c ∧ i64B s.n ∧ i64B s.m ∧ s.T ≤ 140737488351232)
set_option maxRecDepth 20000 in
theorem open_opsS {H : Type} {enc : TypeId × Value → H} {w : World} {base : Nat} {spare : Nat → Bool} {held : Bool} {r : Reach} {b : Nat} {v : Value} {d : DataW H} {p : List MemPlace} (hv : Value.okWide Try.prog w r b 22 v) (h : DataW.Trod enc Try.prog w base spare held 22 v d p)
    {ts : List TypeId} {ds : List (DataW H)} (hz : (DataW.weightsEach Try.prog ts ds).all (· ≤ reachBytes) = true) {j : Nat} (htj : ts[j]? = some 22) (hdj : ds[j]? = some d) : ∃ l, InS 7 osE w v l :=
  open_ins Try.underlying22 (by kernel_rfl) (by omega) (fun hl ht hw => el_opS hl ht hw) hv h hz htj hdj
set_option maxRecDepth 20000 in
theorem open_seS {H : Type} {enc : TypeId × Value → H} {w : World} {base : Nat} {spare : Nat → Bool} {held : Bool} {r : Reach} {b : Nat} {v : Value} {d : DataW H} {p : List MemPlace} (hv : Value.okWide Try.prog w r b 43 v) (h : DataW.Trod enc Try.prog w base spare held 43 v d p)
    {ts : List TypeId} {ds : List (DataW H)} (hz : (DataW.weightsEach Try.prog ts ds).all (· ≤ reachBytes) = true) {j : Nat} (htj : ts[j]? = some 43) (hdj : ds[j]? = some d) : ∃ l, InS 6 seE w v l :=
  open_ins Try.underlying43 (by kernel_rfl) (by omega) (fun hl ht hw => el_seS hl ht hw) hv h hz htj hdj
end Go.Proofs.Ythokiohdeclmhaa.Oct
