/- Slices of bytes: what one reads as, cut, copied into an array, laid behind a row of the call's own. Of whatever program. -/
import Derived.Test.YtokhldihfbaeoaaBf
import Derived.Test.YtokhldihfbaeoaaRow
import Derived.Below
import Derived.Maps.AppendAt
import Derived.Deep.AppendLies
import Derived.Laws.CopyRow
import Derived.Laws.IdiomCopy
namespace Go.Proofs.Ytokhldihfbaeoaa.Oct
open Go.RowKit

/-- a slice (its address, length, capacity) that reads as the first n bytes of b, in a block below B -/
structure Sl (w : World) (B : Nat) (A : Option Addr) (n c : Nat) (b : Bf) : Prop where
  le : n ≤ c
  at_ : 0 < n → ∃ g o, A = some ⟨g, o, none⟩ ∧ g < B ∧ ∀ i, i < n → w.cell? ⟨g, o + i, none⟩ = some (.int .u8 (I (b i)))
theorem Sl.nothing (w : World) (B : Nat) (A : Option Addr) (c : Nat) (b : Bf) : Sl w B A 0 c b := ⟨by omega, fun h => absurd h (by omega)⟩
theorem Sl.keep {w w' : World} {B n c : Nat} {A : Option Addr} {b : Bf} (h : Sl w B A n c b) (hk : ∀ g o, g < B → w'.cell? ⟨g, o, none⟩ = w.cell? ⟨g, o, none⟩) : Sl w' B A n c b :=
  ⟨h.le, fun hn => by
    obtain ⟨g, o, e, hg, hc⟩ := h.at_ hn
    exact ⟨g, o, e, hg, fun i hi => by rw [hk _ _ hg]; exact hc i hi⟩⟩
theorem Sl.below {w w' : World} {B n c : Nat} {A : Option Addr} {b : Bf} (h : Sl w B A n c b) (hb : Below B w w') : Sl w' B A n c b :=
  h.keep fun g o hg => hb.cell (p := ⟨g, o, none⟩) hg
theorem Sl.more {w : World} {B B' n c : Nat} {A : Option Addr} {b : Bf} (h : Sl w B A n c b) (hB : B ≤ B') : Sl w B' A n c b :=
  ⟨h.le, fun hn => by obtain ⟨g, o, e, hg, hc⟩ := h.at_ hn; exact ⟨g, o, e, by omega, hc⟩⟩
theorem Sl.congr {w : World} {B n c : Nat} {A : Option Addr} {b b' : Bf} (h : Sl w B A n c b) (hb : ∀ i, i < n → b i = b' i) : Sl w B A n c b' :=
  ⟨h.le, fun hn => by obtain ⟨g, o, e, hg, hc⟩ := h.at_ hn; exact ⟨g, o, e, hg, fun i hi => by rw [← hb i hi]; exact hc i hi⟩⟩
/-- all bytes of a block -/
theorem Sl.of_row {w : World} {g N : Nat} {f : Bf} (h : row w g = some (ba N f)) (B : Nat) (hB : g < B) : Sl w B (some ⟨g, 0, none⟩) N N f :=
  ⟨Nat.le_refl _, fun _ => ⟨g, 0, rfl, hB, fun i hi => by rw [cell_row h, Nat.zero_add, ba_get N f i hi]⟩⟩

theorem ba_1 (x : BitVec 8) : (#[.int .u8 (I x)] : Array Value) = ba 1 (fun _ => x) := by unfold ba; rfl
/-- a literal of one byte -/
theorem Sl.one (w : World) (u : TypeId) (x : BitVec 8) (B : Nat) (hB : w.heap.size < B) : Sl (w.alloc (.cells #[.int .u8 (I x)] u)) B (some ⟨w.heap.size, 0, none⟩) 1 1 (fun _ => x) :=
  Sl.of_row (by rw [ba_1]; exact row_alloc_at _ _ _ _ rfl) B hB
theorem Sl.drewN {w : World} {B n c : Nat} {A : Option Addr} {b : Bf} (h : Sl w B A n c b) (m : Nat) : Sl (w.drewN m) B A n c b := h.keep fun _ _ _ => rfl
/- cuts -/
def cutA (A : Option Addr) (c k : Nat) : Option Addr := if c = k then A else A.map (·.add k)
theorem Sl.from_ {w : World} {B n c : Nat} {A : Option Addr} {b : Bf} (h : Sl w B A n c b) (k : Nat) (hk : k ≤ n) : Sl w B (cutA A c k) (n - k) (c - k) (offF b k) := by
  refine ⟨by have := h.le; omega, fun hn => ?_⟩
  obtain ⟨g, o, rfl, hg, hc⟩ := h.at_ (by omega)
  have := h.le
  refine ⟨g, o + k, ?_, hg, fun i hi => ?_⟩
  · unfold cutA
    rw [if_neg (by omega)]
    simp only [Option.map_some]
    rw [add_mid]
  · rw [Nat.add_assoc]; exact hc (k + i) (by omega)
theorem Sl.upto {w : World} {B n c : Nat} {A : Option Addr} {b : Bf} (h : Sl w B A n c b) (k : Nat) (hk : k ≤ n) : Sl w B A k c b := by
  refine ⟨by have := h.le; omega, fun hn => ?_⟩
  obtain ⟨g, o, rfl, hg, hc⟩ := h.at_ (by omega)
  exact ⟨g, o, rfl, hg, fun i hi => hc i (by omega)⟩
section
variable {P : Program} {t u : TypeId}
theorem run_size1 (hz : (P.info? u).map (·.size) = some 1) (w : World) : (sizeOf u).run P w = .ok 1 w := by
  cases hq : P.info? u with
  | none => rw [hq] at hz; cases hz
  | some i =>
    rw [hq] at hz
    have h : i.size = 1 := Option.some.inj hz
    simp [sizeOf, typeInfo, hq, h]
theorem run_from (ht : P.underlying t = some (.slice u)) (hz : (P.info? u).map (·.size) = some 1) (A : Option Addr) (n c k : Nat) (hk : k ≤ n) (w : World) : (Instr.slice t (.slice A n c) (some (.int .i64 (k : Int))) none none).run P w = .ok (.slice (cutA A c k) (n - k) (c - k)) w := by
  have he : P.elem t = u := by simp [Program.elem, ht]
  rw [run_slice_l w t A n c (by rw [he]; exact ht) .i64 k (by omega) (by omega), he, run_size1 hz, Result.andThen_ok]
  simp [sliced, cutA, Int.toNat_natCast]
theorem run_upto (ht : P.underlying t = some (.slice u)) (hz : (P.info? u).map (·.size) = some 1) (A : Option Addr) (n c k : Nat) (hk : k ≤ c) (w : World) : (Instr.slice t (.slice A n c) none (some (.int .i64 (k : Int))) none).run P w = .ok (.slice A k c) w := by
  have he : P.elem t = u := by simp [Program.elem, ht]
  rw [run_slice_h w t A n c (by rw [he]; exact ht) .i64 k (by omega) (by omega), he, run_size1 hz, Result.andThen_ok]
  by_cases h0 : c = 0
  · subst h0; simp [sliced]
  · simp [sliced, Int.toNat_natCast, h0]
    cases A with
    | none => rfl
    | some a => simp [Addr.add]
end

/- copy into an array from its head -/
theorem copied (N m : Nat) (f b : Bf) (h : m ≤ N) : ((ba N f).toList.take 0 ++ (ba m b).toList ++ (ba N f).toList.drop (0 + (ba m b).toList.length)).toArray = ba N (putF f 0 m b) := by
  apply Array.ext_getElem?
  intro i
  have hl : (ba m b).toList.length = m := by rw [Array.length_toList, ba_size]
  simp only [List.take_zero, List.nil_append, Nat.zero_add, hl, List.getElem?_toArray]
  by_cases hi : i < m
  · rw [List.getElem?_append_left (by rw [hl]; exact hi), Array.getElem?_toList, ba_get m b i hi, ba_get N _ i (by omega)]
    simp [putF, hi]
  · rw [List.getElem?_append_right (by rw [hl]; omega), hl, List.getElem?_drop, show m + (i - m) = i by omega, Array.getElem?_toList]
    by_cases hn : i < N
    · rw [ba_get N _ i hn, ba_get N _ i hn]; simp [putF, hi]
    · rw [ba_none N _ i hn, ba_none N _ i hn]
theorem run_copyB {P : Program} {w : World} {dT sT ty u : TypeId} (hu : P.underlying dT = some (.slice u)) (hz : (P.info? u).map (·.size) = some 1) {g N dc : Nat} {f : Bf} (hr : row w g = some (ba N f))
    {B n c : Nat} {A : Option Addr} {b : Bf} (hs : Sl w B A n c b) {m : Nat} (hm : m = min n N) :
    (Builtin.copy_ #[dT, sT] ty #[.slice (some ⟨g, 0, none⟩) N dc, .slice A n c]).run P w = .ok (goInt m) (w.setRow g (ba N (putF f 0 m b))) := by
  by_cases h0 : m = 0
  · have e : ba N (putF f 0 m b) = ba N f := ba_ext fun k _ => by simp [putF, h0]
    rw [e, setRow_self hr, h0]
    exact run_copy_none w dT sT ty u _ _ N dc n c hu hz (by show min n N = 0; omega)
  · obtain ⟨a, o, rfl, _, hc⟩ := hs.at_ (by omega)
    obtain ⟨t, hg⟩ := row_is hr
    have hl : (ba m b).toList.length = m := by rw [Array.length_toList, ba_size]
    have h := run_copy_row (P := P) w dT sT ty u g 0 N dc ⟨a, o, none⟩ n c (ba N f) t (ba m b).toList hu hz hg (by rw [hl]; exact hm)
      (fun j v hv => by
        rw [Array.getElem?_toList] at hv
        by_cases hj : j < m
        · rw [ba_get m b j hj] at hv
          rw [add_mid, hc j (by omega), hv]
        · rw [ba_none m b j hj] at hv; cases hv)
      (by rw [hl, ba_size]; omega) (fun v hv => (Array.all_eq_true_iff_forall_mem.1 (ba_one m b)) v (by simpa using hv))
    rw [copied N m f b (by omega), hl] at h
    exact h
theorem wpl_copy {P : Program} {w : World} {ops : Array Oper} {rest : List Oper} {o : Oper} {a : Act} {Q : Exit → Act → World → Prop} (hgd : o.guard = none) (d s : Operand) (dT sT u : TypeId)
    (ho : o.op = .call { callee := .builtin .copy, args := #[d, s], argTypes := #[dT, sT] }) (hu : P.underlying dT = some (.slice u)) (hz : (P.info? u).map (·.size) = some 1)
    {g N dc : Nat} {f : Bf} (hr : row w g = some (ba N f)) {B n c : Nat} {A : Option Addr} {b : Bf} (hs : Sl w B A n c b) {m : Nat} (hm : m = min n N)
    (hd : a.eval d = .slice (some ⟨g, 0, none⟩) N dc) (hv : a.eval s = .slice A n c)
    (h : wpList P ops Q rest (a.put o.dst (.int .i64 (m : Int))) (w.setRow g (ba N (putF f 0 m b)))) : wpList P ops Q (o :: rest) a w := by
  refine wpList_plain hgd fun K hK => ?_
  have hrun := run_copyB (ty := o.type) (sT := sT) hu hz hr hs hm (dc := dc)
  unfold Oper.wp
  simp only [execOp, ho, resolve, invoke, builtin, Sem.run_bind, Sem.run_pure, Result.andThen_ok, List.map_toArray, List.map_cons, List.map_nil, hd, hv, hrun]
  exact hK _ _ h

/- a row of the call's own -/
def Own (w : World) (base : Nat) (u : TypeId) (v : Value) (n : Nat) (f : Bf) : Prop := w.ownsRow base u 1 v n (ba n f).toList
def catF (n : Nat) (f g : Bf) : Bf := fun i => if i < n then f i else g (i - n)
theorem catF_zero (f g : Bf) : catF 0 f g = g := by funext i; simp [catF]
theorem cat_ba (n m : Nat) (f g : Bf) : (ba n f).toList ++ (ba m g).toList = (ba (n + m) (catF n f g)).toList := by
  apply List.ext_getElem?
  intro i
  have hl : ∀ k (h : Bf), (ba k h).toList.length = k := fun k h => by rw [Array.length_toList, ba_size]
  by_cases hi : i < n
  · rw [List.getElem?_append_left (by rw [hl]; exact hi), Array.getElem?_toList, Array.getElem?_toList, ba_get n f i hi, ba_get (n + m) _ i (by omega)]
    simp [catF, hi]
  · rw [List.getElem?_append_right (by rw [hl]; omega), hl, Array.getElem?_toList, Array.getElem?_toList]
    by_cases hm : i < n + m
    · rw [ba_get m g _ (by omega), ba_get (n + m) _ i hm]; simp [catF, hi]
    · rw [ba_none m g _ (by omega), ba_none (n + m) _ i hm]
/-- as a slice that is read -/
theorem Own.sl {w : World} {base : Nat} {u : TypeId} {v : Value} {n : Nat} {f : Bf} (h : Own w base u v n f) : ∃ A c, v = .slice A n c ∧ Sl w w.heap.size A n c f ∧ c ≤ maxLen ∧ (A = none ∨ ∃ g, A = some ⟨g, 0, none⟩ ∧ base ≤ g) := by
  unfold Own at h
  rcases h.2 with ⟨rfl, h0⟩ | ⟨g, cap, cur, rfl, hb, hh, hc, hm, hcs, htk⟩
  · subst h0; exact ⟨none, 0, rfl, Sl.nothing _ _ _ _ _, Nat.zero_le _, .inl rfl⟩
  · refine ⟨_, _, rfl, ⟨hc, fun hn => ⟨g, 0, rfl, (Array.getElem?_eq_some_iff.1 hh).1, fun i hi => ?_⟩⟩, hm, .inr ⟨g, rfl, hb⟩⟩
    have e := h.cells (g := g) rfl i (.int .u8 (I (f i))) (by rw [Array.getElem?_toList, ba_get n f i hi])
    rw [add_mid] at e
    exact e
theorem Own.nil (w : World) (base : Nat) (u : TypeId) (f : Bf) : Own w base u (.slice none 0 0) 0 f := by
  unfold Own
  rw [show (ba 0 f).toList = [] from List.eq_nil_of_length_eq_zero (by rw [Array.length_toList, ba_size])]
  exact World.ownsRow_nil w base u 1
/-- an empty literal -/
theorem Own.empty (w : World) (base : Nat) (u : TypeId) (f : Bf) (hb : base ≤ w.heap.size) : Own (w.alloc (.cells #[] u)) base u (.slice (some ⟨w.heap.size, 0, none⟩) 0 0) 0 f := by
  unfold Own
  rw [show (ba 0 f).toList = [] from List.eq_nil_of_length_eq_zero (by rw [Array.length_toList, ba_size])]
  exact World.ownsRow_made w #[] 0 hb (Nat.zero_le _) rfl
theorem Own.below {w w' : World} {B base : Nat} {u : TypeId} {v : Value} {n : Nat} {f : Bf} (h : Own w base u v n f) (hb : Below B w w') (hB : w.heap.size ≤ B) : Own w' base u v n f := by
  unfold Own at h ⊢
  refine ⟨h.1, ?_⟩
  rcases h.2 with hn | ⟨g, cap, cur, rfl, hbg, hg, rest⟩
  · exact .inl hn
  · exact .inr ⟨g, cap, cur, rfl, hbg, by rw [hb.block g (by have := (Array.getElem?_eq_some_iff.1 hg).1; omega)]; exact hg, rest⟩
theorem Own.congr {w : World} {base : Nat} {u : TypeId} {v : Value} {n : Nat} {f f' : Bf} (h : Own w base u v n f) (e : ∀ i, i < n → f i = f' i) : Own w base u v n f' := by
  unfold Own at h ⊢; rwa [ba_ext e] at h
theorem Own.drewN {w : World} {base : Nat} {u : TypeId} {v : Value} {n : Nat} {f : Bf} (h : Own w base u v n f) (m : Nat) : Own (w.drewN m) base u v n f := h.below (below_drewN (Below.refl w.heap.size w) m) (Nat.le_refl _)
theorem Own.alloc {w : World} {base : Nat} {u : TypeId} {v : Value} {n : Nat} {f : Bf} (h : Own w base u v n f) (o : Obj) : Own (w.alloc o) base u v n f := h.below ((Below.refl w.heap.size w).alloc (Nat.le_refl _) o) (Nat.le_refl _)
/-- behind an append: what lay below the row's base is as it was -/
theorem Own.after {w w' a : World} {B base : Nat} {u : TypeId} {v : Value} {n : Nat} {f : Bf} (h : Own w base u v n f) (hg : w.grownBy w' v.ownBlock) (hb : Below B a w) (hB : B ≤ w.heap.size) (hbase : B ≤ base) : Below B a w' :=
  hb.grown hg hB (fun k hk => by have := (World.ownsRow.lt h k hk).1; omega)
theorem run_appB {P : Program} {w : World} {t ty u : TypeId} (ht : P.underlying t = some (.slice u)) (hi : (P.info? u).map (fun i => (i.zero, i.size, i.bytes)) = some (some (.int .u8 0), 1, 1))
    {base : Nat} {v : Value} {n : Nat} {f : Bf} (hown : Own w base u v n f) {B m c : Nat} {A : Option Addr} {g : Bf} (hs : Sl w B A m c g) (hnm : n + m ≤ 140737488355328) (hbase : base ≤ w.heap.size) :
    ∃ v' w', (Builtin.append_ #[t, t] ty #[v, .slice A m c]).run P w = .ok v' w' ∧ Own w' base u v' (n + m) (catF n f g) ∧ w.grownBy w' v.ownBlock ∧ (v'.ownBlock = v.ownBlock ∨ v'.ownBlock = some w.heap.size) := by
  cases hq : P.info? u with
  | none => rw [hq] at hi; cases hi
  | some i =>
    rw [hq] at hi
    have h0 : (i.zero, i.size, i.bytes) = (some (.int .u8 0), 1, 1) := Option.some.inj hi
    simp only [Prod.mk.injEq] at h0
    obtain ⟨z0, z1, z2⟩ := h0
    have hl : (ba m g).toList.length = m * 1 := by rw [Array.length_toList, ba_size]; omega
    rcases A with _ | ad
    · have hm : m = 0 := by
        rcases Nat.eq_zero_or_pos m with h | h
        · exact h
        · obtain ⟨_, _, e, _⟩ := hs.at_ h; cases e
      subst hm
      refine ⟨v, w, ?_, hown.congr fun i hi => by simp [catF, hi], ⟨rfl, rfl, rfl, Nat.le_refl _, fun _ _ _ => rfl⟩, .inl rfl⟩
      unfold Own at hown
      rcases hown.2 with ⟨rfl, rfl⟩ | ⟨g, cap, cur, rfl, _, _, hnc, _⟩
      · simp [Builtin.append_, run_underlying ht, sizeOf, typeInfo, hq, Builtin.lenOf, Builtin.firstCells]
      · simp [Builtin.append_, run_underlying ht, sizeOf, typeInfo, hq, Builtin.lenOf, Builtin.firstCells, hnc, storeCells]
    · obtain ⟨v', w', h1, h2, h3, _, h5⟩ := run_append_own_at (P := P) w base t ty u i (.int .u8 0) 1 1 ht hq z0 z1 z2 rfl (by decide) v n (ba n f).toList hown ad m c (ba m g).toList hl
        (fun j x hx => by
          rw [Array.getElem?_toList] at hx
          by_cases hj : j < m
          · rw [ba_get m g j hj] at hx
            obtain ⟨a, o, e, _, hc⟩ := hs.at_ (by omega)
            obtain rfl : ad = ⟨a, o, none⟩ := Option.some.inj e
            rw [add_mid, hc j hj, hx]
          · rw [ba_none m g j hj] at hx; cases hx)
        (fun x hx => (Array.all_eq_true_iff_forall_mem.1 (ba_one m g)) x (by simpa using hx)) (by unfold maxLen; omega) (by omega) hbase
      refine ⟨v', w', h1, ?_, h3, h5⟩
      unfold Own
      rw [← cat_ba]
      exact h2
theorem wp_appB {P : Program} {w : World} {o : Oper} {a : Act} {K : Act → World → Prop} {Q : Exit → Act → World → Prop} (s x : Operand) {t u : TypeId} (ho : o.op = .call { callee := .builtin .append, args := #[s, x], argTypes := #[t, t] })
    (ht : P.underlying t = some (.slice u)) (hi : (P.info? u).map (fun i => (i.zero, i.size, i.bytes)) = some (some (.int .u8 0), 1, 1))
    {base : Nat} {v : Value} {n : Nat} {f : Bf} (hown : Own w base u v n f) {B m c : Nat} {A : Option Addr} {g : Bf} (hs : Sl w B A m c g) (hnm : n + m ≤ 140737488355328) (hbase : base ≤ w.heap.size)
    (hv : a.eval s = v) (hx : a.eval x = .slice A m c)
    (h : ∀ v' w', Own w' base u v' (n + m) (catF n f g) → w.grownBy w' v.ownBlock → (v'.ownBlock = v.ownBlock ∨ v'.ownBlock = some w.heap.size) → K (a.put o.dst v') w') : o.wp P a w K Q := by
  obtain ⟨v', w', hr, h1, h2, h3⟩ := run_appB (ty := o.type) ht hi hown hs hnm hbase
  unfold Oper.wp execOp
  simp only [ho, resolve, invoke, builtin, Sem.run_bind, Sem.run_pure, Result.andThen_ok, List.map_toArray, List.map_cons, List.map_nil, hv, hx, hr]
  exact h v' w' h1 h2 h3
theorem wpl_appB {P : Program} {w : World} {ops : Array Oper} {rest : List Oper} {o : Oper} {a : Act} {Q : Exit → Act → World → Prop} (hgd : o.guard = none) (s x : Operand) {t u : TypeId} (ho : o.op = .call { callee := .builtin .append, args := #[s, x], argTypes := #[t, t] })
    (ht : P.underlying t = some (.slice u)) (hi : (P.info? u).map (fun i => (i.zero, i.size, i.bytes)) = some (some (.int .u8 0), 1, 1))
    {base : Nat} {v : Value} {n : Nat} {f : Bf} (hown : Own w base u v n f) {B m c : Nat} {A : Option Addr} {g : Bf} (hs : Sl w B A m c g) (hnm : n + m ≤ 140737488355328) (hbase : base ≤ w.heap.size)
    (hv : a.eval s = v) (hx : a.eval x = .slice A m c)
    (h : ∀ v' w', Own w' base u v' (n + m) (catF n f g) → w.grownBy w' v.ownBlock → (v'.ownBlock = v.ownBlock ∨ v'.ownBlock = some w.heap.size) → wpList P ops Q rest (a.put o.dst v') w') : wpList P ops Q (o :: rest) a w :=
  wpList_plain hgd fun _ hK => wp_appB s x ho ht hi hown hs hnm hbase hv hx fun v' w' h1 h2 h3 => hK _ _ (h v' w' h1 h2 h3)
end Go.Proofs.Ytokhldihfbaeoaa.Oct
