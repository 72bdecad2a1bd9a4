/- copy of elements of k cells; contract of keyring's keyOf. -/
import Derived.Test.YtabchkcieddhpaaKpJ
import Derived.Laws.CopyRow
namespace Go.Proofs.Ytabchkcieddhpaa.Oct
open Go.ChangeShapes Go.WideShapes Go.ChangeAt Go.RowKit
set_option linter.unusedVariables false

theorem run_copyK {P : Program} {w : World} {dT sT ty elem : TypeId} {g o dLen dCap : Nat} {a : Addr} {sLen sCap k : Nat} {cur : Array Value} {cs : List Value}
    (hu : P.underlying dT = some (.slice elem)) (hs : (P.info? elem).map (·.size) = some k) (hr : row w g = some cur) (hn : cs.length = Nat.min sLen dLen * k)
    (hsrc : ∀ j v, cs[j]? = some v → w.cell? (a.add j) = some v) (hfit : o + cs.length ≤ cur.size) (h1 : ∀ v ∈ cs, v.oneCell' = true) :
    (Builtin.copy_ #[dT, sT] ty #[.slice (some ⟨g, o, none⟩) dLen dCap, .slice (some a) sLen sCap]).run P w = .ok (goInt (Nat.min sLen dLen)) (w.setRow g (spl cur o cs)) := by
  have hl := run_loadCells_list (P := P) w a cs hsrc
  have hst := run_stores (P := P) g o cs 0 cur w hr (by simpa using hfit) h1
  cases hq : P.info? elem with
  | none => simp [hq] at hs
  | some i =>
    have hi : i.size = k := by simpa [hq] using hs
    simp [Builtin.copy_, run_underlying hu, Builtin.lenOf, Builtin.firstCells, sizeOf, typeInfo, hq, hi, ← hn, hl, hst]
/-- versions copied into a key's cells -/
theorem wpl_copyK {P : Program} {w : World} {ops : Array Oper} {rest : List Oper} {o : Oper} {a : Act} {Q : Exit → Act → World → Prop} (hgd : o.guard = none) (d s : Operand) {dT sT u : TypeId}
    (ho : o.op = .call { callee := .builtin .copy, args := #[d, s], argTypes := #[dT, sT] }) (hu : P.underlying dT = some (.slice u)) (hz : (P.info? u).map (·.size) = some 34)
    {g : Nat} {cur : Array Value} (hr : row w g = some cur) (hsz : cur.size = 138) {A : Option Addr} {c : Nat} {l : List Ve} (hs : VRd w (.slice A l.length c) l) (h1 : 1 ≤ l.length) (h4 : l.length ≤ 4)
    (hd : a.eval d = .slice (some ⟨g, 1, none⟩) 4 4) (hv : a.eval s = .slice A l.length c)
    (h : wpList P ops Q rest (a.put o.dst (.int .i64 (l.length : Int))) (w.setRow g (spl cur 1 (vsC l)))) : wpList P ops Q (o :: rest) a w := by
  refine wpList_plain hgd fun K hK => ?_
  obtain ⟨A', c', e, hle, hm, hnil, hat⟩ := hs.at_
  simp only [Value.slice.injEq] at e
  obtain ⟨rfl, -, rfl⟩ := e
  obtain ⟨g', o', rfl, hg', hc'⟩ := hat (by omega)
  have hmin : Nat.min l.length 4 = l.length := Nat.min_eq_left h4
  have hlen := vsC_len l
  have hrun := run_copyK (P := P) (w := w) (dT := dT) (sT := sT) (ty := o.type) (g := g) (o := 1) (dLen := 4) (dCap := 4) (a := ⟨g', o', none⟩) (sLen := l.length) (sCap := c) (k := 34) (cur := cur) (cs := vsC l) hu hz hr (by rw [hmin, hlen])
    (fun j x hx => by
      have hj : j < l.length * 34 := by rw [← hlen]; exact (List.getElem?_eq_some_iff.1 hx).1
      rw [add_mid]
      have h1 := hc' (j / 34) (j % 34) (by omega) (by omega)
      rw [show o' + j = o' + j / 34 * 34 + j % 34 by omega, h1, ← vsC_get l (j / 34) (j % 34) (by omega) (by omega), show j / 34 * 34 + j % 34 = j by omega]
      exact hx) (by rw [hlen, hsz]; omega) (vsC_one l)
  rw [hmin] at hrun
  unfold Oper.wp
  simp only [execOp, ho, resolve, invoke, builtin, Sem.run_bind, Sem.run_pure, Result.andThen_ok, List.map_toArray, List.map_cons, List.map_nil, hd, hv, hrun]
  exact hK _ _ h
/- a key's literal -/
@[irreducible] def kyB (b : Bool) : Array Value := (Value.bool b :: (veL0 ++ (veL0 ++ (veL0 ++ (veL0 ++ [.int .i64 0]))))).toArray
@[go_sem] theorem key_b1 (b : Bool) (w : World) : (bdA 65 #[(0, .bool b)]).run Try.prog w = .ok (.agg (kyB b)) w := by unfold bdA kyB; kernel_rfl
theorem kyB_size (b : Bool) : (kyB b).size = 138 := by unfold kyB; cases b <;> kernel_rfl
theorem kyB_ones (b : Bool) : Ones (kyB b) := by
  unfold kyB Ones
  rw [← Array.all_toList]
  cases b <;> kernel_rfl
theorem kyB_0 (b : Bool) : (kyB b)[0]? = some (.bool b) := by unfold kyB; cases b <;> kernel_rfl
/-- a key that is made of a ring -/
def kyM (b : Bool) (l : List Ve) : Array Value := (spl (kyB b) 1 (vsC l)).setIfInBounds 137 (.int .i64 (l.length : Int))
theorem kyM_size (b : Bool) (l : List Ve) : (kyM b l).size = 138 := by unfold kyM; rw [Array.size_setIfInBounds, spl_sizeK, kyB_size]
theorem kyM_ones (b : Bool) (l : List Ve) : Ones (kyM b l) := ones_set (ones_spl _ _ _ (kyB_ones b) (vsC_one l)) rfl
theorem kyM_key (b : Bool) (l : List Ve) (h4 : l.length ≤ 4) : KyC (kyM b l) 0 ⟨b, l⟩ := by
  have hl := vsC_len l
  have hz := kyB_size b
  refine ⟨?_, ?_, h4, fun v hv j hj => ?_⟩
  · unfold kyM
    rw [Array.getElem?_setIfInBounds, if_neg (by omega), spl_get _ _ _ _ (by rw [hl, hz]; omega), if_neg (by omega), kyB_0]
  · unfold kyM
    rw [Nat.zero_add, Array.getElem?_setIfInBounds, if_pos rfl, if_pos (by rw [spl_sizeK, hz]; omega)]
  · have hm : v * 34 + 34 ≤ l.length * 34 := by have := Nat.mul_le_mul_right 34 (show v + 1 ≤ l.length by exact hv); omega
    unfold kyM
    rw [Array.getElem?_setIfInBounds, if_neg (by omega), spl_get _ _ _ _ (by rw [hl, hz]; omega), hl, if_pos (by omega), show 0 + 1 + v * 34 + j - 1 = v * 34 + j by omega]
    exact vsC_get l v j hv hj
theorem res_cK {P : Program} {fn : Func} {p : Tmp} {ty : TypeId} (h : fn.results = #[.cell p ty]) (tmps : Array Value) (w : World) (b : Nat) (c : Array Value) (d : TypeDesc)
    (hp : tmps.getD p undef = .pointer (some ⟨b, 0, none⟩)) (hr : row w b = some c) (hu : P.underlying ty = some d) (hd : d.isRow = true) (hi : (P.info? ty).map (·.size) = some c.size) :
    (results fn tmps).run P w = .ok (.agg c) w := by
  have hp2 : tmps[p]?.getD undef = .pointer (some ⟨b, 0, none⟩) := by simpa using hp
  simp only [results, h]
  simp [hp2, asAddr, ld_rowK hr hu hd hi]
set_option maxRecDepth 20000 in
set_option maxHeartbeats 4000000 in
theorem pko_any (o : Bool) (l : List Ve) (A : Option Addr) (c : Nat) (w : World) (hs : VRd w (.slice A l.length c) l) (h1 : 1 ≤ l.length) (h4 : l.length ≤ 4) :
    Calls Try.prog 41 #[.agg (rgA o (.slice A l.length c))] w fun e w' => e = .returned (.agg (kyM o l)) ∧ Below w.heap.size w w' := by
  obtain ⟨w1, hw1⟩ : ∃ w1, w1 = w.alloc (.cells (rgA o (.slice A l.length c)) 48) := ⟨_, rfl⟩
  obtain ⟨w2, hw2⟩ : ∃ w2, w2 = w1.alloc (.cells kyZ 65) := ⟨_, rfl⟩
  obtain ⟨w3, hw3⟩ : ∃ w3, w3 = w2.alloc (.cells (kyB o) 65) := ⟨_, rfl⟩
  have b1 : Below w.heap.size w w1 := by rw [hw1]; exact (Below.refl w.heap.size w).alloc (by simp) _
  have b2 : Below w1.heap.size w1 w2 := by rw [hw2]; exact (Below.refl _ _).alloc (by simp) _
  have b3 : Below w2.heap.size w2 w3 := by rw [hw3]; exact (Below.refl _ _).alloc (by simp) _
  have hs1 : w1.heap.size = w.heap.size + 1 := by rw [hw1]; simp
  have hs2 : w2.heap.size = w.heap.size + 1 + 1 := by rw [hw2]; simp [hs1]
  have r1 : row w1 w.heap.size = some (rgA o (.slice A l.length c)) := by rw [hw1]; exact row_alloc_at _ _ _ _ rfl
  have r2 : row w2 (w.heap.size + 1) = some kyZ := by rw [hw2, ← hs1]; exact row_alloc_at _ _ _ _ rfl
  have r3 : row w3 (w.heap.size + 1 + 1) = some (kyB o) := by rw [hw3, ← hs2]; exact row_alloc_at _ _ _ _ rfl
  have hst : ∀ (x : World) (X : Nat), stR Try.prog 65 138 x X 0 (.agg (kyB o)) (some kyZ) = .ok () (x.setRow X (kyB o)) := fun x X => stR_whole _ _ _ _ _ _ _ kyZ_size.symm (by rw [kyB_size, kyZ_size]) (kyB_ones o)
  have c1 : w1.cell? ⟨w.heap.size, 0, none⟩ = some (.bool o) := rgA_c0 r1
  have c2 := carry b2 r1
  have c3 : w2.cell? ⟨w.heap.size, 0, none⟩ = some (.bool o) := rgA_c0 c2
  have HW := Lib.hid (And.intro hw1 (And.intro hw2 hw3))
  rw [hw2, hw1] at c3
  clear hw1 hw2 hw3
  go_enter Try.func41, Try.ntmps41
  go_wp2_with fail
  obtain ⟨hw1, hw2, hw3⟩ := HW.out
  rw [← hw1, ← hw2, ← hw3]
  clear hw1 hw2 hw3 HW c1 c3 c2
  obtain ⟨Z, hZ⟩ : ∃ Z, Z = w.heap.size := ⟨_, rfl⟩
  have b123 := onto (onto b1 b1.size b2) (Nat.le_trans b1.size b2.size) b3
  have q1 : row w3 Z = some (rgA o (.slice A l.length c)) := by rw [hZ]; exact carry b3 (carry b2 r1)
  have q2 : row w3 (Z + 1) = some kyZ := by rw [hZ]; exact carry b3 r2
  have q3 : row w3 (Z + 1 + 1) = some (kyB o) := by rw [hZ]; exact r3
  have v3 := hs.below b123
  have hZs : w.heap.size ≤ Z := by omega
  rw [← hZ]
  have B3 := Lib.hid b123
  clear r1 r2 r3 b1 b2 b3 hs1 hs2 hs hZ b123
  refine flow_region [([0, 1, 2, 3], 4, false), ([5], 6, false)] [] (fun w' => ∃ x : RwB Z (rgA o (.slice A l.length c)), w' = x.val) (by kernel_rfl) (by kernel_rfl) (fun _ _ _ _ _ h => h) ⟨⟨w3.drewN 1, by rw [row_drewN]; exact q1⟩, rfl⟩ ?_
  have bd : Below w3.heap.size w3 (w3.drewN 1) := below_drewN (Below.refl _ _) 1
  obtain ⟨w4, hw4⟩ : ∃ w4, w4 = w3.drewN 1 := ⟨_, rfl⟩
  rw [← hw4] at bd ⊢
  have p1 := carry bd q1
  have p2 := carry bd q2
  have p3 := carry bd q3
  have v4 := v3.below bd
  have B4 := Lib.hid (onto B3.out B3.out.size bd)
  have hne : Nonempty (RwB Z (rgA o (.slice A l.length c))) := ⟨⟨w4, p1⟩⟩
  have k1 : ∀ z : RwB Z (rgA o (.slice A l.length c)), z.val.cell? ⟨Z, 1, none⟩ = some (.slice A l.length c) := fun z => rgA_c1 z.r1
  have hsl := vsa_sla (Z + 1 + 1)
  clear hw4 bd q1 q2 q3 v3 B3
  simp only [wpFl, pk, List.getElem?_cons_zero, List.getElem?_cons_succ]
  repeat (go_big_quiet_step (fail))
  refine wpQuiet_nil ?_
  clear k1
  go_wp2_with (refine wpl_copyK rfl (.tmp 8) (.tmp 10) rfl vers_u ver_i p3 (kyB_size o) v4 h1 h4 rfl rfl ?_)
  obtain ⟨w5, hw5⟩ : ∃ w5, w5 = w4.setRow (Z + 1 + 1) (spl (kyB o) 1 (vsC l)) := ⟨_, rfl⟩
  rw [← hw5]
  have s1 : row w5 Z = some (rgA o (.slice A l.length c)) := by rw [hw5, row_setRow_other _ _ _ _ (by omega)]; exact p1
  have s2 : row w5 (Z + 1) = some kyZ := by rw [hw5, row_setRow_other _ _ _ _ (by omega)]; exact p2
  have s3 : row w5 (Z + 1 + 1) = some (spl (kyB o) 1 (vsC l)) := by rw [hw5]; exact row_setRow p3 _
  have B5 := Lib.hid (show Below w.heap.size w w5 by rw [hw5]; exact below_setRow B4.out (by omega) _)
  clear hw5 p1 p2 p3 v4 hsl B4
  first | refine ⟨_, ⟨⟨w5, s1⟩, rfl⟩, ⟨⟨⟨w5, s1⟩, rfl⟩, fun _ h => h⟩, ?_⟩ | refine ⟨_, ⟨⟨w5, s1⟩, rfl⟩, .inr ⟨⟨⟨w5, s1⟩, rfl⟩, fun _ h => h⟩, ?_⟩
  show wpQuiet _ _ _ _ _ _
  repeat (go_big_quiet_step (fail))
  refine wpQuiet_nil ?_
  have hc0 : ∃ x, w5.cell? ⟨Z + 1 + 1, 137, none⟩ = some x := ⟨_, by rw [cell_row s3]; exact Array.getElem?_eq_getElem (by rw [spl_sizeK, kyB_size]; omega)⟩
  obtain ⟨x0, hx0⟩ := hc0
  have f5 : w5.frozen? ⟨Z + 1 + 1, 137, none⟩ = false := froz_row s3 _
  go_wp2_with fail
  obtain ⟨w6, hw6⟩ : ∃ w6, w6 = w5.setCell ⟨Z + 1 + 1, 137, none⟩ (.int .i64 (l.length : Int)) := ⟨_, rfl⟩
  rw [← hw6]
  have t1 : row w6 Z = some (rgA o (.slice A l.length c)) := by rw [hw6, row_setCell_other _ _ _ _ (by show Z ≠ Z + 1 + 1; omega)]; exact s1
  have t2 : row w6 (Z + 1) = some kyZ := by rw [hw6, row_setCell_other _ _ _ _ (by show Z + 1 ≠ Z + 1 + 1; omega)]; exact s2
  have t3 : row w6 (Z + 1 + 1) = some (kyM o l) := by rw [hw6, setCell_row s3]; exact row_setRow s3 _
  have B6 := Lib.hid (show Below w.heap.size w w6 by rw [hw6, setCell_row s3]; exact below_setRow B5.out (by omega) _)
  clear hw6 s1 s2 s3 B5 hx0 f5
  first | refine ⟨_, ⟨⟨w6, t1⟩, rfl⟩, ⟨⟨⟨w6, t1⟩, rfl⟩, fun _ h => h⟩, ?_⟩ | refine ⟨_, ⟨⟨w6, t1⟩, rfl⟩, .inr ⟨⟨⟨w6, t1⟩, rfl⟩, fun _ h => h⟩, ?_⟩
  show wpQuiet _ _ _ _ _ _
  refine wpQuiet_nil ?_
  have hld : ldR Try.prog 65 138 w6 (Z + 1 + 1) 0 (some (kyM o l)) = .ok (.agg (kyM o l)) w6 := ldR_whole _ _ _ _ _ _ (kyM_size o l).symm
  have hst6 : stR Try.prog 65 138 w6 (Z + 1) 0 (.agg (kyM o l)) (some kyZ) = .ok () (w6.setRow (Z + 1) (kyM o l)) := stR_whole _ _ _ _ _ _ _ kyZ_size.symm (by rw [kyM_size, kyZ_size]) (kyM_ones o l)
  go_wp2_with fail
  exact bodyPost_ret (v := .agg (kyM o l)) (res_cK rfl _ _ (Z + 1) _ _ rfl (row_setRow t2 _) Try.underlying65 rfl (by rw [kyM_size]; exact key_i)) rfl ⟨rfl, below_setRow B6.out (by omega) _⟩
end Go.Proofs.Ytabchkcieddhpaa.Oct
