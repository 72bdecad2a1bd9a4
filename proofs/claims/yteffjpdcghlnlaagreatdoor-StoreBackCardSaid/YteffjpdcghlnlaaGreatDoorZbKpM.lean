import Derived.Test.YteffjpdcghlnlaaGreatDoorZbStB2
import Derived.Test.YteffjpdcghlnlaaGreatDoorZbKrAll
import Derived.Laws.CopyRow
set_option linter.unusedVariables false
set_option linter.unusedSimpArgs false
set_option maxHeartbeats 8000000
set_option maxRecDepth 20000
namespace Go.Proofs.YteffjpdcghlnlaaGreatDoor.Oct
open Go.ChangeShapes Go.WideShapes Go.ChangeAt Go.RowKit
theorem pisv_any (v : Ve) (w : World) : Calls Tryz.prog 201 #[.agg (veA v)] w fun e w' => e = .returned (.bool (vB v)) ∧ Below w.heap.size w w' := by
 have hb : ∀ z, Below w.heap.size w (w.alloc z) := fun z => (Below.refl w.heap.size w).alloc (by simp) z
 have HB := Lib.hid hb
 have hV : vB v = (decide (0 ≤ v.u) && decide (v.u ≤ 16) && !(v.g && !eqB 32 v.m (fun _ => 0#8))) := rfl
 clear hb
 cases hg : v.g <;> cases hz : eqB 32 v.m (fun _ => 0#8) <;> cases hu1 : decide (0 ≤ v.u) <;> cases hu2 : decide (v.u ≤ 16) <;> rw [hg, hz, hu1, hu2] at hV <;> rw [hV] <;> clear hV <;>
 ·go_enter Tryz.func201, Tryz.ntmps201
  go_wp2_with fail
  go_ret
  exact ⟨rfl, HB.out _⟩
theorem palv1_any (v : Ve) (F : Nat) (w : World) (hF : row w F = some #[.func (.func 201) #[] #[]]) :
  Calls Tryz.prog 241 #[.agg (veA v), .pointer (some ⟨F, 0, none⟩)] w fun e w' => e = .returned (.bool (!vB v)) ∧ Below w.heap.size w w' := by
 obtain ⟨w1, hw1⟩ : ∃ w1, w1 = w.alloc (.cells (veA v) 63) := ⟨_, rfl⟩
 have b1 : Below w.heap.size w w1 := by rw [hw1]; exact (Below.refl w.heap.size w).alloc (by simp) _
 have r1 : row w1 w.heap.size = some (veA v) := by rw [hw1]; exact zA _ _ _ _ rfl
 have rF : w1.cell? ⟨F, 0, none⟩ = some (.func (.func 201) #[] #[]) := by rw [zG (zE b1 hF)]; rfl
 have HW1 := Lib.hid hw1
 have B1 := Lib.hid b1
 rw [hw1] at rF r1
 clear hw1 b1 hF
 go_enter Tryz.func241, Tryz.ntmps241
 go_wp2_with fail
 rw [← HW1.out]
 refine (pisv_any v w1).mono ?_
 rintro e w2 ⟨rfl, hb⟩
 have HB := Lib.hid (onto B1.out B1.out.size hb)
 obtain ⟨b, hbv⟩ : ∃ b, b = vB v := ⟨_, rfl⟩
 rw [← hbv]
 have HV := Lib.hid hbv
 clear hb hbv
 go_wp2_with fail
 go_ret
 rw [HV.out]
 exact ⟨rfl, HB.out⟩
theorem all_no {l : List Ve} (k : Nat) (hk : k < l.length) (h : vB l[k] = false) : l.all vB = false := by
 cases hq : l.all vB
 ·rfl
 ·have := List.all_eq_true.1 hq _ (List.getElem_mem hk)
  rw [h] at this; cases this
theorem all_yes {l : List Ve} (h : ∀ j (hj : j < l.length), vB l[j] = true) : l.all vB = true := List.all_eq_true.2 fun v hv => by
 obtain ⟨i, hi, rfl⟩ := List.mem_iff_getElem.1 hv
 exact h i hi
theorem allR_no {l : Ks} (k : Nat) (hk : k < l.length) (h : rB l[k] = false) : l.all rB = false := by
 cases hq : l.all rB
 ·rfl
 ·have := List.all_eq_true.1 hq _ (List.getElem_mem hk)
  rw [h] at this; cases this
theorem allR_yes {l : Ks} (h : ∀ j (hj : j < l.length), rB l[j] = true) : l.all rB = true := List.all_eq_true.2 fun v hv => by
 obtain ⟨i, hi, rfl⟩ := List.mem_iff_getElem.1 hv
 exact h i hi
theorem pixv_any (l : List Ve) (s : Value) (F : Nat) (w : World) (hs : VRd w s l) (hl : l.length ≤ 1000000) (hF : row w F = some #[.func (.func 201) #[] #[]]) :
  Calls Tryz.prog 269 #[s, .func (.func 241) #[] #[.pointer (some ⟨F, 0, none⟩)]] w fun e w' => ∃ r : Int, e = .returned (.int .i64 r) ∧ ((l.all vB = true ∧ r = -1) ∨ (l.all vB = false ∧ 0 ≤ r)) ∧ Below w.heap.size w w' := by
 obtain ⟨A, c, rfl, hle, hmx, hnil, hat⟩ := hs.at_
 have HAT := Lib.hid hat
 have HF := Lib.hid hF
 obtain ⟨n, hn⟩ : ∃ n, n = l.length := ⟨_, rfl⟩
 have HN := Lib.hid hn
 rw [← hn] at hle hl ⊢
 clear hs hat hnil hF hn
 go_enter Tryz.func269, Tryz.ntmps269
 go_wp2_with fail
 go_loopw [8] (fun iv wr => ∃ i : Nat, i ≤ n ∧ iv = .int .i64 i ∧ Below w.heap.size w wr ∧ ∀ j (hj : j < l.length), j < i → vB l[j] = true) (fun iv _ => n - (intOf iv).toNat)
 case atStart => exact ⟨0, by omega, rfl, Below.refl _ _, fun j _ hj => absurd hj (by omega)⟩
 case round =>
  obtain ⟨k, hk, rfl, hb, hall⟩ := hrel
  obtain ⟨w1, rfl⟩ : ∃ w1 : World, w1 = wr := ⟨_, rfl⟩
  have HB := Lib.hid hb
  have HALL := Lib.hid hall
  clear hb hall
  by_cases hlk : k < n
  ·have hkl : k < l.length := by have := HN.out; omega
   obtain ⟨g2, o2, rfl, hg2, hc2⟩ := HAT.out (by omega)
   obtain ⟨x, hx⟩ : ∃ x, x = l[k] := ⟨_, rfl⟩
   have q2 : ldR Tryz.prog 63 34 w1 g2 (o2 + k * 34) (row w1 g2) = .ok (.agg (veA x)) w1 := ver_cells w1 g2 (o2 + k * 34) x fun j hj => by
    rw [hx, ← hc2 k j hkl hj]; exact HB.out.cell (p := ⟨g2, o2 + k * 34 + j, none⟩) hg2
   have HX := Lib.hid hx
   have HC := Lib.hid (palv1_any x F w1 (zE HB.out HF.out))
   obtain ⟨b, hbv⟩ : ∃ b, b = vB x := ⟨_, rfl⟩
   rw [← hbv] at HC
   have HV := Lib.hid hbv
   clear hc2 hx hbv
   go_wp2_with fail
   refine HC.out.mono ?_
   rintro e w2 ⟨rfl, hb2⟩
   have B2 := Lib.hid (onto HB.out HB.out.size hb2)
   clear HC hb2 q2
   cases b with
   | true =>
    go_wp2_with fail
    go_roundw
    case rel => exact ⟨k + 1, by omega, by go_num, B2.out, fun j hj hjk => by
     by_cases hjk2 : j < k
     ·exact HALL.out j hj hjk2
     ·obtain rfl : j = k := by omega
      rw [← HX.out]; exact HV.out.symm⟩
    case measure => simp [intOf]; omega
   | false =>
    have HE := Lib.hid (all_no k hkl (by rw [← HX.out]; exact HV.out.symm))
    go_wp2_with fail
    go_ret
    exact ⟨_, rfl, .inr ⟨HE.out, by omega⟩, B2.out⟩
  ·obtain rfl : k = n := by omega
   have HE := Lib.hid (all_yes (l := l) fun j hj => HALL.out j hj (by have := HN.out; omega))
   have hd : decide ((k : Int) < (k : Int)) = false := by simp
   go_wp2_with fail
   go_ret
   exact ⟨_, rfl, .inl ⟨HE.out, rfl⟩, HB.out⟩
theorem pctv_any (l : List Ve) (s : Value) (F : Nat) (w : World) (hs : VRd w s l) (hl : l.length ≤ 1000000) (hF : row w F = some #[.func (.func 201) #[] #[]]) :
  Calls Tryz.prog 240 #[s, .func (.func 241) #[] #[.pointer (some ⟨F, 0, none⟩)]] w fun e w' => e = .returned (.bool (!(l.all vB))) ∧ Below w.heap.size w w' := by
 have H1 := Lib.hid (pixv_any l s F w hs hl hF)
 obtain ⟨A, c, rfl, -⟩ := hs.at_
 obtain ⟨b, hb⟩ : ∃ b, b = l.all vB := ⟨_, rfl⟩
 rw [← hb] at H1 ⊢
 clear hs hF hb
 go_enter Tryz.func240, Tryz.ntmps240
 go_wp2_with fail
 refine H1.out.mono ?_
 rintro e w1 ⟨r, rfl, h, hb1⟩
 have B1 := Lib.hid hb1
 clear H1 hb1
 rcases h with ⟨rfl, rfl⟩ | ⟨rfl, h2⟩
 ·go_wp2_with fail
  go_ret
  exact ⟨rfl, B1.out⟩
 ·have hd : decide (0 ≤ r) = true := by simp; omega
  clear h2
  go_wp2_with fail
  go_ret
  exact ⟨rfl, B1.out⟩
theorem palv_any (l : List Ve) (s : Value) (w : World) (hs : VRd w s l) (hl : l.length ≤ 1000000) :
  Calls Tryz.prog 200 #[s, .func (.func 201) #[] #[]] w fun e w' => e = .returned (.bool (l.all vB)) ∧ Below w.heap.size w w' := by
 obtain ⟨w1, hw1⟩ : ∃ w1, w1 = w.alloc (.cells #[.func (.func 201) #[] #[]] 276) := ⟨_, rfl⟩
 have b1 : Below w.heap.size w w1 := by rw [hw1]; exact (Below.refl w.heap.size w).alloc (by simp) _
 have r1 : row w1 w.heap.size = some #[.func (.func 201) #[] #[]] := by rw [hw1]; exact zA _ _ _ _ rfl
 have H1 := Lib.hid (pctv_any l s w.heap.size w1 (hs.below b1) hl r1)
 obtain ⟨A, c, rfl, -⟩ := hs.at_
 obtain ⟨b, hb⟩ : ∃ b, b = l.all vB := ⟨_, rfl⟩
 rw [← hb] at H1 ⊢
 have HW1 := Lib.hid hw1
 have B1 := Lib.hid b1
 clear hs hb hw1 b1 r1
 go_enter Tryz.func200, Tryz.ntmps200
 go_wp2_with fail
 rw [← HW1.out]
 refine H1.out.mono ?_
 rintro e w2 ⟨rfl, hb2⟩
 have B2 := Lib.hid (onto B1.out B1.out.size hb2)
 clear hb2 H1
 go_wp2_with fail
 go_ret
 exact ⟨by simp, B2.out⟩
theorem pisr_any (o : Bool) (l : List Ve) (A : Option Addr) (c : Nat) (w : World) (hs : VRd w (.slice A l.length c) l) (hl : l.length ≤ 1000000) :
  Calls Tryz.prog 159 #[.agg (rgA o (.slice A l.length c))] w fun e w' => e = .returned (.bool (rB ⟨o, l⟩)) ∧ Below w.heap.size w w' := by
 obtain ⟨w1, hw1⟩ : ∃ w1, w1 = w.alloc (.cells (rgA o (.slice A l.length c)) 59) := ⟨_, rfl⟩
 have b1 : Below w.heap.size w w1 := by rw [hw1]; exact (Below.refl w.heap.size w).alloc (by simp) _
 have r1 : row w1 w.heap.size = some (rgA o (.slice A l.length c)) := by rw [hw1]; exact zA _ _ _ _ rfl
 have c1 : w1.cell? ⟨w.heap.size, 1, none⟩ = some (.slice A l.length c) := rgA_c1 r1
 have H1 := Lib.hid (palv_any l _ w1 (hs.below b1) hl)
 have hV : rB ⟨o, l⟩ = (decide (1 ≤ l.length) && decide (l.length ≤ 4) && l.all vB) := rfl
 obtain ⟨b, hb⟩ : ∃ b, b = l.all vB := ⟨_, rfl⟩
 rw [hV]
 rw [← hb] at H1 ⊢
 obtain ⟨n, hn⟩ : ∃ n, n = l.length := ⟨_, rfl⟩
 rw [← hn] at H1 hw1 c1 hl ⊢
 have HW1 := Lib.hid hw1
 have B1 := Lib.hid b1
 rw [hw1] at c1
 clear hV hs hb hw1 b1 r1 hn
 by_cases h1 : 1 ≤ n
 ·have d1 : decide ((1 : Int) ≤ (n : Int)) = true := by simp; omega
  have e1 : decide (1 ≤ n) = true := by simpa using h1
  by_cases h4 : n ≤ 4
  ·have d4 : decide ((n : Int) ≤ 4) = true := by simp; omega
   have e4 : decide (n ≤ 4) = true := by simpa using h4
   rw [e1, e4]
   go_enter Tryz.func159, Tryz.ntmps159
   go_wp2_with fail
   rw [← HW1.out]
   refine H1.out.mono ?_
   rintro e w2 ⟨rfl, hb2⟩
   have B2 := Lib.hid (onto B1.out B1.out.size hb2)
   clear hb2 H1
   go_wp2_with fail
   go_ret
   exact ⟨by simp, B2.out⟩
  ·have d4 : decide ((n : Int) ≤ 4) = false := by simp; omega
   have e4 : decide (n ≤ 4) = false := by simpa using h4
   rw [e1, e4]
   go_enter Tryz.func159, Tryz.ntmps159
   go_wp2_with fail
   rw [← HW1.out]
   go_ret
   exact ⟨rfl, B1.out⟩
 ·have d1 : decide ((1 : Int) ≤ (n : Int)) = false := by simp; omega
  have e1 : decide (1 ≤ n) = false := by simpa using h1
  rw [e1]
  go_enter Tryz.func159, Tryz.ntmps159
  go_wp2_with fail
  rw [← HW1.out]
  go_ret
  exact ⟨rfl, B1.out⟩
theorem run_copyK {P : Program} {w : World} {dT sT ty elem : TypeId} {g o dLen dCap : Nat} {a : Addr} {sLen sCap k : Nat} {cur : Array Value} {cs : List Value}
  (hu : P.underlying dT = some (.slice elem)) (hs : (P.info? elem).map (·.size) = some k) (hr : row w g = some cur) (hn : cs.length = Nat.min sLen dLen * k)
  (hsrc : ∀ j v, cs[j]? = some v → w.cell? (a.add j) = some v) (hfit : o + cs.length ≤ cur.size) (h1 : ∀ v ∈ cs, v.oneCell' = true) :
  (Builtin.copy_ #[dT, sT] ty #[.slice (some ⟨g, o, none⟩) dLen dCap, .slice (some a) sLen sCap]).run P w = .ok (goInt (Nat.min sLen dLen)) (w.setRow g (spl cur o cs)) := by
 have hl := run_loadCells_list (P := P) w a cs hsrc
 have hst := run_stores (P := P) g o cs 0 cur w hr (by simpa using hfit) h1
 cases hq : P.info? elem with
 | none => simp [hq] at hs
 | some i =>
  have hi : i.size = k := by simpa [hq] using hs
  simp [Builtin.copy_, run_underlying hu, Builtin.lenOf, Builtin.firstCells, sizeOf, typeInfo, hq, hi, ← hn, hl, hst]
theorem wpl_copyK {P : Program} {w : World} {ops : Array Oper} {rest : List Oper} {o : Oper} {a : Act} {Q : Exit → Act → World → Prop} (hgd : o.guard = none) (d s : Operand) {dT sT u : TypeId}
  (ho : o.op = .call { callee := .builtin .copy, args := #[d, s], argTypes := #[dT, sT] }) (hu : P.underlying dT = some (.slice u)) (hz : (P.info? u).map (·.size) = some 34)
  {g : Nat} {cur : Array Value} (hr : row w g = some cur) (hsz : cur.size = 138) {A : Option Addr} {c : Nat} {l : List Ve} (hs : VRd w (.slice A l.length c) l) (h1 : 1 ≤ l.length) (h4 : l.length ≤ 4)
  (hd : a.eval d = .slice (some ⟨g, 1, none⟩) 4 4) (hv : a.eval s = .slice A l.length c)
  (h : wpList P ops Q rest (a.put o.dst (.int .i64 (l.length : Int))) (w.setRow g (spl cur 1 (vsC l)))) : wpList P ops Q (o :: rest) a w := by
 refine wpList_plain hgd fun K hK => ?_
 obtain ⟨A', c', e, hle, hm, hnil, hat⟩ := hs.at_
 simp only [Value.slice.injEq] at e
 obtain ⟨rfl, -, rfl⟩ := e
 obtain ⟨g', o', rfl, hg', hc'⟩ := hat (by omega)
 have hmin : Nat.min l.length 4 = l.length := Nat.min_eq_left h4
 have hlen := vsC_len l
 have hrun := run_copyK (P := P) (w := w) (dT := dT) (sT := sT) (ty := o.type) (g := g) (o := 1) (dLen := 4) (dCap := 4) (a := ⟨g', o', none⟩) (sLen := l.length) (sCap := c) (k := 34) (cur := cur) (cs := vsC l) hu hz hr (by rw [hmin, hlen])
  (fun j x hx => by
   have hj : j < l.length * 34 := by rw [← hlen]; exact (List.getElem?_eq_some_iff.1 hx).1
   rw [yI]
   have h1 := hc' (j / 34) (j % 34) (by omega) (by omega)
   rw [show o' + j = o' + j / 34 * 34 + j % 34 by omega, h1, ← vsC_get l (j / 34) (j % 34) (by omega) (by omega), show j / 34 * 34 + j % 34 = j by omega]
   exact hx) (by rw [hlen, hsz]; omega) (vsC_one l)
 rw [hmin] at hrun
 unfold Oper.wp
 simp only [execOp, ho, resolve, invoke, builtin, Sem.run_bind, Sem.run_pure, Result.andThen_ok, List.map_toArray, List.map_cons, List.map_nil, hd, hv, hrun]
 exact hK _ _ h
@[irreducible] def kyB (b : Bool) : Array Value := (Value.bool b :: (veL0 ++ (veL0 ++ (veL0 ++ (veL0 ++ [.int .i64 0]))))).toArray
@[go_sem] theorem key_b1 (b : Bool) (w : World) : (bdA 73 #[(0, .bool b)]).run Tryz.prog w = .ok (.agg (kyB b)) w := by unfold bdA kyB; kernel_rfl
theorem kyB_size (b : Bool) : (kyB b).size = 138 := by unfold kyB; cases b <;> kernel_rfl
theorem kyB_ones (b : Bool) : Ones (kyB b) := by
 unfold kyB Ones
 rw [← Array.all_toList]
 cases b <;> kernel_rfl
theorem kyB_0 (b : Bool) : (kyB b)[0]? = some (.bool b) := by unfold kyB; cases b <;> kernel_rfl
def kyM (b : Bool) (l : List Ve) : Array Value := (spl (kyB b) 1 (vsC l)).setIfInBounds 137 (.int .i64 (l.length : Int))
theorem kyM_size (b : Bool) (l : List Ve) : (kyM b l).size = 138 := by unfold kyM; rw [Array.size_setIfInBounds, xJ, kyB_size]
theorem kyM_ones (b : Bool) (l : List Ve) : Ones (kyM b l) := ones_set (ones_spl _ _ _ (kyB_ones b) (vsC_one l)) rfl
theorem kyM_key (b : Bool) (l : List Ve) (h4 : l.length ≤ 4) : KyC (kyM b l) 0 ⟨b, l⟩ := by
 have hl := vsC_len l
 have hz := kyB_size b
 refine ⟨?_, ?_, h4, fun v hv j hj => ?_⟩
 ·unfold kyM
  rw [Array.getElem?_setIfInBounds, if_neg (by omega), yY _ _ _ _ (by rw [hl, hz]; omega), if_neg (by omega), kyB_0]
 ·unfold kyM
  rw [Nat.zero_add, Array.getElem?_setIfInBounds, if_pos rfl, if_pos (by rw [xJ, hz]; omega)]
 ·have hm : v * 34 + 34 ≤ l.length * 34 := by have := Nat.mul_le_mul_right 34 (show v + 1 ≤ l.length by exact hv); omega
  unfold kyM
  rw [Array.getElem?_setIfInBounds, if_neg (by omega), yY _ _ _ _ (by rw [hl, hz]; omega), hl, if_pos (by omega), show 0 + 1 + v * 34 + j - 1 = v * 34 + j by omega]
  exact vsC_get l v j hv hj
theorem res_cK {P : Program} {fn : Func} {p : Tmp} {ty : TypeId} (h : fn.results = #[.cell p ty]) (tmps : Array Value) (w : World) (b : Nat) (c : Array Value) (d : TypeDesc)
  (hp : tmps.getD p undef = .pointer (some ⟨b, 0, none⟩)) (hr : row w b = some c) (hu : P.underlying ty = some d) (hd : d.isRow = true) (hi : (P.info? ty).map (·.size) = some c.size) :
  (results fn tmps).run P w = .ok (.agg c) w := by
 have hp2 : tmps[p]?.getD undef = .pointer (some ⟨b, 0, none⟩) := by simpa using hp
 simp only [results, h]
 simp [hp2, asAddr, ld_rowK hr hu hd hi]
theorem pko_any (o : Bool) (l : List Ve) (A : Option Addr) (c : Nat) (w : World) (hs : VRd w (.slice A l.length c) l) (h1 : 1 ≤ l.length) (h4 : l.length ≤ 4) :
  Calls Tryz.prog 160 #[.agg (rgA o (.slice A l.length c))] w fun e w' => e = .returned (.agg (kyM o l)) ∧ Below w.heap.size w w' := by
 obtain ⟨w1, hw1⟩ : ∃ w1, w1 = w.alloc (.cells (rgA o (.slice A l.length c)) 59) := ⟨_, rfl⟩
 obtain ⟨w2, hw2⟩ : ∃ w2, w2 = w1.alloc (.cells kyZ 73) := ⟨_, rfl⟩
 obtain ⟨w3, hw3⟩ : ∃ w3, w3 = w2.alloc (.cells (kyB o) 73) := ⟨_, rfl⟩
 have b1 : Below w.heap.size w w1 := by rw [hw1]; exact (Below.refl w.heap.size w).alloc (by simp) _
 have b2 : Below w1.heap.size w1 w2 := by rw [hw2]; exact (Below.refl _ _).alloc (by simp) _
 have b3 : Below w2.heap.size w2 w3 := by rw [hw3]; exact (Below.refl _ _).alloc (by simp) _
 have hs1 : w1.heap.size = w.heap.size + 1 := by rw [hw1]; simp
 have hs2 : w2.heap.size = w.heap.size + 1 + 1 := by rw [hw2]; simp [hs1]
 have r1 : row w1 w.heap.size = some (rgA o (.slice A l.length c)) := by rw [hw1]; exact zA _ _ _ _ rfl
 have r2 : row w2 (w.heap.size + 1) = some kyZ := by rw [hw2, ← hs1]; exact zA _ _ _ _ rfl
 have r3 : row w3 (w.heap.size + 1 + 1) = some (kyB o) := by rw [hw3, ← hs2]; exact zA _ _ _ _ rfl
 have hst : ∀ (x : World) (X : Nat), stR Tryz.prog 73 138 x X 0 (.agg (kyB o)) (some kyZ) = .ok () (x.setRow X (kyB o)) := fun x X => stR_whole _ _ _ _ _ _ _ kyZ_size.symm (by rw [kyB_size, kyZ_size]) (kyB_ones o)
 have c1 : w1.cell? ⟨w.heap.size, 0, none⟩ = some (.bool o) := rgA_c0 r1
 have c2 := zE b2 r1
 have c3 : w2.cell? ⟨w.heap.size, 0, none⟩ = some (.bool o) := rgA_c0 c2
 have HW := Lib.hid (And.intro hw1 (And.intro hw2 hw3))
 rw [hw2, hw1] at c3
 clear hw1 hw2 hw3
 go_enter Tryz.func160, Tryz.ntmps160
 go_wp2_with fail
 obtain ⟨hw1, hw2, hw3⟩ := HW.out
 rw [← hw1, ← hw2, ← hw3]
 clear hw1 hw2 hw3 HW c1 c3 c2
 obtain ⟨Z, hZ⟩ : ∃ Z, Z = w.heap.size := ⟨_, rfl⟩
 have b123 := onto (onto b1 b1.size b2) (Nat.le_trans b1.size b2.size) b3
 have q1 : row w3 Z = some (rgA o (.slice A l.length c)) := by rw [hZ]; exact zE b3 (zE b2 r1)
 have q2 : row w3 (Z + 1) = some kyZ := by rw [hZ]; exact zE b3 r2
 have q3 : row w3 (Z + 1 + 1) = some (kyB o) := by rw [hZ]; exact r3
 have v3 := hs.below b123
 have hZs : w.heap.size ≤ Z := by omega
 rw [← hZ]
 have B3 := Lib.hid b123
 clear r1 r2 r3 b1 b2 b3 hs1 hs2 hs hZ b123
 refine zZ [([0, 1, 2, 3], 4, false), ([5], 6, false)] [] (fun w' => ∃ x : RwB Z (rgA o (.slice A l.length c)), w' = x.val) (by kernel_rfl) (by kernel_rfl) (fun _ _ _ _ _ h => h) ⟨⟨w3.drewN 1, by rw [zS]; exact q1⟩, rfl⟩ ?_
 have bd : Below w3.heap.size w3 (w3.drewN 1) := zQ (Below.refl _ _) 1
 obtain ⟨w4, hw4⟩ : ∃ w4, w4 = w3.drewN 1 := ⟨_, rfl⟩
 rw [← hw4] at bd ⊢
 have p1 := zE bd q1
 have p2 := zE bd q2
 have p3 := zE bd q3
 have v4 := v3.below bd
 have B4 := Lib.hid (onto B3.out B3.out.size bd)
 have hne : Nonempty (RwB Z (rgA o (.slice A l.length c))) := ⟨⟨w4, p1⟩⟩
 have k1 : ∀ z : RwB Z (rgA o (.slice A l.length c)), z.val.cell? ⟨Z, 1, none⟩ = some (.slice A l.length c) := fun z => rgA_c1 z.r1
 have hsl := vsa_sla (Z + 1 + 1)
 clear hw4 bd q1 q2 q3 v3 B3
 simp only [wpFl, pk, List.getElem?_cons_zero, List.getElem?_cons_succ]
 repeat (go_big_quiet_step (fail))
 refine wpQuiet_nil ?_
 clear k1
 go_wp2_with (refine wpl_copyK rfl (.tmp 8) (.tmp 10) rfl vers_u ver_i p3 (kyB_size o) v4 h1 h4 rfl rfl ?_)
 obtain ⟨w5, hw5⟩ : ∃ w5, w5 = w4.setRow (Z + 1 + 1) (spl (kyB o) 1 (vsC l)) := ⟨_, rfl⟩
 rw [← hw5]
 have s1 : row w5 Z = some (rgA o (.slice A l.length c)) := by rw [hw5, zD _ _ _ _ (by omega)]; exact p1
 have s2 : row w5 (Z + 1) = some kyZ := by rw [hw5, zD _ _ _ _ (by omega)]; exact p2
 have s3 : row w5 (Z + 1 + 1) = some (spl (kyB o) 1 (vsC l)) := by rw [hw5]; exact zC p3 _
 have B5 := Lib.hid (show Below w.heap.size w w5 by rw [hw5]; exact zF B4.out (by omega) _)
 clear hw5 p1 p2 p3 v4 hsl B4
 first | refine ⟨_, ⟨⟨w5, s1⟩, rfl⟩, ⟨⟨⟨w5, s1⟩, rfl⟩, fun _ h => h⟩, ?_⟩ | refine ⟨_, ⟨⟨w5, s1⟩, rfl⟩, .inr ⟨⟨⟨w5, s1⟩, rfl⟩, fun _ h => h⟩, ?_⟩
 show wpQuiet _ _ _ _ _ _
 repeat (go_big_quiet_step (fail))
 refine wpQuiet_nil ?_
 have hc0 : ∃ x, w5.cell? ⟨Z + 1 + 1, 137, none⟩ = some x := ⟨_, by rw [zG s3]; exact Array.getElem?_eq_getElem (by rw [xJ, kyB_size]; omega)⟩
 obtain ⟨x0, hx0⟩ := hc0
 have f5 : w5.frozen? ⟨Z + 1 + 1, 137, none⟩ = false := zN s3 _
 go_wp2_with fail
 obtain ⟨w6, hw6⟩ : ∃ w6, w6 = w5.setCell ⟨Z + 1 + 1, 137, none⟩ (.int .i64 (l.length : Int)) := ⟨_, rfl⟩
 rw [← hw6]
 have t1 : row w6 Z = some (rgA o (.slice A l.length c)) := by rw [hw6, yA _ _ _ _ (by show Z ≠ Z + 1 + 1; omega)]; exact s1
 have t2 : row w6 (Z + 1) = some kyZ := by rw [hw6, yA _ _ _ _ (by show Z + 1 ≠ Z + 1 + 1; omega)]; exact s2
 have t3 : row w6 (Z + 1 + 1) = some (kyM o l) := by rw [hw6, zJ s3]; exact zC s3 _
 have B6 := Lib.hid (show Below w.heap.size w w6 by rw [hw6, zJ s3]; exact zF B5.out (by omega) _)
 clear hw6 s1 s2 s3 B5 hx0 f5
 first | refine ⟨_, ⟨⟨w6, t1⟩, rfl⟩, ⟨⟨⟨w6, t1⟩, rfl⟩, fun _ h => h⟩, ?_⟩ | refine ⟨_, ⟨⟨w6, t1⟩, rfl⟩, .inr ⟨⟨⟨w6, t1⟩, rfl⟩, fun _ h => h⟩, ?_⟩
 show wpQuiet _ _ _ _ _ _
 refine wpQuiet_nil ?_
 have hld : ldR Tryz.prog 73 138 w6 (Z + 1 + 1) 0 (some (kyM o l)) = .ok (.agg (kyM o l)) w6 := xE _ _ _ _ _ _ (kyM_size o l).symm
 have hst6 : stR Tryz.prog 73 138 w6 (Z + 1) 0 (.agg (kyM o l)) (some kyZ) = .ok () (w6.setRow (Z + 1) (kyM o l)) := stR_whole _ _ _ _ _ _ _ kyZ_size.symm (by rw [kyM_size, kyZ_size]) (kyM_ones o l)
 go_wp2_with fail
 exact bodyPost_ret (v := .agg (kyM o l)) (res_cK rfl _ _ (Z + 1) _ _ rfl (zC t2 _) Tryz.underlying73 rfl (by rw [kyM_size]; exact kr_i)) rfl ⟨rfl, zF B6.out (by omega) _⟩
theorem palr1_any (o : Bool) (l : List Ve) (A : Option Addr) (c F : Nat) (w : World) (hs : VRd w (.slice A l.length c) l) (hl : l.length ≤ 1000000) (hF : row w F = some #[.func (.func 159) #[] #[]]) :
  Calls Tryz.prog 199 #[.agg (rgA o (.slice A l.length c)), .pointer (some ⟨F, 0, none⟩)] w fun e w' => e = .returned (.bool (!rB ⟨o, l⟩)) ∧ Below w.heap.size w w' := by
 obtain ⟨w1, hw1⟩ : ∃ w1, w1 = w.alloc (.cells (rgA o (.slice A l.length c)) 59) := ⟨_, rfl⟩
 have b1 : Below w.heap.size w w1 := by rw [hw1]; exact (Below.refl w.heap.size w).alloc (by simp) _
 have r1 : row w1 w.heap.size = some (rgA o (.slice A l.length c)) := by rw [hw1]; exact zA _ _ _ _ rfl
 have rF : w1.cell? ⟨F, 0, none⟩ = some (.func (.func 159) #[] #[]) := by rw [zG (zE b1 hF)]; rfl
 have H1 := Lib.hid (pisr_any o l A c w1 (hs.below b1) hl)
 obtain ⟨b, hb⟩ : ∃ b, b = rB ⟨o, l⟩ := ⟨_, rfl⟩
 rw [← hb] at H1 ⊢
 have HW1 := Lib.hid hw1
 have B1 := Lib.hid b1
 rw [hw1] at rF r1
 clear hw1 b1 hF hs hb
 go_enter Tryz.func199, Tryz.ntmps199
 go_wp2_with fail
 rw [← HW1.out]
 refine H1.out.mono ?_
 rintro e w2 ⟨rfl, hb⟩
 have HB := Lib.hid (onto B1.out B1.out.size hb)
 clear hb H1
 go_wp2_with fail
 go_ret
 exact ⟨rfl, HB.out⟩
theorem palr2_any (r : Rg) (A : Option Addr) (c F : Nat) (w : World) (hs : VRd w (.slice A r.l.length c) r.l) (hl : r.l.length ≤ 1000000) (hF : row w F = some #[.func (.func 159) #[] #[]]) :
  Calls Tryz.prog 199 #[.agg (rgA r.off (.slice A r.l.length c)), .pointer (some ⟨F, 0, none⟩)] w fun e w' => e = .returned (.bool (!rB r)) ∧ Below w.heap.size w w' := by
 obtain ⟨o, l⟩ := r
 exact palr1_any o l A c F w hs hl hF
theorem pixr_any (K : Ks) (s : Value) (F : Nat) (w : World) (hs : RRd w s K) (hK : K.length ≤ 1000000) (hV : ∀ r ∈ K, r.l.length ≤ 1000) (hF : row w F = some #[.func (.func 159) #[] #[]]) :
  Calls Tryz.prog 239 #[s, .func (.func 199) #[] #[.pointer (some ⟨F, 0, none⟩)]] w fun e w' => ∃ r : Int, e = .returned (.int .i64 r) ∧ ((K.all rB = true ∧ r = -1) ∨ (K.all rB = false ∧ 0 ≤ r)) ∧ Below w.heap.size w w' := by
 obtain ⟨A, c, rfl, hle, hmx, hat⟩ := hs.at_
 have HAT := Lib.hid hat
 have HF := Lib.hid hF
 have HVV := Lib.hid hV
 obtain ⟨n, hn⟩ : ∃ n, n = K.length := ⟨_, rfl⟩
 have HN := Lib.hid hn
 rw [← hn] at hle hK ⊢
 clear hs hat hF hn hV
 go_enter Tryz.func239, Tryz.ntmps239
 go_wp2_with fail
 go_loopw [8] (fun iv wr => ∃ i : Nat, i ≤ n ∧ iv = .int .i64 i ∧ Below w.heap.size w wr ∧ ∀ j (hj : j < K.length), j < i → rB K[j] = true) (fun iv _ => n - (intOf iv).toNat)
 case atStart => exact ⟨0, by omega, rfl, Below.refl _ _, fun j _ hj => absurd hj (by omega)⟩
 case round =>
  obtain ⟨k, hk, rfl, hb, hall⟩ := hrel
  obtain ⟨w1, rfl⟩ : ∃ w1 : World, w1 = wr := ⟨_, rfl⟩
  have HB := Lib.hid hb
  have HALL := Lib.hid hall
  clear hb hall
  by_cases hlk : k < n
  ·have hkl : k < K.length := by have := HN.out; omega
   obtain ⟨g, o, rfl, hg, hc⟩ := HAT.out (by omega)
   obtain ⟨h0, vi, h1, h2⟩ := hc k hkl
   have hr1 := HVV.out _ (List.getElem_mem hkl)
   obtain ⟨r, hx⟩ : ∃ r, r = K[k] := ⟨_, rfl⟩
   rw [← hx] at h0 h2 hr1
   obtain ⟨A2, c2, rfl, -⟩ := h2.at_
   have q2 : ldR Tryz.prog 59 2 w1 g (o + k * 2) (row w1 g) = .ok (.agg (rgA r.off (.slice A2 r.l.length c2))) w1 :=
    rin_cells w1 g (o + k * 2) _ _ ((HB.out.cell (p := ⟨g, o + k * 2, none⟩) hg).trans h0) ((HB.out.cell (p := ⟨g, o + k * 2 + 1, none⟩) hg).trans h1)
   have HX := Lib.hid hx
   have HC := Lib.hid (palr2_any r A2 c2 F w1 (h2.below HB.out) (by omega) (zE HB.out HF.out))
   obtain ⟨b, hbv⟩ : ∃ b, b = rB r := ⟨_, rfl⟩
   rw [← hbv] at HC
   have HV := Lib.hid hbv
   obtain ⟨L, hL⟩ : ∃ L, L = r.l.length := ⟨_, rfl⟩
   rw [← hL] at HC q2
   clear hc hx hbv h0 h1 h2 hL
   go_wp2_with fail
   refine HC.out.mono ?_
   rintro e w2 ⟨rfl, hb2⟩
   have B2 := Lib.hid (onto HB.out HB.out.size hb2)
   clear HC hb2 q2
   cases b with
   | true =>
    go_wp2_with fail
    go_roundw
    case rel => exact ⟨k + 1, by omega, by go_num, B2.out, fun j hj hjk => by
     by_cases hjk2 : j < k
     ·exact HALL.out j hj hjk2
     ·obtain rfl : j = k := by omega
      rw [← HX.out]; exact HV.out.symm⟩
    case measure => simp [intOf]; omega
   | false =>
    have HE := Lib.hid (allR_no k hkl (by rw [← HX.out]; exact HV.out.symm))
    go_wp2_with fail
    go_ret
    exact ⟨_, rfl, .inr ⟨HE.out, by omega⟩, B2.out⟩
  ·obtain rfl : k = n := by omega
   have HE := Lib.hid (allR_yes (l := K) fun j hj => HALL.out j hj (by have := HN.out; omega))
   have hd : decide ((k : Int) < (k : Int)) = false := by simp
   go_wp2_with fail
   go_ret
   exact ⟨_, rfl, .inl ⟨HE.out, rfl⟩, HB.out⟩
theorem pctr_any (K : Ks) (s : Value) (F : Nat) (w : World) (hs : RRd w s K) (hK : K.length ≤ 1000000) (hV : ∀ r ∈ K, r.l.length ≤ 1000) (hF : row w F = some #[.func (.func 159) #[] #[]]) :
  Calls Tryz.prog 198 #[s, .func (.func 199) #[] #[.pointer (some ⟨F, 0, none⟩)]] w fun e w' => e = .returned (.bool (!(K.all rB))) ∧ Below w.heap.size w w' := by
 have H1 := Lib.hid (pixr_any K s F w hs hK hV hF)
 obtain ⟨A, c, rfl, -⟩ := hs.at_
 obtain ⟨b, hb⟩ : ∃ b, b = K.all rB := ⟨_, rfl⟩
 rw [← hb] at H1 ⊢
 clear hs hF hb hV
 go_enter Tryz.func198, Tryz.ntmps198
 go_wp2_with fail
 refine H1.out.mono ?_
 rintro e w1 ⟨r, rfl, h, hb1⟩
 have B1 := Lib.hid hb1
 clear H1 hb1
 rcases h with ⟨rfl, rfl⟩ | ⟨rfl, h2⟩
 ·go_wp2_with fail
  go_ret
  exact ⟨rfl, B1.out⟩
 ·have hd : decide (0 ≤ r) = true := by simp; omega
  clear h2
  go_wp2_with fail
  go_ret
  exact ⟨rfl, B1.out⟩
theorem palr_any (K : Ks) (s : Value) (w : World) (hs : RRd w s K) (hK : K.length ≤ 1000000) (hV : ∀ r ∈ K, r.l.length ≤ 1000) :
  Calls Tryz.prog 158 #[s, .func (.func 159) #[] #[]] w fun e w' => e = .returned (.bool (K.all rB)) ∧ Below w.heap.size w w' := by
 obtain ⟨w1, hw1⟩ : ∃ w1, w1 = w.alloc (.cells #[.func (.func 159) #[] #[]] 233) := ⟨_, rfl⟩
 have b1 : Below w.heap.size w w1 := by rw [hw1]; exact (Below.refl w.heap.size w).alloc (by simp) _
 have r1 : row w1 w.heap.size = some #[.func (.func 159) #[] #[]] := by rw [hw1]; exact zA _ _ _ _ rfl
 have H1 := Lib.hid (pctr_any K s w.heap.size w1 (hs.below b1) hK hV r1)
 obtain ⟨A, c, rfl, -⟩ := hs.at_
 obtain ⟨b, hb⟩ : ∃ b, b = K.all rB := ⟨_, rfl⟩
 rw [← hb] at H1 ⊢
 have HW1 := Lib.hid hw1
 have B1 := Lib.hid b1
 clear hs hb hw1 b1 r1 hV
 go_enter Tryz.func158, Tryz.ntmps158
 go_wp2_with fail
 rw [← HW1.out]
 refine H1.out.mono ?_
 rintro e w2 ⟨rfl, hb2⟩
 have B2 := Lib.hid (onto B1.out B1.out.size hb2)
 clear hb2 H1
 go_wp2_with fail
 go_ret
 exact ⟨by simp, B2.out⟩
theorem pnew0_any (w : World) : Calls Tryz.prog 29 #[] w fun e w' => e = .returned (.pointer (some ⟨w.heap.size, 0, none⟩)) ∧ row w' w.heap.size = some ksZ ∧ Below w.heap.size w w' := by
 go_enter Tryz.func29, Tryz.ntmps29
 go_wp2_with fail
 go_ret
 exact ⟨rfl, zA _ _ _ _ rfl, (Below.refl _ _).alloc (Nat.le_refl _) _⟩
structure KoC (c : Array Value) (K : Ks) : Prop where
 size : c.size = 1105
 ones : Ones c
 key : ∀ i, i < 8 → KyC c (i * 138) (rgI K i)
theorem KoC.nil : KoC ksZ [] := ⟨ksZ_size, ksZ_ones, fun i hi => by have := ksZ_ok.key i hi; rw [Nat.zero_add] at this; exact this⟩
theorem KoC.step {c x : Array Value} {K : Ks} {r : Rg} (h : KoC c K) (h8 : K.length < 8) (hx : x.size = 138) (ho : Ones x) (hk : KyC x 0 r) : KoC (spl c (K.length * 138) x.toList) (K ++ [r]) := by
 have hl : x.toList.length = 138 := by rw [Array.length_toList, hx]
 have hz := h.size
 refine ⟨by rw [xJ, hz], ones_spl _ _ _ h.ones (fun v hv => ?_), fun j hj => ?_⟩
 ·unfold Ones at ho
  rw [← Array.all_toList, List.all_eq_true] at ho
  exact ho v hv
 ·rw [rgI_app]
  by_cases hji : j = K.length
  ·subst hji
   rw [if_pos rfl]
   exact hk.eq fun i hi => by rw [yY _ _ _ _ (by rw [hl, hz]; omega), hl, if_pos (by omega), Array.getElem?_toList, show K.length * 138 + i - K.length * 138 = 0 + i by omega]
  ·rw [if_neg hji]
   exact (h.key j hj).eq fun i hi => by rw [yY _ _ _ _ (by rw [hl, hz]; omega), hl, if_neg (by omega)]
theorem KoC.done {c : Array Value} {K : Ks} (h : KoC c K) : KsC 0 ksZ (c.setIfInBounds 1104 (.int .i64 (K.length : Int))) K :=
 ⟨by rw [Array.size_setIfInBounds, h.size, ksZ_size], by rw [ksZ_size]; omega, fun j hj => by rw [Array.getElem?_eq_none (by rw [Array.size_setIfInBounds, h.size]; omega), Array.getElem?_eq_none (by rw [ksZ_size]; omega)], ones_set h.ones rfl, by rw [Array.getElem?_setIfInBounds, if_pos (by omega), if_pos (by rw [h.size]; omega)], fun i hi => (h.key i hi).eq fun j hj => by rw [Nat.zero_add, Array.getElem?_setIfInBounds, if_neg (by omega)]⟩
theorem take_stepK {K : Ks} {i : Nat} (hi : i < K.length) : K.take i ++ [K[i]] = K.take (i + 1) := by rw [List.take_append_getElem]
theorem pof_any (T : Mk) (t : Nat) (K : Ks) (v : Value) (w : World) (h : RRd w v K) (hK : K.length ≤ 1000) (hV : ∀ r ∈ K, r.l.length ≤ 1000) (hfr : ∀ k, k < w.heap.size → ¬ Hk t (T k)) :
  Calls Tryz.prog 106 #[v] w fun e w' => ∃ q T', e = .returned (.tuple #[.pointer q, .int .i64 (ofE K)]) ∧ (ofE K ≠ 0 → q = none) ∧ (ofE K = 0 → ∃ B, q = some ⟨B, 0, none⟩ ∧ KpAt T' w' t B 0 ksZ K) ∧ Nk T T' t w w' := by
 have hh := h
 obtain ⟨A, c, rfl, hle, hmx, hat⟩ := h.at_
 have HAT := Lib.hid hat
 have HV := Lib.hid hV
 have HH := Lib.hid hh
 obtain ⟨n, hn⟩ : ∃ n, n = K.length := ⟨_, rfl⟩
 have HN := Lib.hid hn
 have hno : ofB K = false → ∀ w2, Below w.heap.size w w2 → ∃ (q : Option Addr) (T' : Mk), Ending.returned (.tuple #[.pointer none, .int .i64 1]) = .returned (.tuple #[.pointer q, .int .i64 (ofE K)]) ∧ (ofE K ≠ 0 → q = none) ∧ (ofE K = 0 → ∃ B, q = some ⟨B, 0, none⟩ ∧ KpAt T' w2 t B 0 ksZ K) ∧ Nk T T' t w w2 := by
  intro hb w2 h2
  have e : ofE K = 1 := by unfold ofE; rw [hb]; rfl
  rw [e]
  exact ⟨none, paint T w.heap.size t, rfl, fun _ => rfl, fun h => absurd h (by decide), Nk.of h2⟩
 have HNO := Lib.hid hno
 rw [← hn] at hle hK ⊢
 have hB : ofB K = (decide (n ≤ 8) && K.all rB) := by rw [hn]; rfl
 by_cases h8 : 8 < n
 ·have hd : decide ((8 : Int) < (n : Int)) = true := by simp; omega
  have hb0 : ofB K = false := by rw [hB, show decide (n ≤ 8) = false by simp; omega]; rfl
  clear h hh hat hV hn hno hB
  go_enter Tryz.func106, Tryz.ntmps106
  go_wp2_with fail
  exact bodyPost_ret (v := .tuple #[.pointer none, .int .i64 1]) (by simp [results, Tryz.results106, go_sem]) rfl (HNO.out hb0 _ (Below.refl _ _))
 have hd : decide ((8 : Int) < (n : Int)) = false := by simp; omega
 have H1 := palr_any K _ w hh (by omega) hV
 obtain ⟨b, hbv⟩ : ∃ b, b = K.all rB := ⟨_, rfl⟩
 rw [← hbv] at H1 hB
 rw [show decide (n ≤ 8) = true by simp; omega, Bool.true_and] at hB
 rw [← hn] at H1
 have HB0 := Lib.hid hB
 have HC1 := Lib.hid H1
 clear h hh hat hV hn hno hB H1 hbv
 go_enter Tryz.func106, Tryz.ntmps106
 go_wp2_with fail
 refine HC1.out.mono ?_
 rintro e w1 ⟨rfl, hb1⟩
 have B1 := Lib.hid hb1
 clear hb1 HC1
 cases b with
 | false =>
  go_wp2_with fail
  exact bodyPost_ret (v := .tuple #[.pointer none, .int .i64 1]) (by simp [results, Tryz.results106, go_sem]) rfl (HNO.out HB0.out _ B1.out)
 | true =>
  have HOK := Lib.hid (ofB_iff.1 HB0.out)
  have HE := Lib.hid (show ofE K = 0 by unfold ofE; rw [HB0.out]; rfl)
  clear HNO
  go_wp2_with fail
  refine (pnew0_any w1).mono ?_
  rintro e w2 ⟨rfl, r2, hb2⟩
  obtain ⟨B, hBe⟩ : ∃ B, B = w1.heap.size := ⟨_, rfl⟩
  have hBs : w.heap.size ≤ B := by have := B1.out.size; omega
  rw [← hBe] at r2 ⊢
  have B2 := Lib.hid (onto B1.out B1.out.size hb2)
  have R2 := Lib.hid r2
  clear hb2 hBe r2
  go_wp2_with fail
  go_loopw [18] (fun iv wr => ∃ i : Nat, i ≤ n ∧ iv = .int .i64 i ∧ Below w.heap.size w wr ∧ ∃ cb, row wr B = some cb ∧ KoC cb (K.take i)) (fun iv _ => n - (intOf iv).toNat)
  case atStart => exact ⟨0, by omega, rfl, B2.out, ksZ, R2.out, KoC.nil⟩
  case round =>
   obtain ⟨i, hi, rfl, hb, cb, hrow, hko⟩ := hrel
   obtain ⟨w3, rfl⟩ : ∃ w3 : World, w3 = wr := ⟨_, rfl⟩
   have HB := Lib.hid hb
   have HROW := Lib.hid hrow
   have HKO := Lib.hid hko
   have h8' : n ≤ 8 := by omega
   clear hb hrow hko
   by_cases hlt : i < n
   ·have hiK : i < K.length := by have := HN.out; omega
    obtain ⟨g, o, rfl, hg, hc⟩ := HAT.out (by omega)
    obtain ⟨h0, vi, h1, h2⟩ := hc i hiK
    have hok1 := (HOK.out.2 _ (List.getElem_mem hiK)).1
    obtain ⟨r, hx⟩ : ∃ r, r = K[i] := ⟨_, rfl⟩
    rw [← hx] at h0 h2 hok1
    obtain ⟨A2, c2, rfl, -⟩ := h2.at_
    have q2 : ldR Tryz.prog 59 2 w3 g (o + i * 2) (row w3 g) = .ok (.agg (rgA r.off (.slice A2 r.l.length c2))) w3 :=
     rin_cells w3 g (o + i * 2) _ _ ((HB.out.cell (p := ⟨g, o + i * 2, none⟩) hg).trans h0) ((HB.out.cell (p := ⟨g, o + i * 2 + 1, none⟩) hg).trans h1)
    have HX := Lib.hid hx
    obtain ⟨w4, hw4⟩ : ∃ w4, w4 = w3.alloc (.cells (rgA r.off (.slice A2 r.l.length c2)) 59) := ⟨_, rfl⟩
    have b4 : Below w3.heap.size w3 w4 := by rw [hw4]; exact (Below.refl _ _).alloc (Nat.le_refl _) _
    have r4 : row w4 w3.heap.size = some (rgA r.off (.slice A2 r.l.length c2)) := by rw [hw4]; exact zA _ _ _ _ rfl
    have B4 := Lib.hid (onto HB.out HB.out.size b4)
    have rB4 := zE b4 HROW.out
    have hv4 : ∀ x : After w4, VRd x.val (.slice A2 r.l.length c2) r.l := fun x => h2.below (onto B4.out B4.out.size x.below)
    have hko4 : ∀ x : After w4, Calls Tryz.prog 160 #[.agg (rgA r.off (.slice A2 r.l.length c2))] x.val fun e w' => e = .returned (.agg (kyM r.off r.l)) ∧ Below x.val.heap.size x.val w' := fun x => pko_any r.off r.l A2 c2 x.val (hv4 x) hok1.1 hok1.2
    have HK4 := Lib.hid hko4
    have HW4 := Lib.hid hw4
    have RB4 := Lib.hid rB4
    have q4 := After.row r4
    obtain ⟨Z, hZ⟩ : ∃ Z, Z = w3.heap.size := ⟨_, rfl⟩
    rw [← hZ] at q4
    have HZ := Lib.hid hZ
    have hsz : i * 138 + 138 ≤ cb.size := by rw [HKO.out.size]; omega
    have hst : ∀ x : World, stR Tryz.prog 73 138 x B (i * 138) (.agg (kyM r.off r.l)) (some cb) = .ok () (x.setRow B (spl cb (i * 138) (kyM r.off r.l).toList)) := fun x => stR_spl hsz (kyM_size _ _) (kyM_ones _ _)
    have HS4 := Lib.hid (show KoC (spl cb (i * 138) (kyM r.off r.l).toList) (K.take (i + 1)) by
     have hlen : (K.take i).length = i := by rw [List.length_take]; omega
     have := HKO.out.step (r := r) (by rw [hlen]; omega) (kyM_size r.off r.l) (kyM_ones r.off r.l) (kyM_key r.off r.l hok1.2)
     rw [hlen, hx, take_stepK hiK] at this
     rw [hx]
     exact this)
    obtain ⟨L, hL⟩ : ∃ L, L = r.l.length := ⟨_, rfl⟩
    rw [← hL] at q2 q4 HK4 HW4
    obtain ⟨kx, hkx⟩ : ∃ kx, kx = kyM r.off r.l := ⟨_, rfl⟩
    rw [← hkx] at HK4 hst HS4
    clear hc hx h0 h1 h2 hL hkx hw4 b4 r4 rB4 hv4 hko4 hok1 hZ hsz
    have hi8 : i < 8 := by omega
    go_wp2_with fail
    rw [← HW4.out, ← HZ.out]
    refine seen_tail 0 7 (by kernel_rfl) (by kernel_rfl) (fun _ _ _ _ _ h => h) ?_
    simp only [List.take_succ_cons, List.take_zero, List.drop_succ_cons, List.drop_zero]
    repeat (go_big_quiet_step ((go_at_call 160; refine After.call _ (HK4.out _))))
    refine wpQuiet_nil ?_
    rintro _ ⟨x, rfl⟩
    obtain ⟨w5, hw5⟩ : ∃ w5, w5 = x.val := ⟨_, rfl⟩
    have bx := x.below
    rw [← hw5] at bx ⊢
    have r5 := zE bx RB4.out
    have B5 := Lib.hid (zF (onto B4.out B4.out.size bx) hBs (spl cb (i * 138) kx.toList))
    have R5 := Lib.hid (zC r5 (spl cb (i * 138) kx.toList))
    clear hw5 bx q4 q2
    go_wp2_with fail
    go_roundw
    case rel => exact ⟨i + 1, by omega, by go_num, B5.out, _, R5.out, HS4.out⟩
    case measure => simp [intOf]; omega
   ·obtain rfl : i = n := by omega
    have hd2 : decide ((i : Int) < (i : Int)) = false := by simp
    have hKo := HKO.out
    rw [List.take_of_length_le (by rw [← HN.out]; exact Nat.le_refl _)] at hKo
    have hKs := hKo.done
    rw [← HN.out] at hKs
    have f3 : w3.frozen? ⟨B, 1104, none⟩ = false := zN HROW.out _
    have k3 : ∃ x, w3.cell? ⟨B, 1104, none⟩ = some x := ⟨_, by rw [zG HROW.out]; exact Array.getElem?_eq_getElem (by rw [hKo.size]; omega)⟩
    obtain ⟨x3, hx3⟩ := k3
    have HF := Lib.hid (show ∃ T', KpAt T' (w3.setCell ⟨B, 1104, none⟩ (.int .i64 (i : Int))) t B 0 ksZ K ∧ Nk T T' t w (w3.setCell ⟨B, 1104, none⟩ (.int .i64 (i : Int))) by
     rw [zJ HROW.out]
     exact ⟨paint T w.heap.size t, ⟨zP hBs, ⟨_, zC HROW.out _, hKs⟩, HOK.out⟩, Nk.of (zF HB.out hBs _)⟩)
    clear hKo hKs
    go_wp2_with fail
    refine bodyPost_ret (v := .tuple #[.pointer (some ⟨B, 0, none⟩), .int .i64 0]) (by simp [results, Tryz.results106, go_sem]) rfl ?_
    obtain ⟨T', hk, hn⟩ := HF.out
    exact ⟨_, T', by rw [HE.out], fun e => absurd HE.out e, fun _ => ⟨B, rfl, hk⟩, hn⟩
end Go.Proofs.YteffjpdcghlnlaaGreatDoor.Oct
