/- append of zeros ('append(x, make([]byte, k)...)') behind a row of the call's own; a guarded append. Of whatever program. -/
import Derived.Test.YtbncangoaldmiaaDoorLib
namespace Go.Proofs.YtbncangoaldmiaaDoor.Oct
open Go.RowKit
set_option linter.unusedVariables false

theorem zero_ba (m : Nat) : Builtin.zeroCells (Value.int .u8 0).cells m = ba m nF := by
  apply Array.ext_getElem?
  intro i
  by_cases hi : i < m
  · rw [ba_get _ _ _ hi]
    simp [Builtin.zeroCells, hi, Value.cells, Nat.mod_one, I, nF]
  · rw [ba_none _ _ _ hi]
    simp [Builtin.zeroCells, Value.cells]; omega
theorem run_appZ {P : Program} {w : World} {t tn ty u : TypeId} {k kn : IntKind} (ht : P.underlying t = some (.slice u)) (htn : P.underlying tn = some (.int kn)) (hi : (P.info? u).map (fun i => (i.zero, i.size, i.bytes)) = some (some (.int .u8 0), 1, 1))
    {base : Nat} {v : Value} {n : Nat} {f : Bf} (hown : Own w base u v n f) (m : Nat) (hnm : n + m ≤ 140737488355328) (hbase : base ≤ w.heap.size) :
    ∃ v' w', (Builtin.append_ #[t, tn] ty #[v, .int k (m : Int)]).run P w = .ok v' w' ∧ Own w' base u v' (n + m) (catF n f nF) ∧ w.grownBy w' v.ownBlock ∧ (v'.ownBlock = v.ownBlock ∨ v'.ownBlock = some w.heap.size) := by
  obtain ⟨i, hq, z0, z1, z2⟩ := info_parts hi
  have hw : IntKind.i64.wrap (m : Int) = m := by rw [IntKind.wrap_i64]; omega
  have hneg : ¬ ((m : Int) < 0) := by omega
  have h48i : ¬ (281474976710656 < (m : Int) * (i.bytes : Int)) := by rw [z2]; omega
  have h48j : ¬ ((281474976710656 : Int) < (m : Int)) := by omega
  have same : Own w base u v n f → m = 0 → Own w base u v (n + m) (catF n f nF) := fun h e => by
    subst e
    exact h.congr fun i hi => by simp [catF, hi]
  rcases Nat.eq_zero_or_pos m with h0 | h0
  · refine ⟨v, w, ?_, same hown h0, ⟨rfl, rfl, rfl, Nat.le_refl _, fun _ _ _ => rfl⟩, .inl rfl⟩
    subst h0
    have hw0 : IntKind.i64.wrap 0 = 0 := by decide
    unfold Own at hown
    rcases hown.2 with ⟨rfl, rfl⟩ | ⟨g, cap, cur, rfl, _, _, hnc, _⟩
    · simp [Builtin.append_, run_underlying ht, run_underlying htn, sizeOf, typeInfo, hq, asInt, asIntOf, z2, hw0]
    · simp [Builtin.append_, run_underlying ht, run_underlying htn, sizeOf, typeInfo, hq, asInt, asIntOf, z2, hw0, hnc, storeCells]
  · have hns : ¬ (m * i.size = 0) := by rw [z1]; omega
    have hm0 : ¬ m = 0 := by omega
    have hzs : (ba m nF).toList.length = m := by rw [Array.length_toList, ba_size]
    have hone : ∀ x ∈ (ba m nF).toList, x.oneCell' = true := fun x hx => (Array.all_eq_true_iff_forall_mem.1 (ba_one m nF)) x (by simpa using hx)
    unfold Own at hown
    rcases hown.2 with ⟨rfl, rfl⟩ | ⟨g, cap, cur, rfl, hbg, hg, hnc, hcm, hcs, htk⟩
    · have hr := Lib.run_append_nil_zeros w t tn ty u i (.int .u8 0) k kn ht htn hq z0 m h0 (by omega) (by omega) (by rw [z2]; omega)
      have hge := grownCap_ge w m 0 u
      have hcm : grownCap w m 0 u ≤ maxLen := grownCap_le_maxLen w m 0 u (by unfold maxLen; omega)
      rw [zero_ba] at hr
      refine ⟨_, _, hr, ?_, ⟨rfl, rfl, rfl, by simp, fun k hk _ => heap_alloc_old w.drew _ (by exact hk)⟩, .inr rfl⟩
      unfold Own
      rw [Nat.zero_add, catF_zero]
      refine ⟨by rw [hzs, Nat.mul_one], .inr ⟨w.heap.size, _, _, rfl, hbase, heap_alloc_new w.drew _, hge, hcm, ?_, ?_⟩⟩
      · simp only [Array.size_append, size_zeroCells, ba_size]
        simp [Value.cells]; omega
      · rw [Array.toList_append, Nat.mul_one, List.take_left' hzs]
    · by_cases hroom : n + m ≤ cap
      · have hst := run_storeCells_at P g n u (ba m nF).toList 0 cur w hg (by rw [hzs, hcs]; omega) hone
        simp only [Nat.add_zero] at hst
        refine ⟨.slice (some ⟨g, 0, none⟩) (n + m) cap, w.setRow g (cur.toList.take n ++ (ba m nF).toList ++ cur.toList.drop (n + (ba m nF).toList.length)).toArray, ?_, ?_, ⟨rfl, rfl, rfl, by simp, fun k _ hk => setRow_other w g k _ (fun e => hk (by simp [Value.ownBlock, e]))⟩, .inl rfl⟩
        · simp [Builtin.append_, run_underlying ht, run_underlying htn, sizeOf, typeInfo, zeroValue, hq, z0, z1, z2, asInt, asIntOf, hw, hneg, hm0, hroom, zero_ba, Addr.add_lit, hst, h48j]
        · unfold Own
          rw [← cat_ba]
          refine ⟨by rw [List.length_append, hzs, Array.length_toList, ba_size, Nat.mul_one], .inr ⟨g, cap, _, rfl, hbg, setRow_heap w g cur _ u _ hg, hroom, hcm, ?_, ?_⟩⟩
          · simp only [List.size_toArray, List.length_append, List.length_take, List.length_drop, Array.length_toList, ba_size]
            omega
          · rw [Nat.mul_one] at htk ⊢
            rw [htk]
            exact List.take_left' (by rw [List.length_append, hzs, Array.length_toList, ba_size])
      · have holds : ∀ j x, (ba n f).toList[j]? = some x → w.cell? ((⟨g, 0, none⟩ : Addr).add j) = some x := hown.cells (g := g) rfl
        have hfo := run_firstCells_some (P := P) w.drew 1 n ⟨g, 0, none⟩ n cap (ba n f).toList hown.1 (by simpa using holds)
        have h63' : ¬ (9223372036854775807 < ((n : Int) + (m : Int))) := by omega
        have h48' : ¬ (281474976710656 < Builtin.nextslicecap (n + m) cap) := by
          have := growslice_fits (need := n + m) (old := cap) (bytes := 1) (by omega) (by omega)
          omega
        have hge := grownCap_ge w (n + m) cap u
        have hcm2 : grownCap w (n + m) cap u ≤ maxLen := grownCap_le_maxLen w (n + m) cap u (by unfold maxLen; omega)
        refine ⟨.slice (some ⟨w.heap.size, 0, none⟩) (n + m) (grownCap w (n + m) cap u), w.drew.alloc (.cells ((ba n f).toList.toArray ++ (ba m nF) ++ Builtin.zeroCells (Value.int .u8 0).cells (grownCap w (n + m) cap u - (n + m))) u), ?_, ?_, ⟨rfl, rfl, rfl, by simp, fun k hk _ => heap_alloc_old w.drew _ (by exact hk)⟩, .inr rfl⟩
        · simp [Builtin.append_, run_underlying ht, run_underlying htn, sizeOf, typeInfo, zeroValue, hq, z0, z1, z2, asInt, asIntOf, hw, hneg, hm0, hroom, zero_ba, h48j, h63', h48', Question.forced, hfo, newRow, grownCap]
        · unfold Own
          rw [← cat_ba]
          refine ⟨by rw [List.length_append, hzs, Array.length_toList, ba_size, Nat.mul_one], .inr ⟨w.heap.size, _, _, rfl, hbase, heap_alloc_new w.drew _, hge, hcm2, ?_, ?_⟩⟩
          · simp only [Array.size_append, size_zeroCells, ba_size, List.size_toArray, Array.length_toList]
            simp [Value.cells]; omega
          · rw [Array.toList_append, Array.toList_append, Nat.mul_one]
            exact List.take_left' (by rw [List.length_append, hzs, List.toList_toArray, Array.length_toList, ba_size])
theorem wpl_appZ {P : Program} {w : World} {ops : Array Oper} {rest : List Oper} {o : Oper} {a : Act} {Q : Exit → Act → World → Prop} (hgd : o.guard = none) (s x : Operand) {t tn u : TypeId} {k kn : IntKind} (ho : o.op = .call { callee := .builtin .append, args := #[s, x], argTypes := #[t, tn] })
    (ht : P.underlying t = some (.slice u)) (htn : P.underlying tn = some (.int kn)) (hi : (P.info? u).map (fun i => (i.zero, i.size, i.bytes)) = some (some (.int .u8 0), 1, 1))
    {base : Nat} {v : Value} {n : Nat} {f : Bf} (hown : Own w base u v n f) (m : Nat) (hnm : n + m ≤ 140737488355328) (hbase : base ≤ w.heap.size)
    (hv : a.eval s = v) (hx : a.eval x = .int k (m : Int))
    (h : ∀ v' w', Own w' base u v' (n + m) (catF n f nF) → w.grownBy w' v.ownBlock → (v'.ownBlock = v.ownBlock ∨ v'.ownBlock = some w.heap.size) → wpList P ops Q rest (a.put o.dst v') w') : wpList P ops Q (o :: rest) a w := by
  obtain ⟨v', w', hr, h1, h2, h3⟩ := run_appZ (ty := o.type) (k := k) ht htn hi hown m hnm hbase
  exact Lib.wpList_append_run w hgd s x t tn ho _ _ hv hx _ _ hr (h v' w' h1 h2 h3)
theorem wpl_appB_w {P : Program} {w : World} {ops : Array Oper} {rest : List Oper} {o : Oper} {a : Act} {Q : Exit → Act → World → Prop} (hw : Region.wanted o (yielded ops a.tmps) = true) (s x : Operand) {t u : TypeId} (ho : o.op = .call { callee := .builtin .append, args := #[s, x], argTypes := #[t, t] })
    (ht : P.underlying t = some (.slice u)) (hi : (P.info? u).map (fun i => (i.zero, i.size, i.bytes)) = some (some (.int .u8 0), 1, 1))
    {base : Nat} {v : Value} {n : Nat} {f : Bf} (hown : Own w base u v n f) {B m c : Nat} {A : Option Addr} {g : Bf} (hs : Sl w B A m c g) (hnm : n + m ≤ 140737488355328) (hbase : base ≤ w.heap.size)
    (hv : a.eval s = v) (hx : a.eval x = .slice A m c)
    (h : ∀ v' w', Own w' base u v' (n + m) (catF n f g) → w.grownBy w' v.ownBlock → (v'.ownBlock = v.ownBlock ∨ v'.ownBlock = some w.heap.size) → wpList P ops Q rest (a.put o.dst v') w') : wpList P ops Q (o :: rest) a w := by
  unfold wpList
  rw [if_pos hw]
  exact .inl (wp_appB s x ho ht hi hown hs hnm hbase hv hx fun v' w' h1 h2 h3 => h v' w' h1 h2 h3)
end Go.Proofs.YtbncangoaldmiaaDoor.Oct
