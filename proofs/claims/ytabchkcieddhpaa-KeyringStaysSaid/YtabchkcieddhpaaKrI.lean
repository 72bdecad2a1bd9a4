/- Contract of the reference's Same, where it answers true. -/
import Derived.Test.YtabchkcieddhpaaKrG
namespace Go.Proofs.Ytabchkcieddhpaa.Oct
open Go.ChangeShapes Go.WideShapes Go.ChangeAt Go.RowKit
set_option linter.unusedVariables false

theorem eqB_reflK (n : Nat) (f : Bf) : eqB n f f = true := (eqB_iff n f f).2 fun _ _ => rfl
theorem eqf_stepK {P : Program} {d : Nat} {xs ys : Array Value} {f : Field} {fs : List Field} {a b : Value} {r : Bool} {w : World} (hn : f.name ≠ "_") (ha : (Go.part f.type xs f.offset).run P w = .ok a w) (hb : (Go.part f.type ys f.offset).run P w = .ok b w) (he : (Op.equalIn d f.type a b).run P w = .ok r w) :
    (Op.eqFields d xs ys (f :: fs)).run P w = if r then (Op.eqFields d xs ys fs).run P w else .ok false w := by
  rw [Op.eqFields, if_pos hn]
  simp only [Sem.run_bind, ha, hb, he, Result.andThen_ok]
  cases r <;> simp
theorem eq_intK (a x : Int) (w : World) : (Op.equalIn 9999 3 (.int .i64 a) (.int .i64 x)).run Try.prog w = .ok (a == x) w := by
  rw [show (9999 : Nat) = 9998 + 1 from rfl, run_equalIn_int w 9998 3 .i64 .i64 a x Try.underlying3]
theorem part_m (v : Ve) (w : World) : (Go.part 32 (veA v) 0).run Try.prog w = .ok (.agg (ba 32 v.m)) w := by unfold veA veC ba; kernel_rfl
theorem part_u (v : Ve) (w : World) : (Go.part 3 (veA v) 32).run Try.prog w = .ok (.int .i64 v.u) w := by unfold veA veC ba; kernel_rfl
theorem part_g (v : Ve) (w : World) : (Go.part 4 (veA v) 33).run Try.prog w = .ok (.bool v.g) w := by unfold veA veC ba; kernel_rfl
theorem eq_boolK (a x : Bool) (w : World) : (Op.equalIn 9999 4 (.bool a) (.bool x)).run Try.prog w = .ok (a == x) w := by cases a <;> cases x <;> kernel_rfl
set_option maxRecDepth 20000 in
set_option maxHeartbeats 1000000 in
theorem ne_ver (a b : Ve) (w : World) : (binOp .neq 50 (.agg (veA a)) (.agg (veA b))).run Try.prog w = .ok (.bool (!veB a b)) w := by
  have hS : Try.prog.underlying 50 = some (.struct (Try.prog.fieldsOf 50)) := by kernel_rfl
  have hp : Try.prog.stoodInHeld 50 = false := by kernel_rfl
  rw [run_neq_struct, show (10000 : Nat) = 9999 + 1 from rfl, run_equalIn_agg w 9999 50 _ _ hS hp]
  simp only [Program.fieldsOf, Try.underlying50]
  rw [eqf_stepK (by decide) (part_m a w) (part_m b w) (kk_eq 9997 a.m b.m w), eqf_stepK (by decide) (part_u a w) (part_u b w) (eq_intK _ _ w), eqf_stepK (by decide) (part_g a w) (part_g b w) (eq_boolK _ _ w), Op.eqFields]
  unfold veB
  generalize eqB 32 a.m b.m = b1
  generalize (a.u == b.u) = b2
  generalize (a.g == b.g) = b3
  cases b1 <;> cases b2 <;> cases b3 <;> rfl
theorem veB_refl (a : Ve) : veB a a = true := by unfold veB; rw [eqB_reflK]; simp

set_option maxRecDepth 20000 in
set_option maxHeartbeats 4000000 in
theorem rsame_any (K : Ks) (v v' : Value) (w : World) (h : RRd w v K) (h' : RRd w v' K) (hK : K.length ≤ 1000) (hV : ∀ r ∈ K, r.l.length ≤ 1000) :
    Calls Try.prog 19 #[v, v'] w fun e w' => e = .returned (.bool true) ∧ Below w.heap.size w w' := by
  obtain ⟨A, c, rfl, hle, hmx, hat⟩ := h.at_
  obtain ⟨A', c', rfl, hle', hmx', hat'⟩ := h'.at_
  have HAT := Lib.hid hat
  have HAT' := Lib.hid hat'
  have HV := Lib.hid hV
  obtain ⟨n, hn⟩ : ∃ n, n = K.length := ⟨_, rfl⟩
  have HN := Lib.hid hn
  rw [← hn] at hle hle' hK ⊢
  clear h h' hat hat' hV hn
  go_enter Try.func19, Try.ntmps19
  go_wp2_with fail
  go_loopw [5] (fun iv wr => ∃ i : Nat, i ≤ n ∧ iv = .int .i64 i ∧ Below w.heap.size w wr) (fun iv _ => n - (intOf iv).toNat)
  case atStart => exact ⟨0, by omega, rfl, Below.refl _ _⟩
  case round =>
    obtain ⟨i, hi, rfl, hb⟩ := hrel
    obtain ⟨w1, rfl⟩ : ∃ w1 : World, w1 = wr := ⟨_, rfl⟩
    have HB := Lib.hid hb
    by_cases hlt : i < n
    · have hiK : i < K.length := by have := HN.out; omega
      obtain ⟨g, o, rfl, hg, hc⟩ := HAT.out (by omega)
      obtain ⟨g', o', rfl, hg', hc'⟩ := HAT'.out (by omega)
      obtain ⟨h0, vi, h1, h2⟩ := hc i hiK
      obtain ⟨h0', vi', h1', h2'⟩ := hc' i hiK
      obtain ⟨A2, c2, rfl, hle2, -, -, hat2⟩ := h2.at_
      obtain ⟨A2', c2', rfl, hle2', -, -, hat2'⟩ := h2'.at_
      obtain ⟨r, hr⟩ : ∃ r, r = K[i] := ⟨_, rfl⟩
      have hr1 := HV.out K[i] (List.getElem_mem _)
      rw [← hr] at h0 h1 h2 hle2 h0' h1' h2' hle2' hat2 hat2' hr1
      obtain ⟨L, hL⟩ : ∃ L, L = r.l.length := ⟨_, rfl⟩
      rw [← hL] at h1 h1' hle2 hle2' hr1
      have HL := Lib.hid hL
      have H0 := Lib.hid h0
      have H1 := Lib.hid h1
      have H0' := Lib.hid h0'
      have H1' := Lib.hid h1'
      have HAT2 := Lib.hid hat2
      have HAT2' := Lib.hid hat2'
      clear hc hc' hb hr h0 h1 h2 h0' h1' h2' hat2 hat2' hL
      have q0 : ∀ y : After w1, y.val.cell? ⟨g, o + i * 2, none⟩ = some (.bool r.off) := fun y => ((onto HB.out HB.out.size y.below).cell (p := ⟨g, o + i * 2, none⟩) hg).trans H0.out
      have q1 : ∀ y : After w1, y.val.cell? ⟨g, o + i * 2 + 1, none⟩ = some (.slice A2 L c2) := fun y => ((onto HB.out HB.out.size y.below).cell (p := ⟨g, o + i * 2 + 1, none⟩) hg).trans H1.out
      have q0' : ∀ y : After w1, y.val.cell? ⟨g', o' + i * 2, none⟩ = some (.bool r.off) := fun y => ((onto HB.out HB.out.size y.below).cell (p := ⟨g', o' + i * 2, none⟩) hg').trans H0'.out
      have q1' : ∀ y : After w1, y.val.cell? ⟨g', o' + i * 2 + 1, none⟩ = some (.slice A2' L c2') := fun y => ((onto HB.out HB.out.size y.below).cell (p := ⟨g', o' + i * 2 + 1, none⟩) hg').trans H1'.out
      go_wp2_with fail
      refine seen_region (by kernel_rfl) (by kernel_rfl) ?_
      repeat (go_big_quiet_step (fail))
      refine wpQuiet_nil ?_
      rintro _ ⟨x, rfl⟩
      clear q0 q1 q0' q1'
      have B2 := Lib.hid (onto HB.out HB.out.size x.below)
      obtain ⟨w2, hw2⟩ : ∃ w2, w2 = x.val := ⟨_, rfl⟩
      rw [← hw2] at B2 ⊢
      clear hw2 x
      go_wp2_with fail
      go_loopw [6] (fun kv wr => ∃ k : Nat, k ≤ L ∧ kv = .int .i64 k ∧ Below w.heap.size w wr) (fun kv _ => L - (intOf kv).toNat)
      case atStart => exact ⟨0, by omega, rfl, B2.out⟩
      case round =>
        clear B2 HB
        obtain ⟨k, hk, rfl, hb⟩ := hrel
        obtain ⟨w3, rfl⟩ : ∃ w3 : World, w3 = wr := ⟨_, rfl⟩
        have HB := Lib.hid hb
        have y1 := (HB.out.cell (p := ⟨g, o + i * 2 + 1, none⟩) hg).trans H1.out
        clear hb
        by_cases hlk : k < L
        · have hkl : k < r.l.length := by have := HL.out; omega
          obtain ⟨g2, o2, rfl, hg2, hc2⟩ := HAT2.out (by omega)
          obtain ⟨g2', o2', rfl, hg2', hc2'⟩ := HAT2'.out (by omega)
          obtain ⟨x, hx⟩ : ∃ x, x = r.l[k] := ⟨_, rfl⟩
          have q1 : ∀ y : After w3, y.val.cell? ⟨g, o + i * 2 + 1, none⟩ = some (.slice (some ⟨g2, o2, none⟩) L c2) := fun y => ((onto HB.out HB.out.size y.below).cell (p := ⟨g, o + i * 2 + 1, none⟩) hg).trans H1.out
          have q1' : ∀ y : After w3, y.val.cell? ⟨g', o' + i * 2 + 1, none⟩ = some (.slice (some ⟨g2', o2', none⟩) L c2') := fun y => ((onto HB.out HB.out.size y.below).cell (p := ⟨g', o' + i * 2 + 1, none⟩) hg').trans H1'.out
          have q2 : ∀ y : After w3, ldR Try.prog 50 34 y.val g2 (o2 + k * 34) (row y.val g2) = .ok (.agg (veA x)) y.val := fun y => ver_cells y.val g2 (o2 + k * 34) x fun j hj => by
            rw [hx, ← hc2 k j hkl hj]; exact (onto HB.out HB.out.size y.below).cell (p := ⟨g2, o2 + k * 34 + j, none⟩) hg2
          have q2' : ∀ y : After w3, ldR Try.prog 50 34 y.val g2' (o2' + k * 34) (row y.val g2') = .ok (.agg (veA x)) y.val := fun y => ver_cells y.val g2' (o2' + k * 34) x fun j hj => by
            rw [hx, ← hc2' k j hkl hj]; exact (onto HB.out HB.out.size y.below).cell (p := ⟨g2', o2' + k * 34 + j, none⟩) hg2'
          have hq := ne_ver x x
          rw [veB_refl] at hq
          clear hc2 hc2' hx
          go_wp2_with fail
          refine seen_region (by kernel_rfl) (by kernel_rfl) ?_
          repeat (go_big_quiet_step (fail))
          refine wpQuiet_nil ?_
          rintro _ ⟨z, rfl⟩
          have B4 := Lib.hid (onto HB.out HB.out.size z.below)
          clear q1 q1' q2 q2' hq y1
          go_wp2_with fail
          go_roundw
          case rel => exact ⟨k + 1, by omega, by go_num, B4.out⟩
          case measure => simp [intOf]; omega
        · obtain rfl : k = L := by omega
          go_wp2_with fail
          go_roundw
          case rel => exact ⟨i + 1, by omega, by go_num, HB.out⟩
          case measure => simp [intOf]; omega
    · obtain rfl : i = n := by omega
      go_wp2_with fail
      go_ret
      exact ⟨rfl, HB.out⟩
end Go.Proofs.Ytabchkcieddhpaa.Oct
