/- Contracts: disk's On, Steps, Fuse, isFile, New, step. -/
import Derived.Test.YthdhbjfenanbnaaDkI
namespace Go.Proofs.Ythdhbjfenanbnaa.Oct
open Go.ChangeShapes Go.WideShapes Go.ChangeAt Go.RowKit
set_option linter.unusedVariables false

theorem isFile_any (f : Int) (w : World) : Calls Try.prog 25 #[.int .i64 f] w fun e w' => e = .returned (.bool (decide (0 ≤ f ∧ f < 4))) ∧ w = w' := by
  by_cases h0 : 0 ≤ f
  · by_cases h1 : f < 4
    · have hd : decide (0 ≤ f) = true := by simpa using h0
      have hd1 : decide (f < 4) = true := by simpa using h1
      rw [show decide (0 ≤ f ∧ f < 4) = true by simp; omega]
      go_enter Try.func25, Try.ntmps25
      go_wp2_with fail
      go_ret
      exact ⟨rfl, rfl⟩
    · have hd : decide (0 ≤ f) = true := by simpa using h0
      have hd1 : decide (f < 4) = false := by simpa using h1
      rw [show decide (0 ≤ f ∧ f < 4) = false by simp; omega]
      go_enter Try.func25, Try.ntmps25
      go_wp2_with fail
      go_ret
      exact ⟨rfl, rfl⟩
  · have hd : decide (0 ≤ f) = false := by simpa using h0
    rw [show decide (0 ≤ f ∧ f < 4) = false by simp; omega]
    go_enter Try.func25, Try.ntmps25
    go_wp2_with fail
    go_ret
    exact ⟨rfl, rfl⟩
theorem on_any (T : Mk) (t B : Nat) (d : Dk) (w : World) (h : DkAt T w t B d) : Calls Try.prog 16 #[.pointer (some ⟨B, 0, none⟩)] w fun e w' => e = .returned (.bool (!d.off)) ∧ w = w' := by
  obtain ⟨V, l, hr, -⟩ := h.row
  obtain ⟨q1, q2, q3, q4⟩ := dk_cells hr
  clear h hr q1 q3 q4
  go_enter Try.func16, Try.ntmps16
  go_wp2_with fail
  go_ret
  exact ⟨rfl, rfl⟩
theorem steps_any (T : Mk) (t B : Nat) (d : Dk) (w : World) (h : DkAt T w t B d) : Calls Try.prog 17 #[.pointer (some ⟨B, 0, none⟩)] w fun e w' => e = .returned (.int .i64 (d.n : Int)) ∧ w = w' := by
  obtain ⟨V, l, hr, -⟩ := h.row
  obtain ⟨q1, q2, q3, q4⟩ := dk_cells hr
  clear h hr q2 q3 q4
  go_enter Try.func17, Try.ntmps17
  go_wp2_with fail
  go_ret
  exact ⟨rfl, rfl⟩
/-- the block's own cells are laid anew, the files stay -/
theorem dk_head {T : Mk} {w : World} {t B : Nat} {d d' : Dk} {V : Nat → Value} {l l' : Int} (hr : row w B = some (dkC V d.n d.off d.u.isSome l)) (hT : T B = t) (ht : 0 < t) (h3 : ∀ i, i < 4 → FilAt T w (t + 1 + 2 * i) (V (2 * i)) (V (2 * i + 1)) (d.f i))
    (hl : ∀ m, d'.u = some m → l' = (m : Int)) (hl2 : -9223372036854775808 ≤ l' ∧ l' < 9223372036854775808) (hf : d'.f = d.f) :
    Fr T T (fun y => y = t) w (w.setRow B (dkC V d'.n d'.off d'.u.isSome l')) ∧ DkAt T (w.setRow B (dkC V d'.n d'.off d'.u.isSome l')) t B d' := by
  have f1 := Fr.row (T := T) (w := w) (H := fun y => y = t) (B := B) hT (dkC V d'.n d'.off d'.u.isSome l')
  refine ⟨f1, hT, ⟨V, l', row_setRow hr _, hl, hl2, fun i hi => ?_⟩⟩
  rw [hf]
  exact (h3 i hi).fr f1 (by omega) (by omega) (by omega)
set_option maxHeartbeats 1000000 in
theorem fuse_any (T : Mk) (t B : Nat) (d : Dk) (n : Int) (w : World) (h : DkAt T w t B d) (ht : 0 < t) (hn : -9223372036854775808 ≤ n ∧ n < 9223372036854775808) :
    Calls Try.prog 22 #[.pointer (some ⟨B, 0, none⟩), .int .i64 n] w fun e w' => e = .returned (.tuple #[]) ∧ Fr T T (fun y => y = t) w w' ∧ DkAt T w' t B (d.fuse n) := by
  obtain ⟨V, l, hr, hl, hl2, hf⟩ := h.row
  obtain ⟨q1, q2, q3, q4⟩ := dk_cells hr
  obtain ⟨b, hb⟩ : ∃ b, b = decide (0 ≤ n) := ⟨_, rfl⟩
  have hd : decide (0 ≤ n) = b := hb.symm
  have z3 := froz_row hr 10
  have k3 := Lib.hid (dk_u hr b)
  have hr2 := row_setRow hr (dkC V d.n d.off b l)
  have z4 := froz_row hr2 11
  have q5 := (dk_cells hr2).2.2.2
  have k4 := Lib.hid (dk_l hr2 n)
  have HR := Lib.hid hr
  have HB := Lib.hid hb
  have HF := Lib.hid hf
  have HT := Lib.hid h.tg
  rw [← k3.out] at z4 q5
  clear h hr hr2 q1 q2 q4 hb hf
  go_enter Try.func22, Try.ntmps22
  go_wp2_with fail
  rw [k3.out, k4.out, setRow_setRow]
  have hb2 : b = (d.fuse n).u.isSome := by
    rw [HB.out]
    unfold Dk.fuse
    simp only
    by_cases h : n < 0
    · rw [if_pos h]; simp; omega
    · rw [if_neg h]; simp; omega
  rw [hb2]
  go_end0
  exact ⟨rfl, dk_head (d' := d.fuse n) HR.out HT.out ht HF.out (fun m hm => by
    unfold Dk.fuse at hm
    simp only at hm
    by_cases h : n < 0
    · rw [if_pos h] at hm; cases hm
    · rw [if_neg h] at hm; cases hm; omega) hn rfl⟩
/-- a function that is entered when it is called -/
def Entr (g : FuncId) : Prop := ∀ (xs : Array Value) (w : World), (callFunc g xs).run Try.prog w = .ok (.enter g xs) w
theorem entr {f : FuncId} {fn : Func} (hf : Try.prog.funcs[f]? = some fn) (hn : (fn.name == "runtime.NumGoroutine") = false) (hb : fn.body.isSome = true) : Entr f := fun xs w => by
  have h1 : fn.name ≠ "runtime.NumGoroutine" := by simpa using hn
  obtain ⟨c, hc⟩ := Option.isSome_iff_exists.1 hb
  simp [callFunc, hf, h1, hc]
/-- a step that was done: one more, and one less that is left -/
def Dk.tick (d : Dk) : Dk := { d with n := d.n + 1, u := d.u.map (· - 1) }
/-- a step: without power nothing is done; else what the closure does, and if it is done it counts -/
def Dk.stepped (d : Dk) (E : Nat) (d1 : Dk) : Nat × Dk := if d.dead then (5, d.dark) else if E = 0 then (0, d1.tick) else (E, d1)

set_option maxHeartbeats 4000000 in
theorem step_any (T : Mk) (t B : Nat) (d : Dk) (g : FuncId) (p1 p2 p3 : Value) (ps : Array Value) (E : Nat) (d1 : Dk) (w : World) (h : DkAt T w t B d) (ht : 0 < t) (hn : d.n < 1000000000000) (hen : Entr g) (h1 : d1.n = d.n ∧ d1.off = d.off ∧ d1.u = d.u) (hE : E < 100)
    (hcall : ¬ d.dead → Calls Try.prog g ps w fun e w' => e = .returned (.int .i64 (E : Int)) ∧ ∃ T', Fr T T' (Hs t) w w' ∧ DkAt T' w' t B d1) :
    Calls Try.prog 26 #[.pointer (some ⟨B, 0, none⟩), .func (.func g) #[] ps] w fun e w' => e = .returned (.int .i64 ((d.stepped E d1).1 : Int)) ∧ ∃ T', Fr T T' (Hs t) w w' ∧ DkAt T' w' t B (d.stepped E d1).2 := by
  obtain ⟨V, l, hr, hl, hl2, hf⟩ := h.row
  obtain ⟨q1, q2, q3, q4⟩ := dk_cells hr
  have HR := Lib.hid hr
  have HF := Lib.hid hf
  have HT := Lib.hid h.tg
  have HL := Lib.hid hl
  have HC := Lib.hid hcall
  unfold Entr at hen
  have HEN := Lib.hid hen
  have HD := Lib.hid h
  have H1 := Lib.hid h1
  clear hr hf hl hcall h hen h1
  by_cases hu : d.u = some 0
  · -- the fuse is at its end
    have hdead : d.dead := .inr hu
    have hl0 : l = 0 := HL.out 0 hu
    subst hl0
    have hs : d.u.isSome = true := by rw [hu]; rfl
    rw [hs] at q3
    have z2 := froz_row HR.out 9
    have k2 := Lib.hid (dk_off HR.out true)
    have r2 := row_setRow HR.out (dkC V d.n true d.u.isSome 0)
    have q5 := (dk_cells r2).2.1
    rw [← k2.out] at q5
    obtain ⟨f1, D1⟩ := dk_head (d' := d.dark) HR.out HT.out ht HF.out (fun m hm => by rw [show d.dark.u = d.u from rfl, hu] at hm; cases hm; rfl) hl2 rfl
    have FF := Lib.hid (f1.mono (H' := Hs t) fun y hy => by subst hy; exact ⟨Nat.le_refl _, by omega⟩)
    have DD := Lib.hid D1
    have HH := Lib.hid hdead
    have HU := Lib.hid hu
    clear hdead hu hs r2 f1 D1 hn
    go_enter Try.func26, Try.ntmps26
    go_wp2_with fail
    rw [k2.out]
    go_ret
    rw [show d.stepped E d1 = (5, d.dark) from if_pos HH.out]
    exact ⟨rfl, T, FF.out, DD.out⟩
  · have hsp : d.u.isSome = false ∨ (d.u.isSome = true ∧ (l == 0) = false) := by
      rcases hm : d.u with _ | m
      · exact .inl rfl
      · refine .inr ⟨rfl, ?_⟩
        have e := HL.out m hm
        rw [hm] at hu
        have : m ≠ 0 := fun h0 => hu (by rw [h0])
        subst e
        simp; omega
    by_cases ho : d.off = true
    · have hdead : d.dead := .inl ho
      have hdk : d.dark = d := by unfold Dk.dark; rw [← ho]
      have HH := Lib.hid hdead
      have HK := Lib.hid hdk
      rw [ho] at q2
      clear hdead hdk hu hn
      rcases hsp with hs | ⟨hs, hl0⟩
      all_goals
        rw [hs] at q3
        clear hs ho
        go_enter Try.func26, Try.ntmps26
        go_wp2_with fail
        go_ret
        rw [show d.stepped E d1 = (5, d.dark) from if_pos HH.out]
        exact ⟨rfl, T, Fr.refl _ _ _, by show DkAt T _ t B d.dark; rw [HK.out]; exact HD.out⟩
    · have ho : d.off = false := by simpa using ho
      have hnd : ¬ d.dead := fun h => by rcases h with h | h; rw [ho] at h; cases h; exact hu h
      have HND := Lib.hid hnd
      have HU := Lib.hid hu
      rw [ho] at q2
      clear hu
      rcases hsp with hs | ⟨hs, hl0⟩
      all_goals
        rw [hs] at q3
        have HS := Lib.hid hs
        have HO := Lib.hid ho
        clear hs ho hnd
        go_enter Try.func26, Try.ntmps26
        have hen := HEN.out
        go_wp2_with fail
        refine (HC.out HND.out).mono ?_
        rintro e w2 ⟨rfl, T2, f2, d2⟩
        have F2 := Lib.hid f2
        have D2 := Lib.hid d2
        clear q1 q2 q3 q4 f2 d2 hen
        by_cases hE0 : E = 0
        · obtain ⟨V2, l2, r2, a2, b2, c2⟩ := D2.out.row
          obtain ⟨q1, q2, q3, q4⟩ := dk_cells r2
          subst hE0
          have hn1 : d1.n < 1000000000000 := by rw [H1.out.1]; exact hn
          have hwr : IntKind.i64.wrap ((d1.n : Int) + 1) = (d1.n : Int) + 1 := IntWalk.i64_in _ (by omega)
          have z1 := froz_row r2 8
          have k1 := Lib.hid (dk_n r2 ((d1.n : Int) + 1))
          have r3 := row_setRow r2 (dkC V2 ((d1.n : Int) + 1) d1.off d1.u.isSome l2)
          have hres : d.stepped 0 d1 = (0, d1.tick) := by unfold Dk.stepped; rw [if_neg HND.out, if_pos rfl]
          have HRES := Lib.hid hres
          have R2 := Lib.hid r2
          have C2 := Lib.hid c2
          have A2 := Lib.hid a2
          have htk : d1.tick.u.isSome = d1.u.isSome := by unfold Dk.tick; simp
          have HTK := Lib.hid htk
          cases hbu : d1.u.isSome with
          | false =>
            obtain ⟨-, -, q5, -⟩ := dk_cells r3
            rw [← k1.out, hbu] at q5
            obtain ⟨f3, d3⟩ := dk_head (d' := d1.tick) (l' := l2) R2.out D2.out.tg ht C2.out (fun m hm => by rw [← HTK.out, hm] at hbu; cases hbu) b2 rfl
            have F3 := Lib.hid (F2.out.trans (f3.mono (H' := Hs t) fun y hy => by subst hy; exact ⟨Nat.le_refl _, by omega⟩))
            have D3 := Lib.hid d3
            rw [HTK.out] at F3 D3
            rw [hbu] at q3
            clear q2 q4 r2 r3 a2 c2 hres htk f3 d3 hbu
            go_wp2_with fail
            rw [k1.out]
            go_ret
            rw [HRES.out]
            exact ⟨rfl, T2, F3.out, D3.out⟩
          | true =>
            obtain ⟨-, -, q5, q6⟩ := dk_cells r3
            have z2 := froz_row r3 11
            rw [← k1.out, hbu] at q5
            rw [← k1.out] at q6 z2
            have k2 := Lib.hid (dk_l r3 (l2 - 1))
            obtain ⟨m, hm⟩ : ∃ m, d1.u = some m := Option.isSome_iff_exists.1 hbu
            have hm0 : m ≠ 0 := fun e => HU.out (by rw [← H1.out.2.2, hm, e])
            have hl2m := A2.out m hm
            have hwr2 : IntKind.i64.wrap (l2 - 1) = l2 - 1 := IntWalk.i64_in _ (by omega)
            obtain ⟨f3, d3⟩ := dk_head (d' := d1.tick) (l' := l2 - 1) R2.out D2.out.tg ht C2.out (fun m' hm' => by
              have : d1.tick.u = some (m - 1) := by unfold Dk.tick; rw [hm]; rfl
              rw [this] at hm'
              cases hm'
              omega) (by omega) rfl
            have F3 := Lib.hid (F2.out.trans (f3.mono (H' := Hs t) fun y hy => by subst hy; exact ⟨Nat.le_refl _, by omega⟩))
            have D3 := Lib.hid d3
            rw [HTK.out] at F3 D3
            rw [hbu] at q3
            clear q2 r2 r3 a2 c2 hres htk f3 d3 hbu hm hl2m
            go_wp2_with fail
            rw [k1.out, k2.out, setRow_setRow]
            go_ret
            rw [HRES.out]
            exact ⟨rfl, T2, F3.out, D3.out⟩
        · have hne : ((E : Int) != 0) = true := by simp; omega
          have hne2 : ((E : Int) == 0) = false := by simp; omega
          have HE0 := Lib.hid hE0
          clear hE0
          go_wp2_with fail
          go_ret
          rw [show d.stepped E d1 = (E, d1) from by unfold Dk.stepped; rw [if_neg HND.out, if_neg HE0.out]]
          exact ⟨rfl, T2, F2.out, D2.out⟩
end Go.Proofs.Ythdhbjfenanbnaa.Oct
