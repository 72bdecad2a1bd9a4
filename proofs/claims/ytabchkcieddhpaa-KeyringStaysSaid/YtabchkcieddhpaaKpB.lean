/- Contracts of keyring's at and atVersion, whatever they are to do. -/
import Derived.Test.YtabchkcieddhpaaKpA
namespace Go.Proofs.Ytabchkcieddhpaa.Oct
open Go.ChangeShapes Go.WideShapes Go.ChangeAt Go.RowKit
set_option linter.unusedVariables false

/-- a function that is entered when it is called -/
def EntrK (g : FuncId) : Prop := ∀ (xs : Array Value) (w : World), (callFunc g xs).run Try.prog w = .ok (.enter g xs) w
theorem entrK {f : FuncId} {fn : Func} (hf : Try.prog.funcs[f]? = some fn) (hn : (fn.name == "runtime.NumGoroutine") = false) (hb : fn.body.isSome = true) : EntrK f := fun xs w => by
  have h1 : fn.name ≠ "runtime.NumGoroutine" := by simpa using hn
  obtain ⟨c, hc⟩ := Option.isSome_iff_exists.1 hb
  simp [callFunc, hf, h1, hc]
/-- a keyring's block -/
theorem KsC.cell (B : Nat) {c : Array Value} {K : Ks} {w : World} (h : KsC c K) (hr : row w B = some c) : w.cell? ⟨B, 1104, none⟩ = some (.int .i64 (K.length : Int)) := by rw [cell_row hr]; exact h.cnt

set_option maxRecDepth 20000 in
/-- no such key -/
theorem pat_no (B : Nat) (K : Ks) (id : Int) (f : Value) (w : World) (hc : w.cell? ⟨B, 1104, none⟩ = some (.int .i64 (K.length : Int))) (hk : hasK K id = false) :
    Calls Try.prog 25 #[.pointer (some ⟨B, 0, none⟩), .int .i64 id, f] w fun e w' => e = .returned (.int .i64 130) ∧ w = w' := by
  by_cases h1 : id < 1
  · have hd : decide (id < 1) = true := by simpa using h1
    go_enter Try.func25, Try.ntmps25
    go_wp2_with fail
    go_ret
    exact ⟨rfl, rfl⟩
  · have hd : decide (id < 1) = false := by simpa using h1
    have h2 : decide ((K.length : Int) < id) = true := by
      cases hh : decide ((K.length : Int) < id)
      · have : hasK K id = true := hasK_iff.2 ⟨by omega, by simpa using hh⟩
        rw [hk] at this; cases this
      · rfl
    go_enter Try.func25, Try.ntmps25
    go_wp2_with fail
    go_ret
    exact ⟨rfl, rfl⟩
/-- what a doer ends in: a number, and P -/
def Num (P : Int → World → Prop) (e : Ending) (w' : World) : Prop := ∃ E : Int, e = .returned (.int .i64 E) ∧ P E w'
set_option maxRecDepth 20000 in
/-- a key's cells are handed to the doer -/
theorem pat_yes (B : Nat) (K : Ks) (i : Nat) (F : FuncId) (caps : Array Value) (w : World) (P : Int → World → Prop) (hc : w.cell? ⟨B, 1104, none⟩ = some (.int .i64 (K.length : Int))) (hi : i < K.length) (h8 : i < 8) (hen : EntrK F)
    (hF : Calls Try.prog F (#[.pointer (some ⟨B, i * 138, none⟩)] ++ caps) w (Num P)) :
    Calls Try.prog 25 #[.pointer (some ⟨B, 0, none⟩), .int .i64 ((i : Int) + 1), .func (.func F) #[] caps] w (Num P) := by
  have hd : decide ((i : Int) + 1 < 1) = false := by simp; omega
  have hd2 : decide ((K.length : Int) < (i : Int) + 1) = false := by simp; omega
  have e1 : (i : Int) + 1 - 1 = (i : Int) := by omega
  unfold EntrK at hen
  have HF := Lib.hid hF
  clear hF
  go_enter Try.func25, Try.ntmps25
  go_wp2_with fail
  refine HF.out.mono ?_
  rintro e w1 ⟨E, rfl, hP⟩
  go_wp2_with fail
  exact bodyPost_ret (v := .int .i64 E) (by simp [results, Try.results25, go_sem]) rfl ⟨E, rfl, hP⟩
/-- the same, refused or not -/
theorem Num.num {v : Int} {P : Int → World → Prop} {e : Ending} {w' : World} (h : e = .returned (.int .i64 v)) (h2 : P v w') : Num P e w' := ⟨v, h, h2⟩

set_option maxRecDepth 20000 in
/-- no such version -/
theorem pvv_no (B o V D n : Nat) (ver : Int) (f : Value) (w : World) (hc : w.cell? ⟨B, o + 137, none⟩ = some (.int .i64 (n : Int))) (hv : w.cell? ⟨V, 0, none⟩ = some (.int .i64 ver)) (hk : ¬ (1 ≤ ver ∧ ver ≤ (n : Int))) (hB : B < w.heap.size) (hV : V < w.heap.size) :
    Calls Try.prog 43 #[.pointer (some ⟨B, o, none⟩), .pointer (some ⟨V, 0, none⟩), .pointer (some ⟨D, 0, none⟩)] w fun e w' => e = .returned (.int .i64 130) ∧ Below w.heap.size w w' := by
  have k1 : ∀ x : After w, x.val.cell? ⟨B, o + 137, none⟩ = some (.int .i64 (n : Int)) := fun x => by rw [World.cell?_of_block (w := w) (x.below.block B hB)]; exact hc
  have k2 : ∀ x : After w, x.val.cell? ⟨V, 0, none⟩ = some (.int .i64 ver) := fun x => by rw [World.cell?_of_block (w := w) (x.below.block V hV)]; exact hv
  by_cases h1 : ver < 1
  · have hd : decide (ver < 1) = true := by simpa using h1
    go_enter Try.func43, Try.ntmps43
    go_wp2_with fail
    refine seen_region (by kernel_rfl) (by kernel_rfl) ?_
    repeat (go_big_quiet_step (fail))
    refine wpQuiet_nil ?_
    rintro _ ⟨x, rfl⟩
    have bx := Lib.hid x.below
    go_wp2_with fail
    go_ret
    exact ⟨rfl, bx.out⟩
  · have hd : decide (ver < 1) = false := by simpa using h1
    have hd2 : decide ((n : Int) < ver) = true := by simp; omega
    go_enter Try.func43, Try.ntmps43
    go_wp2_with fail
    refine seen_region (by kernel_rfl) (by kernel_rfl) ?_
    repeat (go_big_quiet_step (fail))
    refine wpQuiet_nil ?_
    rintro _ ⟨x, rfl⟩
    have bx := Lib.hid x.below
    go_wp2_with fail
    go_ret
    exact ⟨rfl, bx.out⟩
set_option maxRecDepth 20000 in
/-- a version's cells are handed to the doer -/
theorem pvv_yes (B o V D n v : Nat) (G : FuncId) (caps : Array Value) (w : World) (P : Int → World → Prop) (hc : w.cell? ⟨B, o + 137, none⟩ = some (.int .i64 (n : Int))) (hv : w.cell? ⟨V, 0, none⟩ = some (.int .i64 ((v : Int) + 1))) (hf : w.cell? ⟨D, 0, none⟩ = some (.func (.func G) #[] caps))
    (hk : v < n) (h4 : v < 4) (hB : B < w.heap.size) (hV : V < w.heap.size) (hD : D < w.heap.size) (hen : EntrK G)
    (hG : ∀ w1, Below w.heap.size w w1 → Calls Try.prog G (#[.pointer (some ⟨B, o, none⟩), .pointer (some ⟨B, o + 1 + v * 34, none⟩)] ++ caps) w1 (Num P)) :
    Calls Try.prog 43 #[.pointer (some ⟨B, o, none⟩), .pointer (some ⟨V, 0, none⟩), .pointer (some ⟨D, 0, none⟩)] w (Num P) := by
  have k1 : ∀ x : After w, x.val.cell? ⟨B, o + 137, none⟩ = some (.int .i64 (n : Int)) := fun x => by rw [World.cell?_of_block (w := w) (x.below.block B hB)]; exact hc
  have k2 : ∀ x : After w, x.val.cell? ⟨V, 0, none⟩ = some (.int .i64 ((v : Int) + 1)) := fun x => by rw [World.cell?_of_block (w := w) (x.below.block V hV)]; exact hv
  have k3 : ∀ x : After w, x.val.cell? ⟨D, 0, none⟩ = some (.func (.func G) #[] caps) := fun x => by rw [World.cell?_of_block (w := w) (x.below.block D hD)]; exact hf
  have K1 := Lib.hid k1
  have K2 := Lib.hid k2
  have K3 := Lib.hid k3
  have hd : decide ((v : Int) + 1 < 1) = false := by simp; omega
  have hd2 : decide ((n : Int) < (v : Int) + 1) = false := by simp; omega
  have e1 : (v : Int) + 1 - 1 = (v : Int) := by omega
  unfold EntrK at hen
  have HG := Lib.hid hG
  clear hG hc hv hf
  go_enter Try.func43, Try.ntmps43
  go_wp2_with fail
  refine seen_region (by kernel_rfl) (by kernel_rfl) ?_
  repeat (go_big_quiet_step (fail))
  refine wpQuiet_nil ?_
  rintro _ ⟨x, rfl⟩
  obtain ⟨wx, hwx⟩ : ∃ wx, wx = x.val := ⟨_, rfl⟩
  have bx := x.below
  rw [← hwx] at bx ⊢
  have k1' : ∀ y : After wx, y.val.cell? ⟨B, o + 137, none⟩ = some (.int .i64 (n : Int)) := fun y => K1.out ⟨y.val, onto bx bx.size y.below⟩
  have k2' : ∀ y : After wx, y.val.cell? ⟨V, 0, none⟩ = some (.int .i64 ((v : Int) + 1)) := fun y => K2.out ⟨y.val, onto bx bx.size y.below⟩
  have k3' : ∀ y : After wx, y.val.cell? ⟨D, 0, none⟩ = some (.func (.func G) #[] caps) := fun y => K3.out ⟨y.val, onto bx bx.size y.below⟩
  have BX := Lib.hid bx
  clear k1 k2 k3 hwx bx
  go_wp2_with fail
  refine seen_tail 0 8 (by kernel_rfl) (by kernel_rfl) (fun _ _ _ _ _ h => h) ?_
  simp only [List.take_succ_cons, List.take_zero, List.drop_succ_cons, List.drop_zero]
  repeat (go_big_quiet_step (fail))
  refine wpQuiet_nil ?_
  rintro _ ⟨z, rfl⟩
  have HZ := Lib.hid (onto BX.out BX.out.size z.below)
  clear k1' k2' k3'
  go_wp2_with fail
  refine (HG.out _ HZ.out).mono ?_
  rintro e w1 ⟨E, rfl, hP⟩
  go_wp2_with fail
  exact bodyPost_ret (v := .int .i64 E) (by simp [results, Try.results43, go_sem]) rfl ⟨E, rfl, hP⟩
end Go.Proofs.Ytabchkcieddhpaa.Oct
