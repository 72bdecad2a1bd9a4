/- Contracts: disk's New, Read. -/
import Derived.Test.YthdhbjfenanbnaaDkJ
namespace Go.Proofs.Ythdhbjfenanbnaa.Oct
open Go.ChangeShapes Go.WideShapes Go.ChangeAt Go.RowKit
set_option linter.unusedVariables false

theorem dk_new : (#[.slice none 0 0, .slice none 0 0, .slice none 0 0, .slice none 0 0, .slice none 0 0, .slice none 0 0, .slice none 0 0, .slice none 0 0, .int .i64 0, .bool false, .bool false, .int .i64 0] : Array Value) = dkC (fun _ => .slice none 0 0) newD.n newD.off newD.u.isSome 0 := by unfold dkC; rfl
theorem new_any (T : Mk) (t : Nat) (w : World) : Calls Try.prog 9 #[] w fun e w' => e = .returned (.pointer (some ⟨w.heap.size, 0, none⟩)) ∧ Below w.heap.size w w' ∧ DkAt (paint T w.heap.size t) w' t w.heap.size newD := by
  go_enter Try.func9, Try.ntmps9
  go_wp2_with fail
  go_ret
  rw [dk_new]
  refine ⟨rfl, (Below.refl _ _).alloc (Nat.le_refl _) _, paint_new (Nat.le_refl _), ⟨_, 0, row_alloc_at _ _ _ _ rfl, fun m hm => (by cases hm), by omega, fun i hi => ⟨OwB.nil _ _ _ _, ElOw.nil, ?_⟩⟩⟩
  show ([] : By).length ≤ maxF
  simp
/-- what Read answers: the error, the content -/
def Dk.read (d : Dk) (f : Int) : Nat × By := if 0 ≤ f ∧ f < 4 then (if d.off then (5, []) else (0, (d.f f.toNat).all)) else (1, [])
set_option maxHeartbeats 2000000 in
theorem read_any (T : Mk) (t B : Nat) (d : Dk) (f : Int) (w : World) (h : DkAt T w t B d) (hl : ∀ i, i < 4 → (d.f i).l.length ≤ 1000000000000) :
    Calls Try.prog 18 #[.pointer (some ⟨B, 0, none⟩), .int .i64 f] w fun e w' => ∃ v, e = .returned (.tuple #[v, .int .i64 ((d.read f).1 : Int)]) ∧ Own w' w.heap.size 5 v (d.read f).2.length (lf (d.read f).2) ∧ Below w.heap.size w w' := by
  have HI := Lib.hid (isFile_any f w)
  by_cases hf : 0 ≤ f ∧ f < 4
  · have hd : decide (0 ≤ f ∧ f < 4) = true := by simpa using hf
    rw [hd] at HI
    obtain ⟨V, l, hr, -, -, h3⟩ := h.row
    obtain ⟨-, q2, -, -⟩ := dk_cells hr
    cases ho : d.off with
    | true =>
      have HRD := Lib.hid (show d.read f = (5, []) by unfold Dk.read; rw [if_pos hf, if_pos ho])
      rw [ho] at q2
      clear hr h3 h hd
      go_enter Try.func18, Try.ntmps18
      go_wp2_with fail
      refine HI.out.mono ?_
      rintro e w1 ⟨rfl, rfl⟩
      go_wp2_with fail
      rw [HRD.out]
      exact bodyPost_ret (v := .tuple #[.slice none 0 0, .int .i64 5]) (by simp [results, Try.results18, go_sem]) rfl ⟨_, rfl, Own.nil _ _ _ _, Below.refl _ _⟩
    | false =>
      obtain ⟨F, rfl⟩ : ∃ F : Nat, f = (F : Int) := ⟨f.toNat, by omega⟩
      have hF : F < 4 := by omega
      have HRD := Lib.hid (show d.read F = (0, (d.f F).all) by unfold Dk.read; rw [if_pos hf, if_neg (by rw [ho]; simp), Int.toNat_natCast])
      obtain ⟨hd1, hp1, ok1⟩ := h3 F hF
      obtain ⟨A1, c1, hv1, hr1, -⟩ := hd1.rd
      obtain ⟨A2, c2, hv2, hp2, -⟩ := hp1.sl
      have HC := Lib.hid (content_any T _ _ B (F * 2) c1 c2 A1 A2 _ _ _ w hr (by rw [dk_get _ _ _ _ _ (by omega), show F * 2 = 2 * F by omega, hv1]) (by rw [dk_get _ _ _ _ _ (by omega), show F * 2 + 1 = 2 * F + 1 by omega, hv2]) hr1 hp2 ok1 (hl F hF))
      rw [ho] at q2
      have b1 : decide ((F : Int) < 4) = true := by simp; omega
      clear hr h3 h hd hd1 hp1 hr1 hp2 hv1 hv2
      go_enter Try.func18, Try.ntmps18
      go_wp2_with fail
      refine HI.out.mono ?_
      rintro e w1 ⟨rfl, rfl⟩
      go_wp2_with fail
      refine HC.out.mono ?_
      rintro e w2 ⟨v, rfl, o2, b2⟩
      have O2 := Lib.hid o2
      have B2 := Lib.hid b2
      clear HC o2 b2
      go_wp2_with fail
      rw [HRD.out]
      exact bodyPost_ret (v := .tuple #[v, .int .i64 0]) (by simp [results, Try.results18, go_sem]) rfl ⟨_, rfl, O2.out, B2.out⟩
  · have hd : decide (0 ≤ f ∧ f < 4) = false := by simpa using hf
    rw [hd] at HI
    have HRD := Lib.hid (show d.read f = (1, []) by unfold Dk.read; rw [if_neg hf])
    clear h hd
    go_enter Try.func18, Try.ntmps18
    go_wp2_with fail
    refine HI.out.mono ?_
    rintro e w1 ⟨rfl, rfl⟩
    go_wp2_with fail
    rw [HRD.out]
    exact bodyPost_ret (v := .tuple #[.slice none 0 0, .int .i64 1]) (by simp [results, Try.results18, go_sem]) rfl ⟨_, rfl, Own.nil _ _ _ _, Below.refl _ _⟩

/-- file i anew: what two cells of the block hold is another file -/
theorem dk_fil {T T' : Mk} {w w' : World} {t B i : Nat} {d : Dk} {x : Fl} {V : Nat → Value} {l : Int} {vd vp : Value} (hT : T' B = t) (hi : i < 4) (hr : row w' B = some (dkC (updV (updV V (2 * i) vd) (2 * i + 1) vp) d.n d.off d.u.isSome l))
    (hl : ∀ m, d.u = some m → l = (m : Int)) (hl2 : -9223372036854775808 ≤ l ∧ l < 9223372036854775808) (h3 : ∀ j, j < 4 → j ≠ i → FilAt T' w' (t + 1 + 2 * j) (V (2 * j)) (V (2 * j + 1)) (d.f j)) (hx : FilAt T' w' (t + 1 + 2 * i) vd vp x) :
    DkAt T' w' t B { d with f := updD d.f i x } :=
  ⟨hT, ⟨_, l, hr, hl, hl2, fun j hj => by
    show FilAt _ _ _ _ _ (updD d.f i x j)
    by_cases e : j = i
    · subst e
      rw [updD_same, updV_same, updV_other _ _ (by omega), updV_same]
      exact hx
    · rw [updD_other _ _ e, updV_other _ _ (by omega), updV_other _ _ (by omega), updV_other _ _ (by omega), updV_other _ _ (by omega)]
      exact h3 j hj e⟩⟩
theorem updV_self (V : Nat → Value) (i : Nat) : updV V i (V i) = V := by
  funext j
  unfold updV
  split
  · rename_i h; rw [h]
  · rfl
end Go.Proofs.Ythdhbjfenanbnaa.Oct
