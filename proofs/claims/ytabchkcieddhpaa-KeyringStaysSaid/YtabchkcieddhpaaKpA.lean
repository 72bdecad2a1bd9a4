/- Contracts of keyring's add and refuse. -/
import Derived.Test.YtabchkcieddhpaaKpTy
import Derived.Test.YtabchkcieddhpaaLib
import Derived.Test.YtabchkcieddhpaaKrA
import Derived.WalkKit
import Derived.ProofKit
import Derived.OpenShut
import Derived.Outline
import Derived.Lib.Hide
import Derived.BigQuiet
import Derived.Deep.QuietTactic
import Derived.OwnWalk
namespace Go.Proofs.Ytabchkcieddhpaa.Oct
open Go.ChangeShapes Go.WideShapes Go.ChangeAt Go.RowKit
set_option linter.unusedVariables false

/-- a key's cells with a version more -/
def addC (c : Array Value) (o : Nat) (r : Rg) (m : Bf) : Array Value := (spl c (o + 1 + r.l.length * 34) (veC ⟨m, 0, false⟩)).setIfInBounds (o + 137) (.int .i64 ((r.l.length : Int) + 1))
set_option maxRecDepth 20000 in
set_option maxHeartbeats 4000000 in
theorem padd_any (B o : Nat) (c : Array Value) (r : Rg) (m : Bf) (w : World) (hr : row w B = some c) (hk : KyC c o r) (hv : r.l.length < 4) (hs : o + 138 ≤ c.size) :
    Calls Try.prog 24 #[.pointer (some ⟨B, o, none⟩), .agg (ba 32 m)] w fun e w' => e = .returned (.int .i64 ((r.l.length : Int) + 1)) ∧ Put B (addC c o r m) w w' := by
  obtain ⟨n, hn⟩ : ∃ n, n = r.l.length := ⟨_, rfl⟩
  have hcnt := hk.cnt
  unfold addC
  rw [← hn] at hv hcnt ⊢
  obtain ⟨w1, hw1⟩ : ∃ w1, w1 = w.alloc (.cells (ba 32 m) 32) := ⟨_, rfl⟩
  have b1 : Below w.heap.size w w1 := by rw [hw1]; exact (Below.refl w.heap.size w).alloc (by simp) _
  have r1 : row w1 w.heap.size = some (ba 32 m) := by rw [hw1]; exact row_alloc_at _ _ _ _ rfl
  have r2 : row w1 B = some c := carry b1 hr
  have hlt := row_lt hr
  have hm := Nat.mul_le_mul_right 34 (show n + 1 ≤ 4 by omega)
  have hcl : (veC ⟨m, 0, false⟩).length = 34 := veC_len _
  have k1 : ∀ x : After w1, x.val.cell? ⟨B, o + 137, none⟩ = some (.int .i64 (n : Int)) := fun x => by rw [After.cell r2]; exact hcnt
  have q1 := After.row r1
  obtain ⟨Z, hZ⟩ : ∃ Z, Z = w.heap.size := ⟨_, rfl⟩
  have B1 := Lib.hid b1
  have HW1 := Lib.hid hw1
  have HZ := Lib.hid hZ
  have HC := Lib.hid hcnt
  have HR := Lib.hid hr
  have HL := Lib.hid hlt
  have R2 := Lib.hid r2
  rw [← hZ] at q1
  clear hn hk hw1 b1 hr hcnt hZ r1 hlt r2
  go_enter Try.func24, Try.ntmps24
  go_wp2_with fail
  rw [← HW1.out, ← HZ.out]
  refine seen_tail 0 10 (by kernel_rfl) (by kernel_rfl) (fun _ _ _ _ _ h => h) ?_
  simp only [List.take_succ_cons, List.take_zero, List.drop_succ_cons, List.drop_zero]
  repeat (go_big_quiet_step (fail))
  refine wpQuiet_nil ?_
  rintro _ ⟨x, rfl⟩
  obtain ⟨wx, hwx⟩ : ∃ wx, wx = x.val := ⟨_, rfl⟩
  have bx := x.below
  rw [← hwx] at bx ⊢
  have rx := carry bx R2.out
  have HPW := Lib.hid (B1.out.trans (bx.mono B1.out.size))
  clear hwx bx k1 q1
  obtain ⟨c2, hc2⟩ : ∃ c2, c2 = spl c (o + 1 + n * 34) (veC ⟨m, 0, false⟩) := ⟨_, rfl⟩
  have HC2 := Lib.hid hc2
  have hst : stR Try.prog 50 34 wx B (o + 1 + n * 34) (.agg (veA ⟨m, 0, false⟩)) (some c) = .ok () (wx.setRow B c2) := by
    rw [hc2, ← veA_list]
    exact stR_spl (by omega) (veA_size _) (veA_ones _)
  obtain ⟨w2, hw2⟩ : ∃ w2, w2 = wx.setRow B c2 := ⟨_, rfl⟩
  have HW2 := Lib.hid hw2
  have r3 : row w2 B = some c2 := by rw [hw2]; exact row_setRow rx _
  rw [← hw2] at hst
  have k2 : w2.cell? ⟨B, o + 137, none⟩ = some (.int .i64 (n : Int)) := by
    rw [cell_row r3, hc2, spl_get _ _ _ _ (by rw [hcl]; omega), hcl, if_neg (by omega)]; exact HC.out
  have f2 : w2.frozen? ⟨B, o + 137, none⟩ = false := froz_row r3 _
  have k3 : (w2.setCell ⟨B, o + 137, none⟩ (.int .i64 ((n : Int) + 1))).cell? ⟨B, o + 137, none⟩ = some (.int .i64 ((n : Int) + 1)) := by
    rw [setCell_row r3, cell_row (row_setRow r3 _), Array.getElem?_setIfInBounds, if_pos rfl, if_pos (by rw [hc2, spl_sizeK]; omega)]
  have HE := Lib.hid (show Put B (c2.setIfInBounds (o + 137) (.int .i64 ((n : Int) + 1))) w (w2.setCell ⟨B, o + 137, none⟩ (.int .i64 ((n : Int) + 1))) by
    rw [setCell_row r3, HW2.out, setRow_setRow]; exact Put.of HPW.out HL.out _)
  clear hw2 hc2 hcl r3
  go_wp2_with fail
  go_ret
  rw [← HC2.out]
  exact ⟨rfl, HE.out⟩
/-- why a version isn't given out -/
def rfE (off g : Bool) : Int := if off = true then 131 else if g = true then 132 else 0
theorem prefuse_any (B o q : Nat) (off g : Bool) (w : World) (h1 : w.cell? ⟨B, o, none⟩ = some (.bool off)) (h2 : w.cell? ⟨B, q + 33, none⟩ = some (.bool g)) :
    Calls Try.prog 28 #[.pointer (some ⟨B, o, none⟩), .pointer (some ⟨B, q, none⟩)] w fun e w' => e = .returned (.int .i64 (rfE off g)) ∧ w = w' := by
  unfold rfE
  cases off <;> cases g <;>
  · go_enter Try.func28, Try.ntmps28
    go_wp2_with fail
    go_ret
    exact ⟨rfl, rfl⟩
end Go.Proofs.Ytabchkcieddhpaa.Oct
