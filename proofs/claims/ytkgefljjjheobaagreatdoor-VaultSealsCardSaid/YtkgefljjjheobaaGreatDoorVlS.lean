/- What the statements of layer 12 share: few, and the document's examples at their head. -/
import Derived.Test.YtkgefljjjheobaaGreatDoorVlD
import Derived.Test.YtkgefljjjheobaaGreatDoorVlAt
namespace Go.Proofs.YtkgefljjjheobaaGreatDoor.Oct
open Go.ChangeShapes Go.WideShapes Go.ChangeAt Go.RowKit
set_option linter.unusedVariables false

theorem few_any (A : Option Addr) (n c : Nat) (h : n ≤ c) (hc : c ≤ maxLen) (w : World) :
    Calls Tryz.prog 5 #[.slice A n c] w fun e w' => e = .returned (.slice A (min n 500) c) ∧ w = w' := by
  unfold maxLen at hc
  by_cases hlt : 500 < n
  · have hd : decide ((500 : Int) < (n : Int)) = true := by simp; omega
    have hup := run_upto sli_u u8_i A n c 500 (by omega)
    rw [show min n 500 = 500 by omega]
    go_enter Tryz.func5, Tryz.ntmps5
    go_wp2
    go_ret
    exact ⟨rfl, rfl⟩
  · have hd : decide ((500 : Int) < (n : Int)) = false := by simp; omega
    rw [show min n 500 = n by omega]
    go_enter Tryz.func5, Tryz.ntmps5
    go_wp2
    go_ret
    exact ⟨rfl, rfl⟩
theorem bld123 (w : World) : (Instr.build 34 #[(0, .int .u8 1), (1, .int .u8 0), (2, .int .u8 0), (3, .int .u8 0), (4, .int .u8 0), (5, .int .u8 2), (6, .int .u8 0), (7, .int .u8 0), (8, .int .u8 0), (9, .int .u8 0), (10, .int .u8 0), (11, .int .u8 3)]).run Tryz.prog w = .ok (.agg (ba 12 (nonF 1 2 3))) w := by
  unfold ba; kernel_rfl

set_option maxRecDepth 20000 in
set_option maxHeartbeats 2000000 in
theorem shown_any (w : World) (ht : Tab w) :
    Calls Tryz.prog 4 #[] w fun e w' => e = .returned (.bool true) ∧ Below w.heap.size w w' := by
  have HT := Lib.hid ht
  clear ht
  have b1 := bld123
  go_enter Tryz.func4, Tryz.ntmps4
  go_wp2_with fail
  refine (vnon_any 1 2 3 w).mono ?_
  rintro e w1 ⟨rfl, hb1⟩
  rw [show nonU 1 2 3 = nonF 1 2 3 from nonU_ok (d := 1) (t := 2) (x := 3) (by decide), errU_ok (by decide)]
  have hb2 := hb1.alloc hb1.size (.cells (ba 12 (nonF 1 2 3)) 34)
  have r2 : row (w1.alloc (.cells (ba 12 (nonF 1 2 3)) 34)) w1.heap.size = some (ba 12 (nonF 1 2 3)) := row_alloc_at _ _ _ _ rfl
  have HB2 := Lib.hid hb2
  clear hb1 hb2
  go_wp2_with fail
  generalize w1.alloc (.cells (ba 12 (nonF 1 2 3)) 34) = w2 at HB2 r2 ⊢
  refine (vnon_any 256 0 0 w2).mono ?_
  rintro e w3 ⟨rfl, hb3⟩
  rw [nonU_no (by decide), errU_no (by decide)]
  have hb4 := hb3.alloc hb3.size (.cells (ba 12 fun _ => 0#8) 34)
  have r4 := carry hb4 r2
  have HB4 := Lib.hid (onto HB2.out HB2.out.size hb4)
  clear hb3 hb4 r2 HB2
  go_wp2_with fail
  generalize w3.alloc (.cells (ba 12 fun _ => 0#8) 34) = w4 at HB4 r4 ⊢
  refine (vseal_any (fun _ => 0#8) 0 1099511627776 0 nF 0 0 none w4 (HT.out.below HB4.out HT.out.pos) (Sl.nothing _ _ _ _ _) (by omega)).mono ?_
  rintro e w5 ⟨v, rfl, -, hb5⟩
  rw [errU_no (by decide)]
  have r5 := carry hb5 r4
  have HB5 := Lib.hid (onto HB4.out HB4.out.size hb5)
  clear r4 HB4 hb5
  have heq := eqB_refl 12 (nonF 1 2 3)
  obtain ⟨F, hF⟩ : ∃ F, F = nonF 1 2 3 := ⟨_, rfl⟩
  rw [← hF] at b1 r5 heq
  clear hF
  go_wp2_with (refine wpl_build rfl 34 _ rfl _ _ b1 (by kernel_rfl) ?_)
  go_ret
  exact ⟨rfl, HB5.out⟩
end Go.Proofs.YtkgefljjjheobaaGreatDoor.Oct
