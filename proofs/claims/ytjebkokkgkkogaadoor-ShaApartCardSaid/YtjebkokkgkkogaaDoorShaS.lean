/- The statements' head: the document's examples. -/
import Derived.Test.YtjebkokkgkkogaaDoorShaEx
import Derived.Lib.SlBytesConst
namespace Go.Proofs.YtjebkokkgkkogaaDoor.Oct
open Go.ChangeShapes Go.WideShapes Go.ChangeAt Go.RowKit
set_option linter.unusedVariables false

def abcF : Bf := fun i => exAM.getD i 0#8
theorem abc_ok : (#[.int .u8 97, .int .u8 98, .int .u8 99] : Array Value) = ba 3 abcF := by unfold ba; kernel_rfl
theorem slit1 (b : Bf) : strOf 8 (shaF kF iF b 0) = ⟨#[227, 176, 196, 66, 152, 252, 28, 20]⟩ := by
  rw [str_congr fun i hi => exN_ok b i (by omega)]
  unfold strOf; decide +kernel
theorem slit2 : strOf 8 (shaF kF iF abcF 3) = ⟨#[186, 120, 22, 191, 143, 1, 207, 234]⟩ := by
  rw [str_congr fun i hi => exA_ok abcF (fun _ _ => rfl) i (by omega)]
  unfold strOf; decide +kernel
theorem slit3 : strOf 8 (offF (shaF kF iF abcF 3) 24) = ⟨#[180, 16, 255, 97, 242, 0, 21, 173]⟩ := by
  rw [str_congr (b' := offF (fun i => exAD.getD i 0#8) 24) fun i hi => by unfold offF; exact exA_ok abcF (fun _ _ => rfl) _ (by omega)]
  unfold strOf; decide +kernel
/-- the first m bytes, and those from o on, of a row of 32 bytes, as strings -/
theorem sum_str_h {w : World} {B : Nat} {f : Bf} (h : row w B = some (ba 32 f)) : (convert 22 9 (.slice (some ⟨B, 0, none⟩) 8 32)).run Tryd.prog w = .ok (.string (strOf 8 f)) w :=
  run_str sli_u u8_u str_u ((Sl.of_row h (B + 1) (by omega)).upto 8 (by omega))
theorem sum_str_l {w : World} {B : Nat} {f : Bf} (h : row w B = some (ba 32 f)) : (convert 22 9 (.slice (some ⟨B, 24, none⟩) 8 8)).run Tryd.prog w = .ok (.string (strOf 8 (offF f 24))) w := by
  have hs := (Sl.of_row h (B + 1) (by omega)).from_ 24 (by omega)
  rw [show cutA (some (⟨B, 0, none⟩ : Addr)) 32 24 = some ⟨B, 24, none⟩ by unfold cutA; rw [if_neg (by omega)]; simp only [Option.map_some]; rw [add_mid]] at hs
  exact run_str sli_u u8_u str_u hs

theorem conv_sl (w : World) : (convert 22 22 (.slice (some ⟨w.heap.size, 0, none⟩) 3 3)).run Tryd.prog (w.alloc (.cells (ba 3 abcF) 5)) = .ok (.slice (some ⟨w.heap.size, 0, none⟩) 3 3) (w.alloc (.cells (ba 3 abcF) 5 (3, 4))) := by
  have h := Lib.run_convert_bytes_const (P := Tryd.prog) w 22 5 (ba 3 abcF) 3 3 sli_u u8_u
  rw [ba_size] at h
  exact h
theorem abc_sl (w : World) : Sl (w.alloc (.cells (ba 3 abcF) 5 (3, 4))) (w.heap.size + 1) (some ⟨w.heap.size, 0, none⟩) 3 3 abcF :=
  ⟨Nat.le_refl _, fun _ => ⟨w.heap.size, 0, rfl, by omega, fun i hi => by rw [Nat.zero_add, cell_of_row _ _ i _ _ _ (heap_alloc_new w _), ba_get 3 abcF i hi]⟩⟩

set_option maxRecDepth 20000 in
set_option maxHeartbeats 4000000 in
theorem shown_any (w : World) (ht : Tab w) :
    Calls Tryd.prog 7 #[] w fun e w' => e = .returned (.bool true) ∧ Below w.heap.size w w' := by
  have HT := Lib.hid ht
  clear ht
  have habc := abc_ok
  go_enter Tryd.func7, Tryd.ntmps7
  go_wp2_with fail
  refine (hash_any nF 0 0 none _ HT.out (Sl.nothing _ _ _ _ _) (by omega)).mono ?_
  rintro e w1 ⟨rfl, hb1⟩
  have HB1 := Lib.hid hb1
  have HS1 := Lib.hid hb1.size
  clear hb1
  have hcv := conv_sl (w1.alloc (.cells (ba 32 (shaF kF iF nF 0)) 25))
  rw [show (w1.alloc (.cells (ba 32 (shaF kF iF nF 0)) 25)).heap.size = w1.heap.size + 1 by simp] at hcv
  go_wp2_with fail
  have q1 : row ((w1.alloc (.cells (ba 32 (shaF kF iF nF 0)) 25)).alloc (.cells (ba 3 abcF) 5 (3, 4))) w1.heap.size = some (ba 32 (shaF kF iF nF 0)) := by rw [row_alloc_past _ _ _ (by simp)]; exact row_alloc_at _ _ _ _ rfl
  have q2 := abc_sl (w1.alloc (.cells (ba 32 (shaF kF iF nF 0)) 25))
  rw [show (w1.alloc (.cells (ba 32 (shaF kF iF nF 0)) 25)).heap.size = w1.heap.size + 1 by simp] at q2
  have B2 := Lib.hid ((HB1.out.alloc HS1.out (.cells (ba 32 (shaF kF iF nF 0)) 25)).alloc (by have := HS1.out; simp; omega) (.cells (ba 3 abcF) 5 (3, 4)))
  have hz : ((w1.alloc (.cells (ba 32 (shaF kF iF nF 0)) 25)).alloc (.cells (ba 3 abcF) 5 (3, 4))).heap.size = w1.heap.size + 2 := by simp
  obtain ⟨w2, hw2⟩ : ∃ w2, w2 = (w1.alloc (.cells (ba 32 (shaF kF iF nF 0)) 25)).alloc (.cells (ba 3 abcF) 5 (3, 4)) := ⟨_, rfl⟩
  obtain ⟨p, hp⟩ : ∃ p, p = w1.heap.size := ⟨_, rfl⟩
  rw [← hw2, ← hp] at q1 q2 hz
  rw [← hw2] at B2 ⊢
  rw [← hp]
  have HS2 := Lib.hid (show w.heap.size ≤ w2.heap.size by have := row_lt q1; have := HS1.out; omega)
  clear hw2 hp habc HB1 HS1 hcv
  refine (hash_any abcF 3 3 (some ⟨p + 1, 0, none⟩) _ (HT.out.below B2.out HT.out.pos) (q2.more (by omega)) (by omega)).mono ?_
  rintro e w3 ⟨rfl, hb3⟩
  have r1 := carry hb3 q1
  have B3 := Lib.hid (onto B2.out HS2.out hb3)
  have HS3 := Lib.hid (show w.heap.size ≤ w3.heap.size by have := hb3.size; have := HS2.out; omega)
  clear hb3 q1 q2 B2 HS2 hz
  have q1 := row_alloc r1 (.cells (ba 32 (shaF kF iF abcF 3)) 25)
  have q2 : row (w3.alloc (.cells (ba 32 (shaF kF iF abcF 3)) 25)) w3.heap.size = some (ba 32 (shaF kF iF abcF 3)) := row_alloc_at _ _ _ _ rfl
  have B4 := Lib.hid (B3.out.alloc HS3.out (.cells (ba 32 (shaF kF iF abcF 3)) 25))
  have g1 := sum_str_h q1
  have g2 := sum_str_h q2
  have g3 := sum_str_l q2
  rw [slit1] at g1
  rw [slit2] at g2
  rw [slit3] at g3
  have a1 := sum_sl_h p 8 (by omega)
  have a2 := sum_sl_h w3.heap.size 8 (by omega)
  have a3 := sum_sl_l w3.heap.size 24 (by omega)
  rw [show ((8 : Nat) : Int) = 8 from rfl] at a1 a2
  rw [show ((24 : Nat) : Int) = 24 from rfl] at a3
  clear q1 q2 r1 B3 HS3
  go_wp2_with fail
  go_ret
  exact ⟨rfl, B4.out⟩
end Go.Proofs.YtjebkokkgkkogaaDoor.Oct
