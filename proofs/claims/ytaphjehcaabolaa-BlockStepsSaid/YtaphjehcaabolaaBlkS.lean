/- The statements' head: the document's examples. -/
import Derived.Test.YtaphjehcaabolaaBlkH
namespace Go.Proofs.Ytaphjehcaabolaa.Oct
open Go.ChangeShapes Go.WideShapes Go.ChangeAt Go.RowKit

def btb (l : List (BitVec 8)) : Bf := fun i => l.getD i 0#8
def bxA : Bf := btb [102#8, 233#8, 75#8, 212#8, 239#8, 138#8, 44#8, 59#8, 136#8, 76#8, 250#8, 89#8, 202#8, 52#8, 43#8, 46#8]
theorem blA_ok : (#[.int .u8 102, .int .u8 233, .int .u8 75, .int .u8 212, .int .u8 239, .int .u8 138, .int .u8 44, .int .u8 59, .int .u8 136, .int .u8 76, .int .u8 250, .int .u8 89, .int .u8 202, .int .u8 52, .int .u8 43, .int .u8 46] : Array Value) = ba 16 bxA := by unfold ba; kernel_rfl
theorem blA (w : World) : (Instr.build 23 #[(0, .int .u8 102), (1, .int .u8 233), (2, .int .u8 75), (3, .int .u8 212), (4, .int .u8 239), (5, .int .u8 138), (6, .int .u8 44), (7, .int .u8 59), (8, .int .u8 136), (9, .int .u8 76), (10, .int .u8 250), (11, .int .u8 89), (12, .int .u8 202), (13, .int .u8 52), (14, .int .u8 43), (15, .int .u8 46)]).run Try.prog w = .ok (.agg (ba 16 bxA)) w := by
  rw [← blA_ok]; kernel_rfl
def bxB : Bf := btb [3#8, 136#8, 218#8, 206#8, 96#8, 182#8, 163#8, 146#8, 243#8, 40#8, 194#8, 185#8, 113#8, 178#8, 254#8, 120#8]
theorem blB_ok : (#[.int .u8 3, .int .u8 136, .int .u8 218, .int .u8 206, .int .u8 96, .int .u8 182, .int .u8 163, .int .u8 146, .int .u8 243, .int .u8 40, .int .u8 194, .int .u8 185, .int .u8 113, .int .u8 178, .int .u8 254, .int .u8 120] : Array Value) = ba 16 bxB := by unfold ba; kernel_rfl
theorem blB (w : World) : (Instr.build 23 #[(0, .int .u8 3), (1, .int .u8 136), (2, .int .u8 218), (3, .int .u8 206), (4, .int .u8 96), (5, .int .u8 182), (6, .int .u8 163), (7, .int .u8 146), (8, .int .u8 243), (9, .int .u8 40), (10, .int .u8 194), (11, .int .u8 185), (12, .int .u8 113), (13, .int .u8 178), (14, .int .u8 254), (15, .int .u8 120)]).run Try.prog w = .ok (.agg (ba 16 bxB)) w := by
  rw [← blB_ok]; kernel_rfl
def bxC : Bf := btb [94#8, 46#8, 199#8, 70#8, 145#8, 112#8, 98#8, 136#8, 44#8, 133#8, 176#8, 104#8, 83#8, 83#8, 222#8, 183#8]
theorem blC_ok : (#[.int .u8 94, .int .u8 46, .int .u8 199, .int .u8 70, .int .u8 145, .int .u8 112, .int .u8 98, .int .u8 136, .int .u8 44, .int .u8 133, .int .u8 176, .int .u8 104, .int .u8 83, .int .u8 83, .int .u8 222, .int .u8 183] : Array Value) = ba 16 bxC := by unfold ba; kernel_rfl
theorem blC (w : World) : (Instr.build 23 #[(0, .int .u8 94), (1, .int .u8 46), (2, .int .u8 199), (3, .int .u8 70), (4, .int .u8 145), (5, .int .u8 112), (6, .int .u8 98), (7, .int .u8 136), (8, .int .u8 44), (9, .int .u8 133), (10, .int .u8 176), (11, .int .u8 104), (12, .int .u8 83), (13, .int .u8 83), (14, .int .u8 222), (15, .int .u8 183)]).run Try.prog w = .ok (.agg (ba 16 bxC)) w := by
  rw [← blC_ok]; kernel_rfl
def bxF : Bf := btb [5#8, 0#8, 0#8, 0#8, 0#8, 0#8, 0#8, 0#8, 0#8, 0#8, 0#8, 7#8, 255#8, 255#8, 255#8, 255#8]
theorem blF_ok : (#[.int .u8 5, .int .u8 0, .int .u8 0, .int .u8 0, .int .u8 0, .int .u8 0, .int .u8 0, .int .u8 0, .int .u8 0, .int .u8 0, .int .u8 0, .int .u8 7, .int .u8 255, .int .u8 255, .int .u8 255, .int .u8 255] : Array Value) = ba 16 bxF := by unfold ba; kernel_rfl
theorem blF (w : World) : (Instr.build 23 #[(0, .int .u8 5), (1, .int .u8 0), (2, .int .u8 0), (3, .int .u8 0), (4, .int .u8 0), (5, .int .u8 0), (6, .int .u8 0), (7, .int .u8 0), (8, .int .u8 0), (9, .int .u8 0), (10, .int .u8 0), (11, .int .u8 7), (12, .int .u8 255), (13, .int .u8 255), (14, .int .u8 255), (15, .int .u8 255)]).run Try.prog w = .ok (.agg (ba 16 bxF)) w := by
  rw [← blF_ok]; kernel_rfl
def bxN : Bf := btb [5#8, 0#8, 0#8, 0#8, 0#8, 0#8, 0#8, 0#8, 0#8, 0#8, 0#8, 7#8, 0#8, 0#8, 0#8, 0#8]
theorem blN_ok : (#[.int .u8 5, .int .u8 0, .int .u8 0, .int .u8 0, .int .u8 0, .int .u8 0, .int .u8 0, .int .u8 0, .int .u8 0, .int .u8 0, .int .u8 0, .int .u8 7, .int .u8 0, .int .u8 0, .int .u8 0, .int .u8 0] : Array Value) = ba 16 bxN := by unfold ba; kernel_rfl
theorem blN (w : World) : (Instr.build 23 #[(0, .int .u8 5), (1, .int .u8 0), (2, .int .u8 0), (3, .int .u8 0), (4, .int .u8 0), (5, .int .u8 0), (6, .int .u8 0), (7, .int .u8 0), (8, .int .u8 0), (9, .int .u8 0), (10, .int .u8 0), (11, .int .u8 7)]).run Try.prog w = .ok (.agg (ba 16 bxN)) w := by
  rw [← blN_ok]; kernel_rfl
theorem bx_mul : eqB 16 (gmF bxA bxB) bxC = true := by decide +kernel
theorem bx_next : eqB 16 (nextF bxF) bxN = true := by decide +kernel

set_option maxRecDepth 20000 in
set_option maxHeartbeats 4000000 in
theorem shown_any (w : World) :
    Calls Try.prog 10 #[] w fun e w' => e = .returned (.bool true) ∧ Below w.heap.size w w' := by
  obtain ⟨M, hM⟩ : ∃ M, M = gmF bxA bxB := ⟨_, rfl⟩
  obtain ⟨X, hX⟩ : ∃ X, X = nextF bxF := ⟨_, rfl⟩
  have cM := bmul_any bxA bxB
  have cX := bnext_any bxF
  have h1 := bx_mul
  have h2 := bx_next
  have h3 : eqB 16 (fun _ => 0#8) (fun _ => 0#8) = true := eqB_refl _ _
  have cH : ∀ w : World, Calls Try.prog 15 #[.agg (ba 16 bxA), .slice none 0 0] w fun e w' => e = .returned (.agg (ba 16 fun _ => 0#8)) ∧ Below w.heap.size w w' := fun w => bhash_any bxA nF 0 0 none w (Sl.nothing _ _ _ _ _)
  rw [← hM] at cM h1
  rw [← hX] at cX h2
  clear hM hX
  revert cM cX cH h1 h2
  generalize hA : bxA = a
  generalize hB : bxB = b
  generalize hC : bxC = c
  generalize hF : bxF = f
  generalize hN : bxN = n
  intro cM cX h1 h2 cH
  have bA := blA
  have bB := blB
  have bC := blC
  have bF := blF
  have bN := blN
  rw [hA] at bA
  rw [hB] at bB
  rw [hC] at bC
  rw [hF] at bF
  rw [hN] at bN
  clear hA hB hC hF hN
  have HcM := Lib.hid cM
  have HcX := Lib.hid cX
  have HcH := Lib.hid cH
  have HA := Lib.hid bA
  have HB := Lib.hid bB
  have HC := Lib.hid bC
  have HF := Lib.hid bF
  have HN := Lib.hid bN
  clear cM cX cH bA bB bC bF bN
  have B5 := Lib.hid ((((((Below.refl w.heap.size w).alloc (by simp) (.cells (ba 16 a) 23)).alloc (by simp) (.cells (ba 16 b) 23)).alloc (by simp; omega) (.cells (ba 16 c) 23)).alloc (by simp; omega) (.cells (ba 16 f) 23)).alloc (by simp; omega) (.cells (ba 16 n) 23))
  have q0 : row (((((w.alloc (.cells (ba 16 a) 23)).alloc (.cells (ba 16 b) 23)).alloc (.cells (ba 16 c) 23)).alloc (.cells (ba 16 f) 23)).alloc (.cells (ba 16 n) 23)) w.heap.size = some (ba 16 a) := by simp [go_sem]
  have q1 : row (((((w.alloc (.cells (ba 16 a) 23)).alloc (.cells (ba 16 b) 23)).alloc (.cells (ba 16 c) 23)).alloc (.cells (ba 16 f) 23)).alloc (.cells (ba 16 n) 23)) (w.heap.size + 1) = some (ba 16 b) := by simp [go_sem]
  have q2 : row (((((w.alloc (.cells (ba 16 a) 23)).alloc (.cells (ba 16 b) 23)).alloc (.cells (ba 16 c) 23)).alloc (.cells (ba 16 f) 23)).alloc (.cells (ba 16 n) 23)) (w.heap.size + 1 + 1) = some (ba 16 c) := by simp [go_sem]
  have q3 : row (((((w.alloc (.cells (ba 16 a) 23)).alloc (.cells (ba 16 b) 23)).alloc (.cells (ba 16 c) 23)).alloc (.cells (ba 16 f) 23)).alloc (.cells (ba 16 n) 23)) (w.heap.size + 1 + 1 + 1) = some (ba 16 f) := by simp [go_sem]
  have q4 : row (((((w.alloc (.cells (ba 16 a) 23)).alloc (.cells (ba 16 b) 23)).alloc (.cells (ba 16 c) 23)).alloc (.cells (ba 16 f) 23)).alloc (.cells (ba 16 n) 23)) (w.heap.size + 1 + 1 + 1 + 1) = some (ba 16 n) := by simp [go_sem]
  have Q0 := After.row q0
  have Q1 := After.row q1
  have Q2 := After.row q2
  have Q3 := After.row q3
  have Q4 := After.row q4
  clear q0 q1 q2 q3 q4
  go_enter Try.func10, Try.ntmps10
  go_wp2_with (first | (refine wpl_build rfl 23 #[(0, .const (.int .u8 102)), (1, .const (.int .u8 233)), (2, .const (.int .u8 75)), (3, .const (.int .u8 212)), (4, .const (.int .u8 239)), (5, .const (.int .u8 138)), (6, .const (.int .u8 44)), (7, .const (.int .u8 59)), (8, .const (.int .u8 136)), (9, .const (.int .u8 76)), (10, .const (.int .u8 250)), (11, .const (.int .u8 89)), (12, .const (.int .u8 202)), (13, .const (.int .u8 52)), (14, .const (.int .u8 43)), (15, .const (.int .u8 46))] rfl _ _ HA.out (by kernel_rfl) ?_) | (refine wpl_build rfl 23 #[(0, .const (.int .u8 3)), (1, .const (.int .u8 136)), (2, .const (.int .u8 218)), (3, .const (.int .u8 206)), (4, .const (.int .u8 96)), (5, .const (.int .u8 182)), (6, .const (.int .u8 163)), (7, .const (.int .u8 146)), (8, .const (.int .u8 243)), (9, .const (.int .u8 40)), (10, .const (.int .u8 194)), (11, .const (.int .u8 185)), (12, .const (.int .u8 113)), (13, .const (.int .u8 178)), (14, .const (.int .u8 254)), (15, .const (.int .u8 120))] rfl _ _ HB.out (by kernel_rfl) ?_) | (refine wpl_build rfl 23 #[(0, .const (.int .u8 94)), (1, .const (.int .u8 46)), (2, .const (.int .u8 199)), (3, .const (.int .u8 70)), (4, .const (.int .u8 145)), (5, .const (.int .u8 112)), (6, .const (.int .u8 98)), (7, .const (.int .u8 136)), (8, .const (.int .u8 44)), (9, .const (.int .u8 133)), (10, .const (.int .u8 176)), (11, .const (.int .u8 104)), (12, .const (.int .u8 83)), (13, .const (.int .u8 83)), (14, .const (.int .u8 222)), (15, .const (.int .u8 183))] rfl _ _ HC.out (by kernel_rfl) ?_) | (refine wpl_build rfl 23 #[(0, .const (.int .u8 5)), (1, .const (.int .u8 0)), (2, .const (.int .u8 0)), (3, .const (.int .u8 0)), (4, .const (.int .u8 0)), (5, .const (.int .u8 0)), (6, .const (.int .u8 0)), (7, .const (.int .u8 0)), (8, .const (.int .u8 0)), (9, .const (.int .u8 0)), (10, .const (.int .u8 0)), (11, .const (.int .u8 7)), (12, .const (.int .u8 255)), (13, .const (.int .u8 255)), (14, .const (.int .u8 255)), (15, .const (.int .u8 255))] rfl _ _ HF.out (by kernel_rfl) ?_) | (refine wpl_build rfl 23 #[(0, .const (.int .u8 5)), (1, .const (.int .u8 0)), (2, .const (.int .u8 0)), (3, .const (.int .u8 0)), (4, .const (.int .u8 0)), (5, .const (.int .u8 0)), (6, .const (.int .u8 0)), (7, .const (.int .u8 0)), (8, .const (.int .u8 0)), (9, .const (.int .u8 0)), (10, .const (.int .u8 0)), (11, .const (.int .u8 7))] rfl _ _ HN.out (by kernel_rfl) ?_))

  refine seen_region (by kernel_rfl) (by kernel_rfl) ?_
  repeat (first | rw [h1] | rw [h2] | rw [h3] | go_big_quiet_step ((first | (go_at_call 11; refine After.call _ (HcM.out _)) | (go_at_call 17; refine After.call _ (HcX.out _)) | (go_at_call 15; refine After.call _ (HcH.out _)))))
  refine wpQuiet_nil ?_
  rintro _ ⟨x, rfl⟩
  have hfin := Lib.hid (onto B5.out (by simp; omega) x.below)
  clear Q0 Q1 Q2 Q3 Q4
  go_wp2
  go_ret
  exact ⟨rfl, hfin.out⟩
end Go.Proofs.Ytaphjehcaabolaa.Oct
