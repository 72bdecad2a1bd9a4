/- The law's shown. -/
import Derived.Test.YthokiohdeclmhaaSsS
namespace Go.Proofs.Ythokiohdeclmhaa.Oct
open Go.ChangeShapes Go.WideShapes Go.ChangeAt Go.RowKit Go.Maps
set_option linter.unusedVariables false

theorem rp_b7 (w : World) : (Instr.build 31 #[(1, .int .i64 7)]).run Try.prog w = .ok (repV 0 7 0 (.slice none 0 0)) w := by kernel_rfl
def x15 : Se := ⟨1, 5, 0, 7, 0, 0, fun _ => 0#8⟩
set_option maxRecDepth 20000 in
set_option maxHeartbeats 8000000 in
theorem shown15_any (w : World) : Calls Try.prog 8 #[] w fun e w' => e = .returned (.bool true) ∧ Below w.heap.size w w' := by
  have s0 := Stb.triv
  have H0 := Lib.hid (ps_new w)
  have bd := rp_b7
  go_enter Try.func8, Try.ntmps8
  go_wp2_with fail
  refine H0.out.mono ?_
  rintro e w1 ⟨B, rfl, h⟩
  have P1 := Lib.hid h
  clear h H0
  go_wp2_with fail
  refine (ps_open P1.out s0).mono ?_
  rintro e w2 ⟨rfl, h⟩
  have P2 := Lib.hid (show PS (fun _ _ => True) w w2 B [.new 1] 1 from h)
  have e0 : opN [] 0 = 1 := rfl
  have e1 : opE [] 0 = 0 := rfl
  rw [e0, e1]
  clear h e0 e1 P1
  go_wp2_with fail
  refine (ps_ask P2.out s0 1 5 (by unfold i64B; omega)).mono ?_
  rintro e w3 ⟨A3, c3, rfl, -, -, h, -⟩
  have e0 : akS [.new 1] 1 5 = Se.new 0 := rfl
  have e1 : akB [.new 1] 1 5 = false := rfl
  have e2 : akE [.new 1] 1 5 = 0 := rfl
  have e3 : repV (Se.new 0).c (Se.new 0).n (Se.new 0).m (.slice A3 (Se.new 0).T c3) = repV 0 0 0 (.slice A3 0 c3) := rfl
  rw [e0, e1, e2, e3]
  have P3 := Lib.hid (h.calm s0 ((Below.refl _ _).alloc (Nat.le_refl _) (.cells #[.int .i64 0, .int .i64 0, .int .i64 0, .slice A3 0 c3] 31)))
  clear h e0 e1 e2 e3 P2
  go_wp2_with fail
  refine (ps_done x15 (P3.out.nobytes (fun _ => 0#8)) s0 (by unfold i64B x15; simp only; omega) (Nat.zero_le _)).mono ?_
  rintro e w4 ⟨rfl, h⟩
  have P4 := Lib.hid (show PS (fun _ _ => True) w w4 B [x15] 1 from h.mono fun _ k => k.1)
  have e0 : dnE [Se.new 1] x15.id x15.q = 0 := rfl
  rw [e0]
  clear h e0 P3
  go_wp2_with fail
  refine (ps_ask P4.out s0 1 5 (by unfold i64B; omega)).mono ?_
  rintro e w5 ⟨A5, c5, rfl, -, -, h, -⟩
  have e0 : akS [x15] 1 5 = x15 := rfl
  have e1 : akB [x15] 1 5 = true := rfl
  have e2 : akE [x15] 1 5 = 0 := rfl
  have e3 : repV (x15).c (x15).n (x15).m (.slice A5 (x15).T c5) = repV 0 7 0 (.slice A5 0 c5) := rfl
  rw [e0, e1, e2, e3]
  have P5 := Lib.hid (show PS (fun T y => True ∧ Oct.row y w5.heap.size = some #[.int .i64 0, .int .i64 7, .int .i64 0, .slice A5 0 c5] ∧ T w5.heap.size = 50) w (w5.alloc (.cells #[.int .i64 0, .int .i64 7, .int .i64 0, .slice A5 0 c5] 31)) B [x15] 1 from h.add s0 ((Below.refl _ _).alloc (Nat.le_refl _) _) 50 (Nat.le_refl _) fun T => ⟨row_alloc_at _ _ _ _ rfl, paint_new (Nat.le_refl _)⟩)
  have s1 := Stb.and Stb.triv (Stb.row 50 w5.heap.size #[.int .i64 0, .int .i64 7, .int .i64 0, .slice A5 0 c5] (Nat.le_refl _))
  clear h e0 e1 e2 e3 P4
  go_wp2_with fail
  refine (ps_ask P5.out s1 1 4 (by unfold i64B; omega)).mono ?_
  rintro e w6 ⟨A6, c6, rfl, -, -, h, -⟩
  have e0 : akS [x15] 1 4 = Se.new 0 := rfl
  have e1 : akB [x15] 1 4 = false := rfl
  have e2 : akE [x15] 1 4 = 151 := rfl
  have e3 : repV (Se.new 0).c (Se.new 0).n (Se.new 0).m (.slice A6 (Se.new 0).T c6) = repV 0 0 0 (.slice A6 0 c6) := rfl
  rw [e0, e1, e2, e3]
  have P6 := Lib.hid (h.calm s1 ((Below.refl _ _).alloc (Nat.le_refl _) (.cells #[.int .i64 0, .int .i64 0, .int .i64 0, .slice A6 0 c6] 31)))
  clear h e0 e1 e2 e3 P5
  go_wp2_with fail
  refine (ps_ask P6.out s1 1 6 (by unfold i64B; omega)).mono ?_
  rintro e w7 ⟨A7, c7, rfl, -, -, h, -⟩
  have e0 : akS [x15] 1 6 = Se.new 0 := rfl
  have e1 : akB [x15] 1 6 = false := rfl
  have e2 : akE [x15] 1 6 = 0 := rfl
  have e3 : repV (Se.new 0).c (Se.new 0).n (Se.new 0).m (.slice A7 (Se.new 0).T c7) = repV 0 0 0 (.slice A7 0 c7) := rfl
  rw [e0, e1, e2, e3]
  have P7 := Lib.hid (h.calm s1 ((Below.refl _ _).alloc (Nat.le_refl _) (.cells #[.int .i64 0, .int .i64 0, .int .i64 0, .slice A7 0 c7] 31)))
  clear h e0 e1 e2 e3 P6
  go_wp2_with fail
  refine (ps_exp P7.out s1 1 (by unfold i64B; omega)).mono ?_
  rintro e w8 ⟨rfl, h⟩
  have P8 := Lib.hid (show PS (fun T y => True ∧ Oct.row y w5.heap.size = some #[.int .i64 0, .int .i64 7, .int .i64 0, .slice A5 0 c5] ∧ T w5.heap.size = 50) w w8 B [] 1 from h)
  have e0 : exE [x15] 1 = 0 := rfl
  rw [e0]
  clear h e0 P7
  go_wp2_with fail
  refine (ps_ask P8.out s1 1 5 (by unfold i64B; omega)).mono ?_
  rintro e w9 ⟨A9, c9, rfl, -, -, h, -⟩
  have e0 : akS [] 1 5 = Se.new 0 := rfl
  have e1 : akB [] 1 5 = false := rfl
  have e2 : akE [] 1 5 = 150 := rfl
  have e3 : repV (Se.new 0).c (Se.new 0).n (Se.new 0).m (.slice A9 (Se.new 0).T c9) = repV 0 0 0 (.slice A9 0 c9) := rfl
  rw [e0, e1, e2, e3]
  have P9 := Lib.hid (h.calm s1 ((Below.refl _ _).alloc (Nat.le_refl _) (.cells #[.int .i64 0, .int .i64 0, .int .i64 0, .slice A9 0 c9] 31)))
  clear h e0 e1 e2 e3 P8
  go_wp2_with fail
  refine (ps_open P9.out s1).mono ?_
  rintro e w10 ⟨rfl, h⟩
  have P10 := Lib.hid (show PS (fun T y => True ∧ Oct.row y w5.heap.size = some #[.int .i64 0, .int .i64 7, .int .i64 0, .slice A5 0 c5] ∧ T w5.heap.size = 50) w w10 B [.new 2] 2 from h)
  have e0 : opN [] 1 = 2 := rfl
  have e1 : opE [] 1 = 0 := rfl
  rw [e0, e1]
  clear h e0 e1 P9
  obtain ⟨T, -, hr, -⟩ := P10.out.fact
  obtain ⟨-, a1, -, -⟩ := cells4 hr
  clear hr
  go_wp2_with fail
  go_ret
  exact ⟨rfl, P10.out.bel⟩
end Go.Proofs.Ythokiohdeclmhaa.Oct
