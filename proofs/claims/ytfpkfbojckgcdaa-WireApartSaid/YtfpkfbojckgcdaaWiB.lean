/- wire's Check: contracts of fits, Check. -/
import Derived.Test.YtfpkfbojckgcdaaWiA
namespace Go.Proofs.Ytfpkfbojckgcdaa.Oct
open Go.ChangeShapes Go.WideShapes Go.ChangeAt Go.RowKit
set_option linter.unusedVariables false

/-- a command's fields as its cells -/
abbrev comV (k s q i n : Int) (d b : Value) : Value := .agg #[.int .i64 k, .int .i64 s, .int .i64 q, .int .i64 i, .int .i64 n, d, b]
def fitB (h : Nat → Int) (s q i n : Int) (T U : Nat) : Bool := inB (h 0) (h 1) s && (inB (h 2) (h 3) q && (inB (h 4) (h 5) i && (inB (h 6) (h 7) n && (inB (h 8) (h 9) T && inB (h 10) (h 11) U))))
set_option maxHeartbeats 4000000 in
theorem fits_any (h : Nat → Int) (k s q i n : Int) (T U c c' : Nat) (A A' : Option Addr) (w : World) :
    Calls Try.prog 39 #[.agg #[.int .i64 (h 0), .int .i64 (h 1), .int .i64 (h 2), .int .i64 (h 3), .int .i64 (h 4), .int .i64 (h 5), .int .i64 (h 6), .int .i64 (h 7), .int .i64 (h 8), .int .i64 (h 9), .int .i64 (h 10), .int .i64 (h 11)], comV k s q i n (.slice A T c) (.slice A' U c')] w fun e w' => e = .returned (.bool (fitB h s q i n T U)) ∧ Below w.heap.size w w' := by
  obtain ⟨F, hF⟩ : ∃ F, F = fitB h s q i n T U := ⟨_, rfl⟩
  rw [← hF]
  have HF := Lib.hid hF
  clear hF
  have C := has_any
  obtain ⟨h0, e0⟩ : ∃ x, x = h 0 := ⟨_, rfl⟩
  obtain ⟨h1, e1⟩ : ∃ x, x = h 1 := ⟨_, rfl⟩
  obtain ⟨h2, e2⟩ : ∃ x, x = h 2 := ⟨_, rfl⟩
  obtain ⟨h3, e3⟩ : ∃ x, x = h 3 := ⟨_, rfl⟩
  obtain ⟨h4, e4⟩ : ∃ x, x = h 4 := ⟨_, rfl⟩
  obtain ⟨h5, e5⟩ : ∃ x, x = h 5 := ⟨_, rfl⟩
  obtain ⟨h6, e6⟩ : ∃ x, x = h 6 := ⟨_, rfl⟩
  obtain ⟨h7, e7⟩ : ∃ x, x = h 7 := ⟨_, rfl⟩
  obtain ⟨h8, e8⟩ : ∃ x, x = h 8 := ⟨_, rfl⟩
  obtain ⟨h9, e9⟩ : ∃ x, x = h 9 := ⟨_, rfl⟩
  obtain ⟨h10, e10⟩ : ∃ x, x = h 10 := ⟨_, rfl⟩
  obtain ⟨h11, e11⟩ : ∃ x, x = h 11 := ⟨_, rfl⟩
  rw [← e0, ← e1, ← e2, ← e3, ← e4, ← e5, ← e6, ← e7, ← e8, ← e9, ← e10, ← e11]
  unfold fitB at HF
  rw [← e0, ← e1, ← e2, ← e3, ← e4, ← e5, ← e6, ← e7, ← e8, ← e9, ← e10, ← e11] at HF
  clear e0 e1 e2 e3 e4 e5 e6 e7 e8 e9 e10 e11 h
  obtain ⟨w0, hw0⟩ : ∃ w0, w0 = (w.alloc (.cells #[.int .i64 h0, .int .i64 h1, .int .i64 h2, .int .i64 h3, .int .i64 h4, .int .i64 h5, .int .i64 h6, .int .i64 h7, .int .i64 h8, .int .i64 h9, .int .i64 h10, .int .i64 h11] 72)).alloc (.cells #[.int .i64 k, .int .i64 s, .int .i64 q, .int .i64 i, .int .i64 n, .slice A T c, .slice A' U c'] 24) := ⟨_, rfl⟩
  have B0 := Lib.hid (show Below w.heap.size w w0 by rw [hw0]; exact ((Below.refl _ _).alloc (by simp) _).alloc (by simp) _)
  have R0 := Lib.hid (show row w0 w.heap.size = some #[.int .i64 h0, .int .i64 h1, .int .i64 h2, .int .i64 h3, .int .i64 h4, .int .i64 h5, .int .i64 h6, .int .i64 h7, .int .i64 h8, .int .i64 h9, .int .i64 h10, .int .i64 h11] by rw [hw0]; exact row_alloc (row_alloc_at _ _ _ _ rfl) _)
  have R1 := Lib.hid (show row w0 (w.heap.size + 1) = some #[.int .i64 k, .int .i64 s, .int .i64 q, .int .i64 i, .int .i64 n, .slice A T c, .slice A' U c'] by rw [hw0]; exact row_alloc_at _ _ _ _ (by simp))
  have F0 := Lib.hid (fun (a b x : Int) => C a b x w0)
  go_enter Try.func39, Try.ntmps39
  go_wp2_with fail
  rw [← hw0]
  clear hw0 C F0
  refine (has_any h0 h1 s _).mono ?_
  rintro e w1 ⟨rfl, hb⟩
  have B1 := Lib.hid (onto B0.out B0.out.size hb)
  have P1 := Lib.hid (carry hb R0.out)
  have Q1 := Lib.hid (carry hb R1.out)
  clear hb B0
  clear R0 R1
  obtain ⟨b0, hb0⟩ : ∃ x, x = inB h0 h1 s := ⟨_, rfl⟩
  rw [← hb0]
  have HB0 := Lib.hid hb0
  clear hb0
  cases b0 with
  | false =>
    have E := Lib.hid (show F = false by rw [HF.out, ← HB0.out]; rfl)
    go_wp2_with fail
    go_ret
    exact ⟨by rw [E.out]; rfl, B1.out⟩
  | true =>
  have c0 := cell_row P1.out 2
  have c1 := cell_row P1.out 3
  have c2 := cell_row Q1.out 2
  rw [show (#[.int .i64 h0, .int .i64 h1, .int .i64 h2, .int .i64 h3, .int .i64 h4, .int .i64 h5, .int .i64 h6, .int .i64 h7, .int .i64 h8, .int .i64 h9, .int .i64 h10, .int .i64 h11] : Array Value)[2]? = some (.int .i64 h2) from rfl] at c0
  rw [show (#[.int .i64 h0, .int .i64 h1, .int .i64 h2, .int .i64 h3, .int .i64 h4, .int .i64 h5, .int .i64 h6, .int .i64 h7, .int .i64 h8, .int .i64 h9, .int .i64 h10, .int .i64 h11] : Array Value)[3]? = some (.int .i64 h3) from rfl] at c1
  rw [show (#[.int .i64 k, .int .i64 s, .int .i64 q, .int .i64 i, .int .i64 n, .slice A T c, .slice A' U c'] : Array Value)[2]? = some (.int .i64 q) from rfl] at c2
  go_wp2_with fail
  clear c0 c1 c2
  refine (has_any h2 h3 q _).mono ?_
  rintro e w2 ⟨rfl, hb⟩
  have B2 := Lib.hid (onto B1.out B1.out.size hb)
  have P2 := Lib.hid (carry hb P1.out)
  have Q2 := Lib.hid (carry hb Q1.out)
  clear hb B1
  clear P1 Q1
  obtain ⟨b1, hb1⟩ : ∃ x, x = inB h2 h3 q := ⟨_, rfl⟩
  rw [← hb1]
  have HB1 := Lib.hid hb1
  clear hb1
  cases b1 with
  | false =>
    have E := Lib.hid (show F = false by rw [HF.out, ← HB0.out, ← HB1.out]; rfl)
    go_wp2_with fail
    go_ret
    exact ⟨by rw [E.out]; rfl, B2.out⟩
  | true =>
  have c0 := cell_row P2.out 4
  have c1 := cell_row P2.out 5
  have c2 := cell_row Q2.out 3
  rw [show (#[.int .i64 h0, .int .i64 h1, .int .i64 h2, .int .i64 h3, .int .i64 h4, .int .i64 h5, .int .i64 h6, .int .i64 h7, .int .i64 h8, .int .i64 h9, .int .i64 h10, .int .i64 h11] : Array Value)[4]? = some (.int .i64 h4) from rfl] at c0
  rw [show (#[.int .i64 h0, .int .i64 h1, .int .i64 h2, .int .i64 h3, .int .i64 h4, .int .i64 h5, .int .i64 h6, .int .i64 h7, .int .i64 h8, .int .i64 h9, .int .i64 h10, .int .i64 h11] : Array Value)[5]? = some (.int .i64 h5) from rfl] at c1
  rw [show (#[.int .i64 k, .int .i64 s, .int .i64 q, .int .i64 i, .int .i64 n, .slice A T c, .slice A' U c'] : Array Value)[3]? = some (.int .i64 i) from rfl] at c2
  go_wp2_with fail
  clear c0 c1 c2
  refine (has_any h4 h5 i _).mono ?_
  rintro e w3 ⟨rfl, hb⟩
  have B3 := Lib.hid (onto B2.out B2.out.size hb)
  have P3 := Lib.hid (carry hb P2.out)
  have Q3 := Lib.hid (carry hb Q2.out)
  clear hb B2
  clear P2 Q2
  obtain ⟨b2, hb2⟩ : ∃ x, x = inB h4 h5 i := ⟨_, rfl⟩
  rw [← hb2]
  have HB2 := Lib.hid hb2
  clear hb2
  cases b2 with
  | false =>
    have E := Lib.hid (show F = false by rw [HF.out, ← HB0.out, ← HB1.out, ← HB2.out]; rfl)
    go_wp2_with fail
    go_ret
    exact ⟨by rw [E.out]; rfl, B3.out⟩
  | true =>
  have c0 := cell_row P3.out 6
  have c1 := cell_row P3.out 7
  have c2 := cell_row Q3.out 4
  rw [show (#[.int .i64 h0, .int .i64 h1, .int .i64 h2, .int .i64 h3, .int .i64 h4, .int .i64 h5, .int .i64 h6, .int .i64 h7, .int .i64 h8, .int .i64 h9, .int .i64 h10, .int .i64 h11] : Array Value)[6]? = some (.int .i64 h6) from rfl] at c0
  rw [show (#[.int .i64 h0, .int .i64 h1, .int .i64 h2, .int .i64 h3, .int .i64 h4, .int .i64 h5, .int .i64 h6, .int .i64 h7, .int .i64 h8, .int .i64 h9, .int .i64 h10, .int .i64 h11] : Array Value)[7]? = some (.int .i64 h7) from rfl] at c1
  rw [show (#[.int .i64 k, .int .i64 s, .int .i64 q, .int .i64 i, .int .i64 n, .slice A T c, .slice A' U c'] : Array Value)[4]? = some (.int .i64 n) from rfl] at c2
  go_wp2_with fail
  clear c0 c1 c2
  refine (has_any h6 h7 n _).mono ?_
  rintro e w4 ⟨rfl, hb⟩
  have B4 := Lib.hid (onto B3.out B3.out.size hb)
  have P4 := Lib.hid (carry hb P3.out)
  have Q4 := Lib.hid (carry hb Q3.out)
  clear hb B3
  clear P3 Q3
  obtain ⟨b3, hb3⟩ : ∃ x, x = inB h6 h7 n := ⟨_, rfl⟩
  rw [← hb3]
  have HB3 := Lib.hid hb3
  clear hb3
  cases b3 with
  | false =>
    have E := Lib.hid (show F = false by rw [HF.out, ← HB0.out, ← HB1.out, ← HB2.out, ← HB3.out]; rfl)
    go_wp2_with fail
    go_ret
    exact ⟨by rw [E.out]; rfl, B4.out⟩
  | true =>
  have c0 := cell_row P4.out 8
  have c1 := cell_row P4.out 9
  have c2 := cell_row Q4.out 5
  rw [show (#[.int .i64 h0, .int .i64 h1, .int .i64 h2, .int .i64 h3, .int .i64 h4, .int .i64 h5, .int .i64 h6, .int .i64 h7, .int .i64 h8, .int .i64 h9, .int .i64 h10, .int .i64 h11] : Array Value)[8]? = some (.int .i64 h8) from rfl] at c0
  rw [show (#[.int .i64 h0, .int .i64 h1, .int .i64 h2, .int .i64 h3, .int .i64 h4, .int .i64 h5, .int .i64 h6, .int .i64 h7, .int .i64 h8, .int .i64 h9, .int .i64 h10, .int .i64 h11] : Array Value)[9]? = some (.int .i64 h9) from rfl] at c1
  rw [show (#[.int .i64 k, .int .i64 s, .int .i64 q, .int .i64 i, .int .i64 n, .slice A T c, .slice A' U c'] : Array Value)[5]? = some (.slice A T c) from rfl] at c2
  go_wp2_with fail
  clear c0 c1 c2
  refine (has_any h8 h9 (T : Int) _).mono ?_
  rintro e w5 ⟨rfl, hb⟩
  have B5 := Lib.hid (onto B4.out B4.out.size hb)
  have P5 := Lib.hid (carry hb P4.out)
  have Q5 := Lib.hid (carry hb Q4.out)
  clear hb B4
  clear P4 Q4
  obtain ⟨b4, hb4⟩ : ∃ x, x = inB h8 h9 (T : Int) := ⟨_, rfl⟩
  rw [← hb4]
  have HB4 := Lib.hid hb4
  clear hb4
  cases b4 with
  | false =>
    have E := Lib.hid (show F = false by rw [HF.out, ← HB0.out, ← HB1.out, ← HB2.out, ← HB3.out, ← HB4.out]; rfl)
    go_wp2_with fail
    go_ret
    exact ⟨by rw [E.out]; rfl, B5.out⟩
  | true =>
  have c0 := cell_row P5.out 10
  have c1 := cell_row P5.out 11
  have c2 := cell_row Q5.out 6
  rw [show (#[.int .i64 h0, .int .i64 h1, .int .i64 h2, .int .i64 h3, .int .i64 h4, .int .i64 h5, .int .i64 h6, .int .i64 h7, .int .i64 h8, .int .i64 h9, .int .i64 h10, .int .i64 h11] : Array Value)[10]? = some (.int .i64 h10) from rfl] at c0
  rw [show (#[.int .i64 h0, .int .i64 h1, .int .i64 h2, .int .i64 h3, .int .i64 h4, .int .i64 h5, .int .i64 h6, .int .i64 h7, .int .i64 h8, .int .i64 h9, .int .i64 h10, .int .i64 h11] : Array Value)[11]? = some (.int .i64 h11) from rfl] at c1
  rw [show (#[.int .i64 k, .int .i64 s, .int .i64 q, .int .i64 i, .int .i64 n, .slice A T c, .slice A' U c'] : Array Value)[6]? = some (.slice A' U c') from rfl] at c2
  go_wp2_with fail
  clear c0 c1 c2
  refine (has_any h10 h11 (U : Int) _).mono ?_
  rintro e w6 ⟨rfl, hb⟩
  have B6 := Lib.hid (onto B5.out B5.out.size hb)
  clear hb B5
  obtain ⟨b5, hb5⟩ : ∃ x, x = inB h10 h11 (U : Int) := ⟨_, rfl⟩
  rw [← hb5]
  have HB5 := Lib.hid hb5
  clear hb5
  have E := Lib.hid (show F = b5 by rw [HF.out, ← HB0.out, ← HB1.out, ← HB2.out, ← HB3.out, ← HB4.out, ← HB5.out]; cases b5 <;> rfl)
  go_wp2_with fail
  go_ret
  exact ⟨by rw [E.out]; rfl, B6.out⟩

theorem cells7 {w : World} {B : Nat} {a b c d e f g : Value} (h : row w B = some #[a, b, c, d, e, f, g]) : w.cell? ⟨B, 0, none⟩ = some a ∧ w.cell? ⟨B, 1, none⟩ = some b ∧ w.cell? ⟨B, 2, none⟩ = some c ∧ w.cell? ⟨B, 3, none⟩ = some d ∧ w.cell? ⟨B, 4, none⟩ = some e ∧ w.cell? ⟨B, 5, none⟩ = some f ∧ w.cell? ⟨B, 6, none⟩ = some g :=
  ⟨cell_row h 0, cell_row h 1, cell_row h 2, cell_row h 3, cell_row h 4, cell_row h 5, cell_row h 6⟩
def chkB (k s q i n : Int) (T U : Nat) : Bool := kiB k && fitB (sh k) s q i n T U
/-- the error of a command's check -/
def chkE (k s q i n : Int) (T U : Nat) : Nat := if chkB k s q i n T U then 0 else 1
set_option maxHeartbeats 4000000 in
theorem check_any (k s q i n : Int) (T U c c' : Nat) (A A' : Option Addr) (w : World) :
    Calls Try.prog 16 #[comV k s q i n (.slice A T c) (.slice A' U c')] w fun e w' => e = .returned (.int .i64 (chkE k s q i n T U : Nat)) ∧ Below w.heap.size w w' := by
  obtain ⟨E, hE⟩ : ∃ E, E = chkE k s q i n T U := ⟨_, rfl⟩
  rw [← hE]
  have HE := Lib.hid hE
  clear hE
  have B0 := Lib.hid (show Below w.heap.size w (w.alloc (.cells #[.int .i64 k, .int .i64 s, .int .i64 q, .int .i64 i, .int .i64 n, .slice A T c, .slice A' U c'] 24)) from (Below.refl _ _).alloc (by simp) _)
  have R0 := Lib.hid (show row (w.alloc (.cells #[.int .i64 k, .int .i64 s, .int .i64 q, .int .i64 i, .int .i64 n, .slice A T c, .slice A' U c'] 24)) w.heap.size = some #[.int .i64 k, .int .i64 s, .int .i64 q, .int .i64 i, .int .i64 n, .slice A T c, .slice A' U c'] from row_alloc_at _ _ _ _ rfl)
  have hz0 : w.heap.size ≤ (w.alloc (.cells #[.int .i64 k, .int .i64 s, .int .i64 q, .int .i64 i, .int .i64 n, .slice A T c, .slice A' U c'] 24)).heap.size := by simp
  go_enter Try.func16, Try.ntmps16
  go_wp2_with fail
  refine (shape_any k _).mono ?_
  rintro e w1 ⟨rfl, hb⟩
  have B1 := Lib.hid (onto B0.out hz0 hb)
  have R1 := Lib.hid (carry hb R0.out)
  clear hb B0 R0 hz0
  obtain ⟨K, hK⟩ : ∃ K, K = kiB k := ⟨_, rfl⟩
  rw [← hK]
  have HK := Lib.hid hK
  clear hK
  cases K with
  | false =>
    have HE1 := Lib.hid (show E = 1 by rw [HE.out]; unfold chkE chkB; rw [← HK.out]; rfl)
    go_wp2_with fail
    go_ret
    exact ⟨by rw [HE1.out]; rfl, B1.out.alloc (by have := B1.out.size; simp; try omega) _⟩
  | true =>
    obtain ⟨c0, c1, c2, c3, c4, c5, c6⟩ := cells7 R1.out
    have hx := row_lt R1.out
    go_wp2_with fail
    refine (fits_any (sh k) k s q i n T U c c' A A' _).mono ?_
    rintro e w2 ⟨rfl, hb⟩
    have hw1 : w1.heap.size ≤ w2.heap.size := by have := hb.size; simp at this; omega
    have B2 := Lib.hid (onto (B1.out.alloc B1.out.size _) (by have := B1.out.size; simp; omega) hb)
    clear hb c0 c1 c2 c3 c4 c5 c6 hx R1
    obtain ⟨F, hF⟩ : ∃ F, F = fitB (sh k) s q i n T U := ⟨_, rfl⟩
    rw [← hF]
    have HF := Lib.hid hF
    clear hF
    cases F with
    | false =>
      have HE1 := Lib.hid (show E = 1 by rw [HE.out]; unfold chkE chkB; rw [← HK.out, ← HF.out]; rfl)
      go_wp2_with fail
      go_ret
      exact ⟨by rw [HE1.out]; rfl, B2.out⟩
    | true =>
      have HE1 := Lib.hid (show E = 0 by rw [HE.out]; unfold chkE chkB; rw [← HK.out, ← HF.out]; rfl)
      go_wp2_with fail
      go_ret
      exact ⟨by rw [HE1.out]; rfl, B2.out⟩
end Go.Proofs.Ytfpkfbojckgcdaa.Oct
