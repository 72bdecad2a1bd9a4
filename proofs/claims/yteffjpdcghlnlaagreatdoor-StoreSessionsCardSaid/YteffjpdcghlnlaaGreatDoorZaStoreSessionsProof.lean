/- The statement StoreSessions: the law strongroomlaw16.StoreSessions answers true for every input, and leaves its arguments as they were. Condition: the package variables that the row lists read at the call as the text of the program lays them; the card ties that. -/
import Derived.Test.YteffjpdcghlnlaaGreatDoorRows
import Derived.Test.YteffjpdcghlnlaaGreatDoorZaLib
import Derived.Test.YteffjpdcghlnlaaGreatDoorZaStB3
import Derived.Test.YteffjpdcghlnlaaGreatDoorZaTab
import Derived.Test.YteffjpdcghlnlaaGreatDoorCards
import Derived.Test.YteffjpdcghlnlaaGreatDoorTie
import Derived.SevenTiedAt
namespace Go.Proofs.YteffjpdcghlnlaaGreatDoor.storeSessions
open Go.ChangeShapes Go.WideShapes Go.ChangeAt Go.RowKit
open Go.Proofs.YteffjpdcghlnlaaGreatDoor.Oct
set_option linter.unusedVariables false

theorem own : ownKnob Tryz.prog.godebug = none := by kernel_rfl
theorem laidOut : laidOutB Tryz.prog = true := by kernel_rfl

set_option maxRecDepth 20000 in
set_option maxHeartbeats 8000000 in
theorem walk (a0 : Nat → BitVec 8) (n0 c0 : Nat) (A0 : Option Addr) (a1 : Int) (w : World) (hs0 : Sl w w.heap.size A0 n0 c0 a0) (hm0 : c0 ≤ maxLen) (w1 : (Lit.int .i64 a1).wf = true) (htab : Tab w) :
    Calls Tryz.prog 9 #[.slice A0 n0 c0, .int .i64 a1] w fun e w' => e = .returned (.bool true) ∧ Below w.heap.size w w' := by
  have HT := Lib.hid htab
  have HS := Lib.hid hs0
  have hlc := hs0.le
  have HM := Lib.hid hm0
  obtain ⟨b0, b1⟩ := wf_bd w1
  have HB := Lib.hid (And.intro b0 b1)
  obtain ⟨q, hq⟩ : ∃ q, q = a1 := ⟨_, rfl⟩
  rw [← hq] at HB ⊢
  clear hs0 hm0 htab w1 b0 b1 hq
  have bO := co_bO
  go_enter Tryz.func9, Tryz.ntmps9
  go_wp2_with fail
  refine (shown16_any w HT.out).mono ?_
  rintro e w1 ⟨rfl, hb1⟩
  have B1 := Lib.hid hb1
  clear hb1
  go_wp2_with fail
  refine (few16_any A0 n0 c0 hlc HM.out w1).mono ?_
  rintro e w1' ⟨rfl, rfl⟩
  obtain ⟨N, hN⟩ : ∃ N, N = min n0 100 := ⟨_, rfl⟩
  rw [← hN]
  have hN1 : N ≤ 100 := by omega
  have hN2 : N ≤ n0 := by omega
  clear hN
  go_wp2_with fail
  refine (ls_start (t := 5) HT.out B1.out HS.out N hN1 hN2 (by omega)).mono ?_
  rintro e w0 ⟨B, rfl, h⟩
  have Q0 := Lib.hid h
  have X0 := Lib.hid (SxB.new a0 N)
  clear h B1 HS
  by_cases hq : 1 ≤ q ∧ q < 1099511627776
  · obtain ⟨x1, x2, x3, x4, x5, e1, e2, n2, e3, n3, e4, c4, e5, c5, e6, n6, e7, n7, kl⟩ := run_sessions a0 N hq.1 hq.2
    have HR := Lib.hid (And.intro e1 (And.intro e2 (And.intro n2 (And.intro e3 (And.intro n3 (And.intro e4 (And.intro c4 (And.intro e5 (And.intro c5 (And.intro e6 (And.intro n6 (And.intro e7 (And.intro n7 kl)))))))))))))
    clear e1 e2 n2 e3 n3 e4 c4 e5 c5 e6 n6 e7 n7 kl
    have d1 : decide (q < 1) = false := decide_eq_false (by omega)
    have d2 : decide (1099511627776 ≤ q) = false := decide_eq_false (by omega)
    have hwr : IntKind.i64.wrap (q + 1) = q + 1 := IntWalk.i64_in _ (by omega)
    go_wp2_with fail
    refine (ls_apply Q0.out (Stb.triv (S := H2 5)) HT.out (by omega) cmO (fun T k => CmR.nothing T _ _ rfl rfl) (.inl (by omega)) (by have := X0.out.n; omega)).mono ?_
    rintro e w2 ⟨A1, k1, rfl, h, -⟩
    rw [HR.out.1] at h
    have X1 := Lib.hid (show SxB 2 x1 from by have h := X0.out.ap cmO; rw [HR.out.1] at h; exact h)
    have Q1 := Lib.hid (show LS (fun T y => StAt T y 5 B x1 ∧ True) w w2 from h.mono fun T k => ⟨k.1, k.2.1⟩)
    clear h Q0 X0
    have bd := co_bC
    go_wp2_with fail
    refine (ls_apply Q1.out (Stb.triv (S := H2 5)) HT.out (by omega) (cmC 1 q) (fun T k => CmR.nothing T _ _ rfl rfl) (.inl (by omega)) (by have := X1.out.n; omega)).mono ?_
    rintro e w3 ⟨A2, k2, rfl, h, -⟩
    rw [HR.out.2.1] at h
    have X2 := Lib.hid (show SxB 3 x2 from by have h := X1.out.ap (cmC 1 q); rw [HR.out.2.1] at h; exact h)
    have Q2 := Lib.hid (show LS (fun T y => StAt T y 5 B x2 ∧ (True ∧ RpK w3.heap.size (apR x1 (cmC 1 q)) A2 k2 T y)) w (w3.alloc (.cells #[.int .i64 (apR x1 (cmC 1 q)).c, .int .i64 (apR x1 (cmC 1 q)).n, .int .i64 (apR x1 (cmC 1 q)).m, .slice A2 (apR x1 (cmC 1 q)).T k2] 33)) from ls_keep (h.mono fun T k => ⟨k.1, k.2.1, k.2.2⟩) (Stb.calm (Stb.triv (S := H2 5))))
    obtain ⟨v2, hv2⟩ : ∃ v, v = w3.alloc (.cells #[.int .i64 (apR x1 (cmC 1 q)).c, .int .i64 (apR x1 (cmC 1 q)).n, .int .i64 (apR x1 (cmC 1 q)).m, .slice A2 (apR x1 (cmC 1 q)).T k2] 33) := ⟨_, rfl⟩
    rw [← hv2] at Q2
    clear h Q1 X1 bd
    go_upto_region 9 with fail
    rw [← hv2]
    clear hv2
    have bd := co_bC
    go_wp2_with fail
    refine (ls_apply Q2.out (Stb.and (Stb.triv (S := H2 5)) (Stb.rp hS0)) HT.out (by omega) (cmC 1 q) (fun T k => CmR.nothing T _ _ rfl rfl) (.inl (by omega)) (by have := X2.out.n; omega)).mono ?_
    rintro e w4 ⟨A3, k3, rfl, h, -⟩
    rw [HR.out.2.2.2.1] at h
    have X3 := Lib.hid (show SxB 4 x2 from by have h := X2.out.ap (cmC 1 q); rw [HR.out.2.2.2.1] at h; exact h)
    have Q3 := Lib.hid (show LS (fun T y => StAt T y 5 B x2 ∧ ((True ∧ RpK w3.heap.size (apR x1 (cmC 1 q)) A2 k2 T y) ∧ RpK w4.heap.size (apR x2 (cmC 1 q)) A3 k3 T y)) w (w4.alloc (.cells #[.int .i64 (apR x2 (cmC 1 q)).c, .int .i64 (apR x2 (cmC 1 q)).n, .int .i64 (apR x2 (cmC 1 q)).m, .slice A3 (apR x2 (cmC 1 q)).T k3] 33)) from ls_keep (h.mono fun T k => ⟨k.1, k.2.1, k.2.2⟩) (Stb.calm (Stb.and (Stb.triv (S := H2 5)) (Stb.rp hS0))))
    obtain ⟨v3, hv3⟩ : ∃ v, v = w4.alloc (.cells #[.int .i64 (apR x2 (cmC 1 q)).c, .int .i64 (apR x2 (cmC 1 q)).n, .int .i64 (apR x2 (cmC 1 q)).m, .slice A3 (apR x2 (cmC 1 q)).T k3] 33) := ⟨_, rfl⟩
    rw [← hv3] at Q3
    clear h Q2 X2 bd
    go_upto_region 10 with fail
    rw [← hv3]
    clear hv3
    have bd := co_bX
    go_wp2_with fail
    refine (ls_apply Q3.out (Stb.and (Stb.and (Stb.triv (S := H2 5)) (Stb.rp hS0)) (Stb.rp hS0)) HT.out (by omega) (cmX 1) (fun T k => CmR.nothing T _ _ rfl rfl) (.inl (by omega)) (by have := X3.out.n; omega)).mono ?_
    rintro e w5 ⟨A4, k4, rfl, h, -⟩
    rw [HR.out.2.2.2.2.2.1] at h
    have X4 := Lib.hid (show SxB 5 x3 from by have h := X3.out.ap (cmX 1); rw [HR.out.2.2.2.2.2.1] at h; exact h)
    have Q4 := Lib.hid (show LS (fun T y => StAt T y 5 B x3 ∧ (((True ∧ RpK w3.heap.size (apR x1 (cmC 1 q)) A2 k2 T y) ∧ RpK w4.heap.size (apR x2 (cmC 1 q)) A3 k3 T y) ∧ RpK w5.heap.size (apR x2 (cmX 1)) A4 k4 T y)) w (w5.alloc (.cells #[.int .i64 (apR x2 (cmX 1)).c, .int .i64 (apR x2 (cmX 1)).n, .int .i64 (apR x2 (cmX 1)).m, .slice A4 (apR x2 (cmX 1)).T k4] 33)) from ls_keep (h.mono fun T k => ⟨k.1, k.2.1, k.2.2⟩) (Stb.calm (Stb.and (Stb.and (Stb.triv (S := H2 5)) (Stb.rp hS0)) (Stb.rp hS0))))
    obtain ⟨v4, hv4⟩ : ∃ v, v = w5.alloc (.cells #[.int .i64 (apR x2 (cmX 1)).c, .int .i64 (apR x2 (cmX 1)).n, .int .i64 (apR x2 (cmX 1)).m, .slice A4 (apR x2 (cmX 1)).T k4] 33) := ⟨_, rfl⟩
    rw [← hv4] at Q4
    clear h Q3 X3 bd
    go_upto_region 11 with fail
    rw [← hv4]
    clear hv4
    have bd := co_bC
    go_wp2_with fail
    refine (ls_apply Q4.out (Stb.and (Stb.and (Stb.and (Stb.triv (S := H2 5)) (Stb.rp hS0)) (Stb.rp hS0)) (Stb.rp hS0)) HT.out (by omega) (cmC 1 (q + 1)) (fun T k => CmR.nothing T _ _ rfl rfl) (.inl (by omega)) (by have := X4.out.n; omega)).mono ?_
    rintro e w6 ⟨A5, k5, rfl, h, -⟩
    rw [HR.out.2.2.2.2.2.2.2.1] at h
    have X5 := Lib.hid (show SxB 6 x3 from by have h := X4.out.ap (cmC 1 (q + 1)); rw [HR.out.2.2.2.2.2.2.2.1] at h; exact h)
    have Q5 := Lib.hid (show LS (fun T y => StAt T y 5 B x3 ∧ ((((True ∧ RpK w3.heap.size (apR x1 (cmC 1 q)) A2 k2 T y) ∧ RpK w4.heap.size (apR x2 (cmC 1 q)) A3 k3 T y) ∧ RpK w5.heap.size (apR x2 (cmX 1)) A4 k4 T y) ∧ RpK w6.heap.size (apR x3 (cmC 1 (q + 1))) A5 k5 T y)) w (w6.alloc (.cells #[.int .i64 (apR x3 (cmC 1 (q + 1))).c, .int .i64 (apR x3 (cmC 1 (q + 1))).n, .int .i64 (apR x3 (cmC 1 (q + 1))).m, .slice A5 (apR x3 (cmC 1 (q + 1))).T k5] 33)) from ls_keep (h.mono fun T k => ⟨k.1, k.2.1, k.2.2⟩) (Stb.calm (Stb.and (Stb.and (Stb.and (Stb.triv (S := H2 5)) (Stb.rp hS0)) (Stb.rp hS0)) (Stb.rp hS0))))
    obtain ⟨v5, hv5⟩ : ∃ v, v = w6.alloc (.cells #[.int .i64 (apR x3 (cmC 1 (q + 1))).c, .int .i64 (apR x3 (cmC 1 (q + 1))).n, .int .i64 (apR x3 (cmC 1 (q + 1))).m, .slice A5 (apR x3 (cmC 1 (q + 1))).T k5] 33) := ⟨_, rfl⟩
    rw [← hv5] at Q5
    clear h Q4 X4 bd
    go_upto_region 12 with fail
    rw [← hv5]
    clear hv5
    go_wp2_with fail
    refine (ls_apply Q5.out (Stb.and (Stb.and (Stb.and (Stb.and (Stb.triv (S := H2 5)) (Stb.rp hS0)) (Stb.rp hS0)) (Stb.rp hS0)) (Stb.rp hS0)) HT.out (by omega) cmO (fun T k => CmR.nothing T _ _ rfl rfl) (.inl (by omega)) (by have := X5.out.n; omega)).mono ?_
    rintro e w7 ⟨A6, k6, rfl, h, -⟩
    rw [HR.out.2.2.2.2.2.2.2.2.2.1] at h
    have X6 := Lib.hid (show SxB 7 x4 from by have h := X5.out.ap cmO; rw [HR.out.2.2.2.2.2.2.2.2.2.1] at h; exact h)
    have Q6 := Lib.hid (show LS (fun T y => StAt T y 5 B x4 ∧ (((((True ∧ RpK w3.heap.size (apR x1 (cmC 1 q)) A2 k2 T y) ∧ RpK w4.heap.size (apR x2 (cmC 1 q)) A3 k3 T y) ∧ RpK w5.heap.size (apR x2 (cmX 1)) A4 k4 T y) ∧ RpK w6.heap.size (apR x3 (cmC 1 (q + 1))) A5 k5 T y) ∧ RpK w7.heap.size (apR x3 cmO) A6 k6 T y)) w (w7.alloc (.cells #[.int .i64 (apR x3 cmO).c, .int .i64 (apR x3 cmO).n, .int .i64 (apR x3 cmO).m, .slice A6 (apR x3 cmO).T k6] 33)) from ls_keep (h.mono fun T k => ⟨k.1, k.2.1, k.2.2⟩) (Stb.calm (Stb.and (Stb.and (Stb.and (Stb.and (Stb.triv (S := H2 5)) (Stb.rp hS0)) (Stb.rp hS0)) (Stb.rp hS0)) (Stb.rp hS0))))
    obtain ⟨v6, hv6⟩ : ∃ v, v = w7.alloc (.cells #[.int .i64 (apR x3 cmO).c, .int .i64 (apR x3 cmO).n, .int .i64 (apR x3 cmO).m, .slice A6 (apR x3 cmO).T k6] 33) := ⟨_, rfl⟩
    rw [← hv6] at Q6
    clear h Q5 X5
    go_upto_region 13 with fail
    rw [← hv6]
    clear hv6
    have bd := co_bC
    go_wp2_with fail
    refine (ls_apply Q6.out (Stb.and (Stb.and (Stb.and (Stb.and (Stb.and (Stb.triv (S := H2 5)) (Stb.rp hS0)) (Stb.rp hS0)) (Stb.rp hS0)) (Stb.rp hS0)) (Stb.rp hS0)) HT.out (by omega) (cmC 2 1) (fun T k => CmR.nothing T _ _ rfl rfl) (.inl (by omega)) (by have := X6.out.n; omega)).mono ?_
    rintro e w8 ⟨A7, k7, rfl, h, -⟩
    rw [HR.out.2.2.2.2.2.2.2.2.2.2.2.1] at h
    have X7 := Lib.hid (show SxB 8 x5 from by have h := X6.out.ap (cmC 2 1); rw [HR.out.2.2.2.2.2.2.2.2.2.2.2.1] at h; exact h)
    have Q7 := Lib.hid (show LS (fun T y => StAt T y 5 B x5 ∧ ((((((True ∧ RpK w3.heap.size (apR x1 (cmC 1 q)) A2 k2 T y) ∧ RpK w4.heap.size (apR x2 (cmC 1 q)) A3 k3 T y) ∧ RpK w5.heap.size (apR x2 (cmX 1)) A4 k4 T y) ∧ RpK w6.heap.size (apR x3 (cmC 1 (q + 1))) A5 k5 T y) ∧ RpK w7.heap.size (apR x3 cmO) A6 k6 T y) ∧ RpK w8.heap.size (apR x4 (cmC 2 1)) A7 k7 T y)) w (w8.alloc (.cells #[.int .i64 (apR x4 (cmC 2 1)).c, .int .i64 (apR x4 (cmC 2 1)).n, .int .i64 (apR x4 (cmC 2 1)).m, .slice A7 (apR x4 (cmC 2 1)).T k7] 33)) from ls_keep (h.mono fun T k => ⟨k.1, k.2.1, k.2.2⟩) (Stb.calm (Stb.and (Stb.and (Stb.and (Stb.and (Stb.and (Stb.triv (S := H2 5)) (Stb.rp hS0)) (Stb.rp hS0)) (Stb.rp hS0)) (Stb.rp hS0)) (Stb.rp hS0))))
    obtain ⟨v7, hv7⟩ : ∃ v, v = w8.alloc (.cells #[.int .i64 (apR x4 (cmC 2 1)).c, .int .i64 (apR x4 (cmC 2 1)).n, .int .i64 (apR x4 (cmC 2 1)).m, .slice A7 (apR x4 (cmC 2 1)).T k7] 33) := ⟨_, rfl⟩
    rw [← hv7] at Q7
    clear h Q6 X6 bd
    go_upto_region 14 with fail
    rw [← hv7]
    clear hv7
    obtain ⟨Tz, -, kz⟩ := Q7.out.fact
    have a1 : v7.cell? ⟨w3.heap.size, 1, none⟩ = some (.int .i64 1) := by have h := (cells4 kz.1.1.1.1.1.2.1.1).2.1; rw [HR.out.2.2.1] at h; exact h
    have b1 : v7.cell? ⟨w4.heap.size, 1, none⟩ = some (.int .i64 1) := by have h := (cells4 kz.1.1.1.1.2.1.1).2.1; rw [HR.out.2.2.2.2.1] at h; exact h
    have c1 : v7.cell? ⟨w5.heap.size, 0, none⟩ = some (.int .i64 0) := by have h := (cells4 kz.1.1.1.2.1.1).1; rw [HR.out.2.2.2.2.2.2.1] at h; exact h
    have d1x : v7.cell? ⟨w6.heap.size, 0, none⟩ = some (.int .i64 150) := by have h := (cells4 kz.1.1.2.1.1).1; rw [HR.out.2.2.2.2.2.2.2.2.1] at h; exact h
    have e1 : v7.cell? ⟨w7.heap.size, 1, none⟩ = some (.int .i64 2) := by have h := (cells4 kz.1.2.1.1).2.1; rw [HR.out.2.2.2.2.2.2.2.2.2.2.1] at h; exact h
    have f1 : v7.cell? ⟨w8.heap.size, 1, none⟩ = some (.int .i64 2) := by have h := (cells4 kz.2.1.1).2.1; rw [HR.out.2.2.2.2.2.2.2.2.2.2.2.2.1] at h; exact h
    clear kz
    go_wp2_with fail
    refine (ls_rings Q7.out (Stb.calm (Stb.and (Stb.and (Stb.and (Stb.and (Stb.and (Stb.and (Stb.triv (S := H2 5)) (Stb.rp hS0)) (Stb.rp hS0)) (Stb.rp hS0)) (Stb.rp hS0)) (Stb.rp hS0)) (Stb.rp hS0))) (by omega)).mono ?_
    rintro e w9 ⟨v, T', rfl, hR, hL, -⟩
    obtain ⟨A9, c9, rfl, -, -, -⟩ := hR.form
    rw [HR.out.2.2.2.2.2.2.2.2.2.2.2.2.2]
    have BE := Lib.hid hL.bel
    clear hR hL Q7 X7 a1 b1 c1 d1x e1 f1
    go_wp2_with fail
    go_ret
    exact ⟨rfl, BE.out⟩
  · have BE := Lib.hid Q0.out.bel
    clear Q0 X0
    by_cases h1 : q < 1
    · have d1 : decide (q < 1) = true := decide_eq_true h1
      go_wp2_with fail
      go_ret
      exact ⟨rfl, BE.out⟩
    · have d1 : decide (q < 1) = false := decide_eq_false h1
      have d2 : decide (1099511627776 ≤ q) = true := decide_eq_true (by omega)
      go_wp2_with fail
      go_ret
      exact ⟨rfl, BE.out⟩

set_option maxRecDepth 100000 in
theorem lifted (os : Os) (started : os.Started) (H : Type) (enc : TypeId × Value → H) :
    ReturnsInHanded {} Tryz.checked os 9 .any (fun w args => (Rows.storeSessionsSpec.pre enc Tryz.prog Tryz.f9 [] false w args ∧ laidMetH Tryz.prog laidL w) ∧ sizedMet enc Tryz.prog Tryz.f9 (OpenSpec.ofChange Rows.storeSessionsSpec) false w args) (Rows.storeSessionsSpec.post enc Tryz.prog Tryz.f9 false true false false) := by
  refine returnsInHanded_of_change_and (C := Tryz.checked) (X := fun w _ => laidMetH Tryz.prog laidL w) (fun _ _ _ hh h => h.of_heap hh) own started (by kernel_rfl) Tryz.func9
    (ChangeSpec.witness_shaped (enc := enc) (C := Tryz.checked) (os := os) (X := fun w _ => laidMetH Tryz.prog laidL w) false (World.doorLaid Tryz.prog 14 os) #[.slice none 0 0, .int .i64 0] 8 rfl (World.shaped_of_RefB (by kernel_rfl) (by kernel_rfl)) (by kernel_rfl) (by kernel_rfl) (by kernel_rfl) (door_met os _)) ?_
  intro W base args ds gs before hval0 hW _ hsz0 hL _
  have hval : ∀ (j : Nat) t v, Tryz.f9.params[j]? = some t → args[j]? = some v → Value.okWide Tryz.prog W .any base t v := hval0
  have hW' := hW
  obtain ⟨p, q, hA0, hV, rfl, hfz, hnd⟩ := hW
  have hA : DataW.TrodAll enc Tryz.prog W 0 (fun _ => true) true Tryz.f9.params.toList args.toList ds p := hA0
  rw [Tryz.params9] at hA hval
  obtain ⟨v0, vs0, d0, ds0, p0, q0, hargs, rfl, rfl, h0, r0⟩ := trodAll_cons hA
  obtain ⟨v1, vs1, d1, ds1, p1, q1, rfl, rfl, rfl, h1, r1⟩ := trodAll_cons r0
  obtain ⟨rfl, rfl, rfl⟩ := trodAll_nil r1
  obtain rfl : args = #[v0, v1] := by cases args; simp_all
  obtain ⟨rfl, rfl⟩ := trodVars_none hV
  have k0 := h0
  have lt0 : ∀ x ∈ p0, x.block < W.heap.size := by obtain ⟨m, hm⟩ := k0; exact DataW.trod_lt m _ _ _ hm
  obtain ⟨A0, n0, c0, a0, rfl, hs0, hm0⟩ := open_sl Tryz.underlying22 Tryz.underlying5 (by kernel_rfl) (hval 0 22 v0 rfl rfl) h0
  obtain ⟨a1, rfl, rfl, rfl, w1⟩ := open_int Tryz.underlying3 (hval 1 3 v1 rfl rfl) h1
  clear hA0 hval0
  refine (walk a0 n0 c0 A0 a1 W hs0 hm0 w1 (tab_of hL)).mono fun e W' ⟨he, bel⟩ => ?_
  subst he
  exact ⟨_, rfl, _, _, _, [], _, [], hW', trodAll_mk1 (shut_bool Tryz.underlying4 _), (trodAll_cons_mk (Below.trod laidOut (by kernel_rfl) (of_decide_eq_true (by kernel_rfl)) k0 bel lt0) (trodAll_cons_mk (shut_int Tryz.underlying3 w1) trodAll_mk0)), rfl, bel.frame _, fun h => by cases h⟩

set_option maxHeartbeats 4000000 in
theorem over : Rows.storeSessionsRow.holds Tryz.pinned (OpenSpec.ofChange Rows.storeSessionsSpec) :=
  OpenClaim.holds_of_wide 9 Tryz.f9 rfl rfl rfl rfl rfl rfl rfl ⟨rfl, rfl, rfl, rfl, rfl⟩ rfl rfl rfl rfl rfl (by as_aux_lemma => kernel_rfl) Tryz.func9 (by as_aux_lemma => kernel_rfl)
    (of_decide_eq_true (by as_aux_lemma => kernel_rfl)) (by unfold Func.isWrapper; first | (rw [if_pos (by decide +kernel)]; as_aux_lemma => kernel_rfl) | (rw [if_neg (by decide +kernel)]; exact ⟨rfl, rfl⟩))
    (fun os started H enc _ => lifted os started H enc)

set_option maxHeartbeats 4000000 in
theorem proved : Rows.StoreSessionsCardSaid :=
  Claim7.holds_tied_plain_at .later [] [.data] true (true, "ef13907c1c22fa2efd37217ce8d311b19c0fecaf9c64df184703d01d535a1dd6") true
    over (fun _ h => by cases h) (by as_aux_lemma => kernel_rfl) (fun _ h => by cases h) storeSessions_row_tie rfl ⟨rfl, rfl⟩ (by as_aux_lemma => kernel_rfl) rfl
    (fun f fn hf hfn => by
      obtain rfl : f = 9 := Option.some.inj ((show Tryz.prog.funcNamed "strongroom/strongroomlaw16.StoreSessions" = some 9 by as_aux_lemma => kernel_rfl).symm.trans hf) |>.symm
      obtain rfl : fn = Tryz.f9 := (Option.some.inj (Tryz.func9.symm.trans hfn)).symm
      exact ⟨by as_aux_lemma => kernel_rfl, fun j t ht => by
        rw [Tryz.params9] at ht
        have hm : t ∈ [22, 3] := by simpa using Array.mem_of_getElem? ht
        have hall : ([22, 3].all fun u => !Tryz.prog.wantsStandIn u) = true := by as_aux_lemma => kernel_rfl
        exact (show Tryz.prog.wantsStandIn t = false by simpa using List.all_eq_true.1 hall t hm)⟩)
    (by as_aux_lemma => kernel_rfl)
#print axioms proved
end Go.Proofs.YteffjpdcghlnlaaGreatDoor.storeSessions
