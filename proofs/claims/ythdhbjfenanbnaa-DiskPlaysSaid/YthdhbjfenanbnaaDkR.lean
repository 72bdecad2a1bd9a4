/- The document's examples, at the head of all statements of layer 10. -/
import Derived.Test.YthdhbjfenanbnaaDkQ
namespace Go.Proofs.Ythdhbjfenanbnaa.Oct
open Go.ChangeShapes Go.WideShapes Go.ChangeAt Go.RowKit
set_option linter.unusedVariables false

def sh1 : Dk := (onF 0 newD fun i => newD.app i [97#8, 98#8]).2
def sh2 : Dk := (onF 0 sh1 fun i => sh1.sync i).2
def sh3 : Dk := (onF 0 sh2 fun i => sh2.app i [99#8, 100#8]).2
def kp5 : Nat → Int := fun i => if i = 4 then 1 else 0
def sh4 : Dk := sh3.boot (pck kp5 5)
def sh5 : Dk := sh4.fuse 1
def sh6 : Dk := (onF 1 sh5 fun i => sh5.app i [120#8]).2
def sh7 : Dk := (onF 1 sh6 fun i => sh6.app i [121#8]).2
theorem sh_e1 : (onF 0 newD fun i => newD.app i [97#8, 98#8]).1 = 0 := by decide +kernel
theorem sh_e2 : (onF 0 sh1 fun i => sh1.sync i).1 = 0 := by decide +kernel
theorem sh_e3 : (onF 0 sh2 fun i => sh2.app i [99#8, 100#8]).1 = 0 := by decide +kernel
theorem sh_r3 : sh3.read 0 = (0, [97#8, 98#8, 99#8, 100#8]) := by decide +kernel
theorem sh_r4 : sh4.read 0 = (0, [97#8, 98#8, 99#8]) := by decide +kernel
theorem sh_e6 : (onF 1 sh5 fun i => sh5.app i [120#8]).1 = 0 := by decide +kernel
theorem sh_e7 : (onF 1 sh6 fun i => sh6.app i [121#8]).1 = 5 := by decide +kernel
theorem sh_off : sh7.off = true := by decide +kernel
theorem sh_n : sh7.n = 4 := by decide +kernel
theorem sh_n1 : sh1.n < 1000000000000 ∧ sh2.n < 1000000000000 ∧ sh3.n < 1000000000000 ∧ sh4.n < 1000000000000 ∧ sh5.n < 1000000000000 ∧ sh6.n < 1000000000000 := by decide +kernel
theorem lit_ab : (#[.int .u8 97, .int .u8 98] : Array Value) = ba 2 (lf [97#8, 98#8]) := by unfold ba; kernel_rfl
theorem lit_cd : (#[.int .u8 99, .int .u8 100] : Array Value) = ba 2 (lf [99#8, 100#8]) := by unfold ba; kernel_rfl
theorem lit_x : (#[.int .u8 120] : Array Value) = ba 1 (lf [120#8]) := by unfold ba; kernel_rfl
theorem lit_y : (#[.int .u8 121] : Array Value) = ba 1 (lf [121#8]) := by unfold ba; kernel_rfl
theorem str_abcd : strOf 4 (lf [97#8, 98#8, 99#8, 100#8]) = { data := #[97, 98, 99, 100] } := by decide +kernel
theorem str_abc : strOf 3 (lf [97#8, 98#8, 99#8]) = { data := #[97, 98, 99] } := by decide +kernel
theorem lit_step {W : World} {T : Mk} {w : World} {t B n : Nat} {d : Dk} {C : Array Value} {l : By} (h : Sn W T w t B d) (hC : C = ba n (lf l)) (u : TypeId) (m : Nat × Nat) :
    ∃ w', w' = w.alloc (.cells C u m) ∧ Sn W (paint T w.heap.size 0) w' t B d ∧ Sl w' w'.heap.size (some ⟨w.heap.size, 0, none⟩) n n (lf l) ∧ Fr T (paint T w.heap.size 0) (fun _ => False) w w' := by
  have b1 : Below w.heap.size w (w.alloc (.cells C u m)) := (Below.refl _ _).alloc (Nat.le_refl _) _
  refine ⟨_, rfl, h.calm b1 0, ?_, Fr.new b1 0⟩
  exact Sl.lit w hC u m _ (by simp)
set_option maxRecDepth 20000 in
set_option maxHeartbeats 4000000 in
theorem shown_any (w : World) : Calls Try.prog 8 #[] w fun e w' => e = .returned (.bool true) ∧ Below w.heap.size w w' := by
  go_enter Try.func8, Try.ntmps8
  go_wp2_with fail
  refine (p_new (W := w) (T := fun _ => 0) (fun _ _ => rfl) (Below.refl _ _) 1).mono ?_
  rintro e w1 ⟨rfl, b1, S1⟩
  have SS := Lib.hid S1
  obtain ⟨B, hB⟩ : ∃ B, B = w.heap.size := ⟨_, rfl⟩
  rw [← hB] at SS ⊢
  have HB := Lib.hid hB
  obtain ⟨T1, hT1⟩ : ∃ T1, T1 = paint (fun _ => 0) B 1 := ⟨_, rfl⟩
  rw [← hT1] at SS
  clear b1 S1 hT1 hB
  go_wp2_with fail
  obtain ⟨w2, hw2, S2, L2, F2⟩ := lit_step SS.out lit_ab 5 (2, 3)
  rw [← hw2]
  have SS2 := Lib.hid S2
  have LL2 := Lib.hid L2
  clear hw2 S2 L2 F2 SS
  refine (p_append SS2.out (by omega) (by decide) (b := [97#8, 98#8]) (f := 0) rfl LL2.out (by simp)).mono ?_
  rintro e w3 ⟨rfl, T3, -, S3⟩
  rw [sh_e1]
  have SS3 := Lib.hid (show Sn w T3 w3 1 B sh1 from S3)
  clear S3 SS2 LL2
  have HC := Lib.hid (p_sync SS3.out (by omega) sh_n1.1 0)
  rw [sh_e2] at HC
  go_wp2_with fail
  refine HC.out.mono ?_
  rintro e w4 ⟨rfl, T4, -, S4⟩
  have SS4 := Lib.hid (show Sn w T4 w4 1 B sh2 from S4)
  clear S4 SS3 HC
  go_wp2_with fail
  obtain ⟨w5, hw5, S5, L5, F5⟩ := lit_step SS4.out lit_cd 5 (2, 3)
  rw [← hw5]
  have SS5 := Lib.hid S5
  have LL5 := Lib.hid L5
  clear hw5 S5 L5 F5 SS4
  refine (p_append SS5.out (by omega) sh_n1.2.1 (b := [99#8, 100#8]) (f := 0) rfl LL5.out (by simp)).mono ?_
  rintro e w6 ⟨rfl, T6, -, S6⟩
  rw [sh_e3]
  have SS6 := Lib.hid (show Sn w T6 w6 1 B sh3 from S6)
  clear S6 SS5 LL5
  have HC := Lib.hid (p_read SS6.out sh_n1.2.2.1 0 0)
  rw [sh_r3] at HC
  go_wp2_with fail
  refine HC.out.mono ?_
  rintro e w7 ⟨v7, rfl, o7, -, S7⟩
  obtain ⟨A7, c7, rfl, r7, -⟩ := o7.rd
  have RX := Lib.hid r7
  have SS7 := Lib.hid S7
  obtain ⟨T7, hT7⟩ : ∃ T7, T7 = paint T6 w6.heap.size 0 := ⟨_, rfl⟩
  rw [← hT7] at RX SS7
  clear o7 S7 r7 hT7 SS6 HC
  go_wp2_with fail
  -- the keep
  have b8 : Below w7.heap.size w7 (w7.alloc (.cells #[.int .i64 0, .int .i64 0, .int .i64 0, .int .i64 0, .int .i64 1] 3)) := (Below.refl _ _).alloc (Nat.le_refl _) _
  have r8 := row_alloc_at w7 #[.int .i64 0, .int .i64 0, .int .i64 0, .int .i64 0, .int .i64 1] 3 w7.heap.size rfl
  have z8 : (w7.alloc (.cells #[.int .i64 0, .int .i64 0, .int .i64 0, .int .i64 0, .int .i64 1] 3)).heap.size = w7.heap.size + 1 := by simp
  obtain ⟨w8, hw8⟩ : ∃ w8, w8 = w7.alloc (.cells #[.int .i64 0, .int .i64 0, .int .i64 0, .int .i64 0, .int .i64 1] 3) := ⟨_, rfl⟩
  rw [← hw8] at b8 r8 z8 ⊢
  have SS8 := Lib.hid (SS7.out.calm b8 0)
  have RX8 := Lib.hid (RX.out.fr (Fr.new (H := fun _ => False) b8 0) (fun e => e))
  have I8 := Lib.hid (show Ints (paint T7 w7.heap.size 0) w8 (some ⟨w7.heap.size, 0, none⟩) 5 5 kp5 from ⟨⟨Nat.le_refl _, fun _ => ⟨w7.heap.size, 0, rfl, by omega, fun i hi => by
      rw [cell_row r8, Nat.zero_add]
      unfold iV kp5
      rcases (show i = 0 ∨ i = 1 ∨ i = 2 ∨ i = 3 ∨ i = 4 by omega) with rfl | rfl | rfl | rfl | rfl <;> rfl⟩⟩, fun _ ad ha => by cases ha; exact paint_new (Nat.le_refl _), fun j hj => by unfold kp5; split <;> omega⟩)
  have HC := Lib.hid (p_boot SS8.out (by omega) sh_n1.2.2.1 I8.out)
  clear hw8 b8 r8 SS7 RX z8
  refine HC.out.mono ?_
  rintro e w9 ⟨rfl, T9, f9, S9⟩
  have SS9 := Lib.hid (show Sn w T9 w9 1 B sh4 from S9)
  have RX9 := Lib.hid (RX8.out.fr f9 (Hs_0 (by omega)))
  clear f9 S9 HC I8 SS8 RX8
  have HC := Lib.hid (p_read SS9.out sh_n1.2.2.2.1 0 0)
  rw [sh_r4] at HC
  go_wp2_with fail
  refine HC.out.mono ?_
  rintro e wa ⟨va, rfl, oa, ba, Sa⟩
  obtain ⟨Aa, ca, rfl, ra, -⟩ := oa.rd
  have RY := Lib.hid ra
  have RXa := Lib.hid (RX9.out.fr (Fr.new (H := fun _ => False) ba 0) (fun e => e))
  have SSa := Lib.hid Sa
  obtain ⟨Ta, hTa⟩ : ∃ Ta, Ta = paint T9 w9.heap.size 0 := ⟨_, rfl⟩
  rw [← hTa] at RY SSa RXa
  clear oa Sa ra ba hTa SS9 HC RX9
  have HC := Lib.hid (p_fuse SSa.out (by omega) (n := 1) (by omega))
  go_wp2_with fail
  refine HC.out.mono ?_
  rintro e wb ⟨rfl, fb, Sb⟩
  have SSb := Lib.hid (show Sn w Ta wb 1 B sh5 from Sb)
  have RXb := Lib.hid (RXa.out.fr fb (Hs_0 (by omega)))
  have RYb := Lib.hid (RY.out.fr fb (Hs_0 (by omega)))
  clear fb Sb HC SSa RXa RY
  go_wp2_with fail
  obtain ⟨wc, hwc, Sc, Lc, Fc⟩ := lit_step SSb.out lit_x 5 (1, 2)
  rw [← hwc]
  have SSc := Lib.hid Sc
  have LLc := Lib.hid Lc
  have RXc := Lib.hid (RXb.out.fr Fc (fun e => e))
  have RYc := Lib.hid (RYb.out.fr Fc (fun e => e))
  clear hwc Sc Lc Fc SSb RXb RYb
  refine (p_append SSc.out (by omega) sh_n1.2.2.2.2.1 (b := [120#8]) (f := 1) rfl LLc.out (by simp)).mono ?_
  rintro e wd ⟨rfl, Td, fd, Sd⟩
  rw [sh_e6]
  have SSd := Lib.hid (show Sn w Td wd 1 B sh6 from Sd)
  have RXd := Lib.hid (RXc.out.fr fd (Hs_0 (by omega)))
  have RYd := Lib.hid (RYc.out.fr fd (Hs_0 (by omega)))
  clear fd Sd SSc LLc RXc RYc
  go_wp2_with fail
  obtain ⟨we, hwe, Se, Le, Fe⟩ := lit_step SSd.out lit_y 5 (1, 2)
  rw [← hwe]
  have SSe := Lib.hid Se
  have LLe := Lib.hid Le
  have RXe := Lib.hid (RXd.out.fr Fe (fun e => e))
  have RYe := Lib.hid (RYd.out.fr Fe (fun e => e))
  clear hwe Se Le Fe SSd RXd RYd
  refine (p_append SSe.out (by omega) sh_n1.2.2.2.2.2 (b := [121#8]) (f := 1) rfl LLe.out (by simp)).mono ?_
  rintro e wf ⟨rfl, Tf, ff, Sf⟩
  rw [sh_e7]
  have SSf := Lib.hid (show Sn w Tf wf 1 B sh7 from Sf)
  have cv1 := run_str (P := Try.prog) sli_u u8_u str_u (RXe.out.fr ff (Hs_0 (by omega))).sl
  have cv2 := run_str (P := Try.prog) sli_u u8_u str_u (RYe.out.fr ff (Hs_0 (by omega))).sl
  rw [show ([97#8, 98#8, 99#8, 100#8] : By).length = 4 from rfl, str_abcd] at cv1
  rw [show ([97#8, 98#8, 99#8] : By).length = 3 from rfl, str_abc] at cv2
  have HC := Lib.hid (p_on SSf.out)
  have HC2 := Lib.hid (p_steps SSf.out)
  rw [sh_off] at HC
  rw [sh_n] at HC2
  clear ff Sf SSe LLe RXe RYe
  go_wp2_with fail
  refine HC.out.mono ?_
  rintro e wg ⟨rfl, rfl⟩
  go_wp2_with fail
  refine HC2.out.mono ?_
  rintro e wg ⟨rfl, rfl⟩
  have hbel := Lib.hid SSf.out.bel
  clear SSf HC HC2 cv1 cv2
  go_wp2_with fail
  go_ret
  exact ⟨rfl, hbel.out⟩
end Go.Proofs.Ythdhbjfenanbnaa.Oct
