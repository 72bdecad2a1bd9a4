/- What the statements of layer 4 share: few, and the document's examples at their head. -/
import Derived.Test.YtokhldihfbaeoaaGcmH
import Derived.Test.YtokhldihfbaeoaaGcmEx
namespace Go.Proofs.Ytokhldihfbaeoaa.Oct
open Go.ChangeShapes Go.WideShapes Go.ChangeAt Go.RowKit
set_option linter.unusedVariables false

theorem few_any (A : Option Addr) (n c : Nat) (h : n ≤ c) (hc : c ≤ maxLen) (w : World) :
    Calls Try.prog 11 #[.slice A n c] w fun e w' => e = .returned (.slice A (min n 1000) c) ∧ w = w' := by
  unfold maxLen at hc
  by_cases hlt : 1000 < n
  · have hd : decide ((1000 : Int) < (n : Int)) = true := by simp; omega
    have hup := run_upto sli_u u8_i A n c 1000 (by omega)
    rw [show min n 1000 = 1000 by omega]
    go_enter Try.func11, Try.ntmps11
    go_wp2
    go_ret
    exact ⟨rfl, rfl⟩
  · have hd : decide ((1000 : Int) < (n : Int)) = false := by simp; omega
    rw [show min n 1000 = n by omega]
    go_enter Try.func11, Try.ntmps11
    go_wp2
    go_ret
    exact ⟨rfl, rfl⟩

set_option maxRecDepth 20000 in
set_option maxHeartbeats 4000000 in
theorem shown_any (w : World) :
    Calls Try.prog 10 #[] w fun e w' => e = .returned (.bool true) ∧ Below w.heap.size w w' := by
  obtain ⟨iu, hiu, z0, z1, z2⟩ := info_parts (P := Try.prog) u8_info
  go_enter Try.func10, Try.ntmps10
  go_wp2_with fail
  refine (gseal_any (fun _ => 0#8) (fun _ => 0#8) nF 0 0 none nF 0 0 none _ (Sl.nothing _ _ _ _ _) (Sl.nothing _ _ _ _ _) (by omega) (by omega)).mono ?_
  rintro e w1 ⟨v1, rfl, ho1, hb1⟩
  have HO1 := Lib.hid (ho1.congr (seal1 nF nF))
  have HB1 := Lib.hid hb1
  clear ho1 hb1
  go_wp2_with (at_make; refine wpList_make_full _ rfl (.const (.int .i64 16)) (.const (.int .i64 16)) _ rfl w.heap.size 5 iu (.int .u8 0) 1 sli_u hiu z0 z1 .i64 .i64 _ _ 16 rfl rfl rfl rfl (by rw [z2]; omega) (by unfold maxLen; omega) HB1.out.size ?_; intro w2 ho hg)
  have hb2 := Below.of_grown hg
  obtain ⟨A2, c2, e2, h2, hc2, -⟩ := (Own.of_made ho).sl
  rw [e2]
  have HO2 := Lib.hid (HO1.out.below hb2 (Nat.le_refl _))
  have HB2 := Lib.hid (onto HB1.out HB1.out.size hb2)
  clear ho hg hb2 HO1 HB1 e2
  refine (gseal_any (fun _ => 0#8) (fun _ => 0#8) nF 0 0 none (fun _ => 0#8) 16 c2 A2 _ (Sl.nothing _ _ _ _ _) h2 (by omega) (by omega)).mono ?_
  rintro e w3 ⟨v3, rfl, ho3, hb3⟩
  have HO3 := Lib.hid (ho3.congr (seal2 nF))
  have HO2' := Lib.hid (HO2.out.below hb3 (Nat.le_refl _))
  have HB3 := Lib.hid (onto HB2.out HB2.out.size hb3)
  have HW3 := Lib.hid HB3.out.size
  clear ho3 hb3 HO2 h2 hc2
  go_wp2_with (at_make; refine wpList_make_full _ rfl (.const (.int .i64 15)) (.const (.int .i64 15)) _ rfl w.heap.size 5 iu (.int .u8 0) 1 sli_u hiu z0 z1 .i64 .i64 _ _ 15 rfl rfl rfl rfl (by rw [z2]; omega) (by unfold maxLen; omega) HB3.out.size ?_; intro w4 ho hg)
  have hb4 := Below.of_grown hg
  obtain ⟨A4, c4, e4, h4, hc4, -⟩ := (Own.of_made ho).sl
  rw [e4]
  have HO4 := Lib.hid (HO3.out.below hb4 (Nat.le_refl _))
  have HO4' := Lib.hid (HO2'.out.below hb4 (Nat.le_refl _))
  have HB4 := Lib.hid (onto HB3.out HB3.out.size hb4)
  clear ho hg hb4 HO3 HO2' HB2 HB3 HW3 e4
  refine (gopen_any (fun _ => 0#8) (fun _ => 0#8) nF 0 0 none (fun _ => 0#8) 15 c4 A4 _ (Sl.nothing _ _ _ _ _) h4 (by omega) (by omega)).mono ?_
  rintro e w5 ⟨v5, rfl, ho5, hb5⟩
  rw [show opC (fun _ => 0#8) (fun _ => 0#8) nF 0 (fun _ => 0#8) 15 = 3 by unfold opC; rw [if_pos (by omega)]]
  have HB5 := Lib.hid (onto HB4.out HB4.out.size hb5)
  obtain ⟨A1, c1, rfl, k1, -, -⟩ := (HO4'.out.below hb5 (Nat.le_refl _)).sl
  obtain ⟨A3, c3, rfl, k3, -, -⟩ := (HO4.out.below hb5 (Nat.le_refl _)).sl
  have s1 := run_str (P := Try.prog) sli_u u8_u str_u k1
  have s3 := run_str (P := Try.prog) sli_u u8_u str_u k3
  rw [show 0 + 16 = 16 from rfl] at s1
  rw [show 16 + 16 = 32 from rfl] at s3
  rw [lit1_ok] at s1
  rw [lit2_ok] at s3
  clear ho5 hb5 h4 hc4 HO4 HO4' HB4 k1 k3
  go_wp2_with fail
  go_ret
  exact ⟨rfl, HB5.out⟩
end Go.Proofs.Ytokhldihfbaeoaa.Oct
