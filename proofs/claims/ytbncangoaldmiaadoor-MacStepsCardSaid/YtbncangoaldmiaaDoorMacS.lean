/- What the statements of layer 6 share: few, and the document's example at their head. -/
import Derived.Test.YtbncangoaldmiaaDoorMacE
import Derived.Test.YtbncangoaldmiaaDoorMacEx
import Derived.Lib.SlBytesConst
namespace Go.Proofs.YtbncangoaldmiaaDoor.Oct
open Go.ChangeShapes Go.WideShapes Go.ChangeAt Go.RowKit
set_option linter.unusedVariables false

theorem few_any (A : Option Addr) (n c : Nat) (h : n ≤ c) (hc : c ≤ maxLen) (w : World) :
    Calls Tryd.prog 10 #[.slice A n c] w fun e w' => e = .returned (.slice A (min n 1000) c) ∧ w = w' := by
  unfold maxLen at hc
  by_cases hlt : 1000 < n
  · have hd : decide ((1000 : Int) < (n : Int)) = true := by simp; omega
    have hup := run_upto sli_u u8_i A n c 1000 (by omega)
    rw [show min n 1000 = 1000 by omega]
    go_enter Tryd.func10, Tryd.ntmps10
    go_wp2
    go_ret
    exact ⟨rfl, rfl⟩
  · have hd : decide ((1000 : Int) < (n : Int)) = false := by simp; omega
    rw [show min n 1000 = n by omega]
    go_enter Tryd.func10, Tryd.ntmps10
    go_wp2
    go_ret
    exact ⟨rfl, rfl⟩
@[go_sem] theorem conv_lit (w : World) (C : Array Value) (n c p : Nat) (hp : p = w.heap.size) : (convert 22 22 (.slice (some ⟨p, 0, none⟩) n c)).run Tryd.prog (w.alloc (.cells C 5)) = .ok (.slice (some ⟨p, 0, none⟩) n c) (w.alloc (.cells C 5 (C.size, C.size + 1))) := by
  subst hp
  exact Lib.run_convert_bytes_const (P := Tryd.prog) w 22 5 C n c sli_u u8_u
theorem jef_lit : (#[.int .u8 74, .int .u8 101, .int .u8 102, .int .u8 101] : Array Value) = ba 4 jefF := by unfold ba; kernel_rfl
theorem txt_lit : (#[.int .u8 119, .int .u8 104, .int .u8 97, .int .u8 116, .int .u8 32, .int .u8 100, .int .u8 111, .int .u8 32, .int .u8 121, .int .u8 97, .int .u8 32, .int .u8 119, .int .u8 97, .int .u8 110, .int .u8 116, .int .u8 32, .int .u8 102, .int .u8 111, .int .u8 114, .int .u8 32, .int .u8 110, .int .u8 111, .int .u8 116, .int .u8 104, .int .u8 105, .int .u8 110, .int .u8 103, .int .u8 63] : Array Value) = ba 28 txtF := by unfold ba; kernel_rfl
theorem k_lit : (#[.int .u8 107] : Array Value) = ba 1 (fun _ => 107#8) := by unfold ba; kernel_rfl
theorem i_lit : (#[.int .u8 105] : Array Value) = ba 1 (fun _ => 105#8) := by unfold ba; kernel_rfl
/-- a literal of bytes, marked: it reads as it stands -/
theorem Sl.lit (w : World) {C : Array Value} {n : Nat} {f : Bf} (hC : C = ba n f) (u : TypeId) (m : Nat × Nat) (B : Nat) (hB : w.heap.size < B) : Sl (w.alloc (.cells C u m)) B (some ⟨w.heap.size, 0, none⟩) n n f := by
  subst hC
  exact ⟨Nat.le_refl _, fun _ => ⟨w.heap.size, 0, rfl, hB, fun i hi => by rw [Nat.zero_add, cell_of_row _ _ i _ _ _ (heap_alloc_new w _), ba_get n f i hi]⟩⟩
theorem jslit1 : strOf 8 (macF jefF 4 txtF 28) = ⟨#[0x5b, 0xdc, 0xc1, 0x46, 0xbf, 0x60, 0x75, 0x4e]⟩ := by
  rw [str_congr fun i hi => jef_ok i (by omega)]
  unfold strOf; decide +kernel
theorem jslit2 : strOf 8 (offF (macF jefF 4 txtF 28) 24) = ⟨#[0x9d, 0xec, 0x58, 0xb9, 0x64, 0xec, 0x38, 0x43]⟩ := by
  rw [str_congr (b' := offF (fun i => joD.getD i 0#8) 24) fun i hi => by unfold offF; exact jef_ok _ (by omega)]
  unfold strOf; decide +kernel
/-- the first m bytes, and those from o on, of a row of 32 bytes, as strings -/
theorem sum_str_h {w : World} {B : Nat} {f : Bf} (h : row w B = some (ba 32 f)) : (convert 22 9 (.slice (some ⟨B, 0, none⟩) 8 32)).run Tryd.prog w = .ok (.string (strOf 8 f)) w :=
  run_str sli_u u8_u str_u ((Sl.of_row h (B + 1) (by omega)).upto 8 (by omega))
theorem sum_str_l {w : World} {B : Nat} {f : Bf} (h : row w B = some (ba 32 f)) : (convert 22 9 (.slice (some ⟨B, 24, none⟩) 8 8)).run Tryd.prog w = .ok (.string (strOf 8 (offF f 24))) w := by
  have hs := (Sl.of_row h (B + 1) (by omega)).from_ 24 (by omega)
  rw [show cutA (some (⟨B, 0, none⟩ : Addr)) 32 24 = some ⟨B, 24, none⟩ by unfold cutA; rw [if_neg (by omega)]; simp only [Option.map_some]; rw [add_mid]] at hs
  exact run_str sli_u u8_u str_u hs

set_option maxRecDepth 20000 in
set_option maxHeartbeats 4000000 in
theorem shown_any (w : World) (ht : Tab w) :
    Calls Tryd.prog 9 #[] w fun e w' => e = .returned (.bool true) ∧ Below w.heap.size w w' := by
  have HT := Lib.hid ht
  clear ht
  have j1 := jef_lit
  have j2 := txt_lit
  go_enter Tryd.func9, Tryd.ntmps9
  go_wp2_with fail
  obtain ⟨w1, hw1⟩ : ∃ w1, w1 = (w.alloc (.cells (ba 4 jefF) 5 (4, 5))).alloc (.cells (ba 28 txtF) 5 (28, 29)) := ⟨_, rfl⟩
  have B1 : Below w.heap.size w w1 := by rw [hw1]; exact ((Below.refl _ _).alloc (by simp) _).alloc (by simp) _
  have hz1 : w1.heap.size = w.heap.size + 2 := by rw [hw1]; simp
  have s1 : Sl w1 w1.heap.size (some ⟨w.heap.size, 0, none⟩) 4 4 jefF := by
    rw [hw1]; exact ((Sl.lit w (n := 4) (f := jefF) rfl 5 _ (w.heap.size + 1) (by omega)).below ((Below.refl _ _).alloc (by simp) _)).more (by simp)
  have s2 : Sl w1 w1.heap.size (some ⟨w.heap.size + 1, 0, none⟩) 28 28 txtF := by
    rw [hw1]
    have h := Sl.lit (w.alloc (.cells (ba 4 jefF) 5 (4, 5))) (n := 28) (f := txtF) rfl 5 (28, 29) (w.heap.size + 2) (by simp)
    simpa using h
  rw [← hw1]
  clear hw1 j1 j2
  refine (msum_any jefF txtF 4 28 4 28 _ _ w1 (HT.out.below B1 HT.out.pos) s1 s2 (by omega) (by omega)).mono ?_
  rintro e w2 ⟨rfl, hb2⟩
  have hs2 : w.heap.size + 2 ≤ w2.heap.size := by have := hb2.size; omega
  have B2 := Lib.hid (onto B1 (by omega) hb2)
  clear B1 hb2 s1 s2 hz1
  go_wp2_with fail
  obtain ⟨V, hV⟩ : ∃ V, V = macF jefF 4 txtF 28 := ⟨_, rfl⟩
  have HV := Lib.hid hV
  rw [← hV]
  clear hV
  obtain ⟨p, hp⟩ : ∃ p, p = w2.heap.size := ⟨_, rfl⟩
  obtain ⟨w3, hw3⟩ : ∃ w3, w3 = ((w2.alloc (.cells (ba 32 V) 26)).alloc (.cells #[.int .u8 107] 5 (1, 2))).alloc (.cells #[.int .u8 105] 5 (1, 2)) := ⟨_, rfl⟩
  have b3 : Below w2.heap.size w2 w3 := by rw [hw3]; exact (((Below.refl _ _).alloc (by simp) _).alloc (by simp) _).alloc (by simp; omega) _
  have hz3 : w3.heap.size = w2.heap.size + 3 := by rw [hw3]; simp
  have rV : row w3 w2.heap.size = some (ba 32 V) := by rw [hw3]; exact row_alloc (row_alloc (row_alloc_at _ _ _ _ rfl) _) _
  have s1 : Sl w3 w3.heap.size (some ⟨w2.heap.size + 1, 0, none⟩) 1 1 (fun _ => 107#8) := by
    rw [hw3]
    have h := ((Sl.lit (w2.alloc (.cells (ba 32 V) 26)) k_lit 5 (1, 2) (w2.heap.size + 2) (by simp)).below ((Below.refl _ _).alloc (by simp) (.cells #[.int .u8 105] 5 (1, 2)))).more (B' := w2.heap.size + 3) (by omega)
    simpa using h
  have s2 : Sl w3 w3.heap.size (some ⟨w2.heap.size + 1 + 1, 0, none⟩) 1 1 (fun _ => 105#8) := by
    rw [hw3]
    have h := Sl.lit ((w2.alloc (.cells (ba 32 V) 26)).alloc (.cells #[.int .u8 107] 5 (1, 2))) i_lit 5 (1, 2) (w2.heap.size + 3) (by simp)
    simpa using h
  have B3 := Lib.hid (onto B2.out (by omega) b3)
  rw [← hw3]
  clear hw3 b3
  rw [← hp] at hs2 hz3 rV s1 s2 ⊢
  clear hp
  have HT3 := Lib.hid (HT.out.below B3.out HT.out.pos)
  have HC := mexp_any (fun _ => 107#8) (fun _ => 105#8) 1 1 1 1 _ _ 0 w3 HT3.out s1 s2 (by omega) (by omega) (by omega)
  rw [show ((0 : Nat) : Int) = 0 from rfl] at HC
  refine HC.mono ?_
  rintro e w4 ⟨rfl, -, hb4⟩
  have B4 := Lib.hid (onto B3.out (by omega) hb4)
  have RV := Lib.hid (carry hb4 rV)
  have hs4 : p + 3 ≤ w4.heap.size := by have := hb4.size; omega
  have hs3 : w.heap.size ≤ w4.heap.size := by omega
  clear HC hb4 rV s1 s2 HT HT3 B2 B3
  go_wp2_with fail
  refine (mexp_bad _ _ 1 1 1 1 (-1) _ (by omega)).mono ?_
  rintro e w5 ⟨rfl, rfl⟩
  go_wp2_with fail
  refine (mexp_bad _ _ 1 1 1 1 8161 _ (by omega)).mono ?_
  rintro e w6 ⟨rfl, rfl⟩
  obtain ⟨w8, hw8⟩ : ∃ w8, w8 = (((w4.alloc (.cells #[.int .u8 107] 5 (1, 2))).alloc (.cells #[.int .u8 105] 5 (1, 2))).alloc (.cells #[.int .u8 107] 5 (1, 2))).alloc (.cells #[.int .u8 105] 5 (1, 2)) := ⟨_, rfl⟩
  have b8 : Below w4.heap.size w4 w8 := by rw [hw8]; exact ((((Below.refl _ _).alloc (by simp) _).alloc (by simp) _).alloc (by simp; omega) _).alloc (by simp; omega) _
  rw [← hw8]
  clear hw8
  have q1 := carry b8 RV.out
  have BF := Lib.hid (onto B4.out hs3 b8)
  have g1 := sum_str_h q1
  have g3 := sum_str_l q1
  rw [HV.out, jslit1] at g1
  rw [HV.out, jslit2] at g3
  have a1 := sum_sl_h p 8 (by omega)
  have a3 := sum_sl_l p 24 (by omega)
  rw [show ((8 : Nat) : Int) = 8 from rfl] at a1
  rw [show ((24 : Nat) : Int) = 24 from rfl] at a3
  clear q1 b8 RV B4
  go_wp2_with fail
  go_ret
  exact ⟨rfl, BF.out⟩
end Go.Proofs.YtbncangoaldmiaaDoor.Oct
