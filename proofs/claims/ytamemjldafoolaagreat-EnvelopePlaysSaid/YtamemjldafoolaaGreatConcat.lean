/- Contracts of slices.Grow (of nil) and of slices.Concat of slices of bytes. -/
import Derived.Test.YtamemjldafoolaaGreatLib
import Derived.Test.YtamemjldafoolaaGreatTySl
import Derived.WalkKit
import Derived.ProofKit
import Derived.OpenShut
import Derived.Lib.Hide
import Derived.Outline
namespace Go.Proofs.YtamemjldafoolaaGreat.Oct
open Go.ChangeShapes Go.WideShapes Go.ChangeAt Go.RowKit
set_option linter.unusedVariables false

theorem Own.wf {w : World} {base : Nat} {u : TypeId} {v : Value} {n : Nat} {f : Bf} (h : Own w base u v n f) : ∃ A c, v = .slice A n c ∧ n ≤ c ∧ c ≤ maxLen := by
  obtain ⟨A, c, e, hs, hc, _⟩ := h.sl
  exact ⟨A, c, e, hs.le, hc⟩

set_option maxHeartbeats 1000000 in
theorem grow_any (n : Nat) (w : World) (hn : n ≤ 140737488355328) :
    Calls Tryz.prog 60 #[.slice none 0 0, .int .i64 n] w fun e w' => ∃ v, e = .returned v ∧ (∀ f, Own w' w.heap.size 5 v 0 f) ∧ Below w.heap.size w w' := by
  rcases Nat.eq_zero_or_pos n with rfl | hpos
  · go_enter Tryz.func60, Tryz.ntmps60
    go_wp2
    go_ret
    exact ⟨_, rfl, fun f => Own.nil _ _ _ _, Below.refl _ _⟩
  · have hd0 : decide ((n : Int) < 0) = false := by simp
    have hd1 : decide ((0 : Int) < (n : Int)) = true := by simp; omega
    obtain ⟨cap, w2, hr, ho, hg⟩ := run_grow (P := Tryz.prog) w 33 3 33 5 .i64 .i64 sli_u i64_u u8_info n hpos hn
    have HO := Lib.hid ho
    have HB := Lib.hid (Below.of_grown hg)
    have hup := run_upto sli_u u8_i (some ⟨w.heap.size, 0, none⟩) n cap 0 (Nat.zero_le _)
    clear ho hg
    go_enter Tryz.func60, Tryz.ntmps60
    go_wp2_with (at_builtin; refine Lib.wpList_append_run _ rfl (.tmp 20) (.tmp 21) _ _ rfl _ _ rfl rfl _ _ hr ?_)
    go_ret
    exact ⟨_, rfl, HO.out, HB.out⟩

/- lengths one behind the other, and what stands there -/
def lenL (n : Nat → Nat) : Nat → Nat
  | 0 => 0
  | k + 1 => lenL n k + n k
def catsF (n : Nat → Nat) (b : Nat → Bf) : Nat → Bf
  | 0 => nF
  | k + 1 => catF (lenL n k) (catsF n b k) (b k)
theorem lenL_mono (n : Nat → Nat) {i j : Nat} (h : i ≤ j) : lenL n i ≤ lenL n j := by
  induction j with
  | zero => obtain rfl : i = 0 := by omega
            exact Nat.le_refl _
  | succ j ih =>
    rcases Nat.lt_or_ge i (j + 1) with h1 | h1
    · exact Nat.le_trans (ih (by omega)) (Nat.le_add_right _ _)
    · obtain rfl : i = j + 1 := by omega
      exact Nat.le_refl _

set_option maxHeartbeats 1000000 in
theorem concat_any (N h cap : Nat) (A : Nat → Option Addr) (n c : Nat → Nat) (b : Nat → Bf) (w : World) (hcell : ∀ i, i < N → w.cell? ⟨h, i, none⟩ = some (.slice (A i) (n i) (c i))) (hh : h < w.heap.size)
    (hs : ∀ i, i < N → Sl w w.heap.size (A i) (n i) (c i) (b i)) (hN : N ≤ 1000000) (hT : lenL n N ≤ 140737488355328) :
    Calls Tryz.prog 48 #[.slice (some ⟨h, 0, none⟩) N cap] w fun e w' => ∃ v, e = .returned v ∧ Own w' w.heap.size 5 v (lenL n N) (catsF n b N) ∧ Below w.heap.size w w' := by
  have HC := Lib.hid hcell
  have HS := Lib.hid hs
  clear hcell hs
  go_enter Tryz.func48, Tryz.ntmps48
  go_wp2
  go_loop [3, 11] (fun s i => ∃ k : Nat, k ≤ N ∧ i = .int .i64 k ∧ s = .int .i64 ((lenL n k : Nat) : Int)) (fun _ i => N - (intOf i).toNat)
  case atStart => exact ⟨0, Nat.zero_le _, rfl, rfl⟩
  case round =>
    obtain ⟨k, hk, rfl, rfl⟩ := hrel
    by_cases hlt : k < N
    · have hc := HC.out k hlt
      have hd : decide ((k : Int) < (N : Int)) = true := by simp; omega
      have h1 := lenL_mono n (show k + 1 ≤ N from hlt)
      have h2 : lenL n k + n k = lenL n (k + 1) := rfl
      have h3 : ((lenL n k : Nat) : Int) + ((n k : Nat) : Int) = ((lenL n (k + 1) : Nat) : Int) := by rw [← h2, Int.natCast_add]
      have hd2 : decide (((lenL n (k + 1) : Nat) : Int) < 0) = false := by simp
      clear h2
      go_wp2
      go_roundw
      case rel => exact ⟨k + 1, by omega, by go_num, rfl⟩
      case measure => simp [intOf]; omega
    · obtain rfl : k = N := by omega
      have hd : decide ((k : Int) < (k : Int)) = false := by simp
      go_wp2_with fail
      refine (grow_any _ _ hT).mono ?_
      rintro e w1 ⟨v, rfl, ho, hb⟩
      have HO := Lib.hid (ho nF)
      have HB := Lib.hid hb
      clear ho hb hd
      go_wp2_with fail
      go_loopw [6, 27] (fun s i wr => ∃ j : Nat, j ≤ k ∧ i = .int .i64 j ∧ Own wr w.heap.size 5 s (lenL n j) (catsF n b j) ∧ Below w.heap.size w wr) (fun _ i _ => k - (intOf i).toNat)
      case atStart => exact ⟨0, Nat.zero_le _, rfl, HO.out, HB.out⟩
      case round =>
        clear HO HB
        obtain ⟨j, hj, rfl, ho, hb⟩ := hrel
        have HO := Lib.hid ho
        have HB := Lib.hid hb
        clear ho hb
        by_cases hlt : j < k
        · have hc := HC.out j hlt
          rw [← HB.out.cell (p := ⟨h, j, none⟩) hh] at hc
          have hd : decide ((j : Int) < (k : Int)) = true := by simp; omega
          have h1 := lenL_mono n (show j + 1 ≤ k from hlt)
          have h2 : lenL n j + n j = lenL n (j + 1) := rfl
          have HSJ := Lib.hid ((HS.out j hlt).below HB.out)
          have hsz := HB.out.size
          have HL : lenL n j + n j ≤ 140737488355328 := by omega
          go_wp2_with (at_builtin; refine wpl_appB rfl (.tmp 31) (.tmp 32) rfl sli_u u8_info HO.out HSJ.out HL hsz rfl rfl ?_; intro v' w2 ho hg ht)
          have HO2 := Lib.hid (show Own w2 w.heap.size 5 v' (lenL n (j + 1)) (catsF n b (j + 1)) from ho)
          have HB2 := Lib.hid (HO.out.after hg HB.out hsz (Nat.le_refl _))
          clear ho hg ht
          go_roundw
          case rel => exact ⟨j + 1, by omega, by go_num, HO2.out, HB2.out⟩
          case measure => simp [intOf]; omega
        · obtain rfl : j = k := by omega
          have hd : decide ((j : Int) < (j : Int)) = false := by simp
          go_wp2
          go_ret
          exact ⟨_, rfl, HO.out, HB.out⟩
/-- two slices of bytes one behind the other -/
theorem concat2_any (h cap : Nat) {A0 A1 : Option Addr} {n0 n1 c0 c1 : Nat} {b0 b1 : Bf} (w : World) (hr : row w h = some #[.slice A0 n0 c0, .slice A1 n1 c1]) (h0 : Sl w w.heap.size A0 n0 c0 b0) (h1 : Sl w w.heap.size A1 n1 c1 b1) (hT : n0 + n1 ≤ 140737488355328) :
    Calls Tryz.prog 48 #[.slice (some ⟨h, 0, none⟩) 2 cap] w fun e w' => ∃ v, e = .returned v ∧ Own w' w.heap.size 5 v (n0 + n1) (catF n0 b0 b1) ∧ Below w.heap.size w w' := by
  refine (concat_any 2 h cap (fun i => if i = 0 then A0 else A1) (fun i => if i = 0 then n0 else n1) (fun i => if i = 0 then c0 else c1) (fun i => if i = 0 then b0 else b1) w (fun i hi => ?_) (row_lt hr) (fun i hi => ?_) (by omega) (by simp [lenL]; omega)).mono ?_
  · rw [cell_row hr]
    rcases i with _ | _ | i
    · rfl
    · rfl
    · omega
  · rcases i with _ | _ | i
    · exact h0
    · exact h1
    · omega
  · rintro e w' ⟨v, rfl, ho, hb⟩
    refine ⟨v, rfl, ?_, hb⟩
    have e1 : lenL (fun i => if i = 0 then n0 else n1) 2 = n0 + n1 := by simp [lenL]
    rw [e1] at ho
    refine ho.congr fun i hi => ?_
    simp [catsF, lenL, catF_zero]
/-- three of them -/
theorem concat3_any (h cap : Nat) {A0 A1 A2 : Option Addr} {n0 n1 n2 c0 c1 c2 : Nat} {b0 b1 b2 : Bf} (w : World) (hr : row w h = some #[.slice A0 n0 c0, .slice A1 n1 c1, .slice A2 n2 c2]) (h0 : Sl w w.heap.size A0 n0 c0 b0) (h1 : Sl w w.heap.size A1 n1 c1 b1) (h2 : Sl w w.heap.size A2 n2 c2 b2) (hT : n0 + n1 + n2 ≤ 140737488355328) :
    Calls Tryz.prog 48 #[.slice (some ⟨h, 0, none⟩) 3 cap] w fun e w' => ∃ v, e = .returned v ∧ Own w' w.heap.size 5 v (n0 + n1 + n2) (catF (n0 + n1) (catF n0 b0 b1) b2) ∧ Below w.heap.size w w' := by
  refine (concat_any 3 h cap (fun i => if i = 0 then A0 else if i = 1 then A1 else A2) (fun i => if i = 0 then n0 else if i = 1 then n1 else n2) (fun i => if i = 0 then c0 else if i = 1 then c1 else c2) (fun i => if i = 0 then b0 else if i = 1 then b1 else b2) w (fun i hi => ?_) (row_lt hr) (fun i hi => ?_) (by omega) (by simp [lenL]; omega)).mono ?_
  · rw [cell_row hr]
    rcases i with _ | _ | _ | i
    · rfl
    · rfl
    · rfl
    · omega
  · rcases i with _ | _ | _ | i
    · exact h0
    · exact h1
    · exact h2
    · omega
  · rintro e w' ⟨v, rfl, ho, hb⟩
    refine ⟨v, rfl, ?_, hb⟩
    have e1 : lenL (fun i => if i = 0 then n0 else if i = 1 then n1 else n2) 3 = n0 + n1 + n2 := by simp [lenL]
    rw [e1] at ho
    refine ho.congr fun i hi => ?_
    simp [catsF, lenL, catF_zero]

end Go.Proofs.YtamemjldafoolaaGreat.Oct
