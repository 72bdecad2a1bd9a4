/- Contracts: value; the closures that go through bytes; number, lengthUpTo. -/
import Derived.Test.YtfpkfbojckgcdaaPkC
import Derived.Test.YtfpkfbojckgcdaaLib
namespace Go.Proofs.Ytfpkfbojckgcdaa.Oct
open Go.ChangeShapes Go.WideShapes Go.ChangeAt Go.RowKit
set_option linter.unusedVariables false

/-- a number of 64 bits, as an int -/
def sg (x : Nat) : Int := if x < 9223372036854775808 then (x : Int) else (x : Int) - 18446744073709551616
theorem sg_small {x : Nat} (h : x < 9223372036854775808) : sg x = x := by unfold sg; rw [if_pos h]
theorem sg_bits (x : Nat) (h : x < 18446744073709551616) : (BitVec.ofInt 64 (sg x)).toNat = x := by
  rw [BitVec.toNat_ofInt]; unfold sg; split <;> omega
theorem sg_wrap (x : Nat) (h : x < 18446744073709551616) : IntKind.i64.wrap (x : Int) = sg x := by
  rw [IntKind.wrap_i64]; unfold sg; split <;> omega
theorem or_step (v d : Nat) (hv : v < 72057594037927936) (hd : d < 256) : bits .or .i64 (sg (v * 256)) (d : Int) = sg (v * 256 + d) := by
  show IntKind.i64.wrap ((BitVec.ofInt 64 (sg (v * 256)) ||| BitVec.ofInt 64 (d : Int)).toNat : Int) = _
  rw [BitVec.toNat_or, sg_bits _ (by omega), Bits.ofInt_i64 d (by omega), Nat.mul_comm v 256, show (256 : Nat) = 2 ^ 8 from rfl, ← Nat.two_pow_add_eq_or_of_lt (by omega)]
  exact sg_wrap _ (by omega)

/-- what digits come to, or not -/
def vaE (k : Nat) (d : Bf) : Nat := if 0 < k ∧ d 0 = 0#8 then 80 else if 9223372036854775808 ≤ val d k then 80 else 0

/-- the number, if they come to one -/
def vaV (k : Nat) (d : Bf) : Int := if vaE k d = 0 then (val d k : Int) else 0

set_option maxHeartbeats 2000000 in
theorem value_any (k c B : Nat) (A : Option Addr) (d : Bf) (w : World) (hs : Sl w B A k c d) (hk : k ≤ 8) :
    Calls Try.prog 74 #[.slice A k c] w fun e w' => e = .returned (.tuple #[.int .i64 (vaV k d), .int .i64 (vaE k d : Nat)]) ∧ w = w' := by
  have HS := Lib.hid hs
  by_cases h0 : k = 0
  · subst h0
    have hv : vaV 0 d = 0 := rfl
    have he : vaE 0 d = 0 := rfl
    rw [hv, he]
    have hdd : decide ((0 : Int) < ((0 : Nat) : Int)) = false := by decide
    clear hs hv he
    go_enter Try.func74, Try.ntmps74
    go_wp2_with fail
    refine wp_loop_rounds 1 ?_
    rw [rounds_succ]
    go_wp2_with fail
    exact bodyPost_ret (v := .tuple #[.int .i64 0, .int .i64 0]) (by simp [results, Try.results74, go_sem]) rfl ⟨rfl, rfl⟩
  · have hdd : decide ((0 : Int) < (k : Int)) = true := by simp; omega
    obtain ⟨g, o, rfl, hg, hcl⟩ := hs.at_ (by omega)
    have hc0 := hcl 0 (by omega)
    rw [Nat.add_zero] at hc0
    have HC := Lib.hid hcl
    clear hs hcl
    by_cases hz : d 0 = 0#8
    · have he : vaE k d = 80 := by unfold vaE; rw [if_pos ⟨by omega, hz⟩]
      have hv : vaV k d = 0 := by unfold vaV; rw [he, if_neg (by omega)]
      have hI : I (d 0) = 0 := by rw [hz]; rfl
      rw [hI] at hc0
      rw [hv, he]
      clear hv he
      go_enter Try.func74, Try.ntmps74
      go_wp2_with fail
      exact bodyPost_ret (v := .tuple #[.int .i64 0, .int .i64 80]) (by simp [results, Try.results74, go_sem]) rfl ⟨rfl, rfl⟩
    · have hI : (I (d 0) == 0) = false := by
        unfold I
        have : (d 0).toNat ≠ 0 := fun e => hz (BitVec.eq_of_toNat_eq e)
        simp; omega
      have HE := Lib.hid (show vaE k d = if 9223372036854775808 ≤ val d k then 80 else 0 by unfold vaE; rw [if_neg (fun h => hz h.2)])
      go_enter Try.func74, Try.ntmps74
      go_wp2_with fail
      clear hI hc0 hz
      go_loopw [4, 18] (fun nv iv wr => ∃ j : Nat, j ≤ k ∧ nv = .int .i64 (sg (val d j)) ∧ iv = .int .i64 (j : Int) ∧ wr = w) (fun _ iv _ => k - (intOf iv).toNat)
      case atStart => exact ⟨0, by omega, rfl, rfl, rfl⟩
      case round =>
        obtain ⟨j, hj, rfl, rfl, rfl⟩ := hrel
        by_cases hlt : j < k
        · have hd : decide ((j : Int) < (k : Int)) = true := by simp; omega
          have hcj := HC.out j hlt
          have hv56 := val_u56 d j (by omega)
          have hst := or_step (val d j) (d j).toNat hv56 (d j).isLt
          rw [sg_small (show val d j < 9223372036854775808 by omega)]
          obtain ⟨V, hV⟩ : ∃ V, V = val d j := ⟨_, rfl⟩
          rw [← hV] at hv56 hst ⊢
          obtain ⟨D, hD⟩ : ∃ D, D = d j := ⟨_, rfl⟩
          rw [← hD] at hcj hst
          have HV := Lib.hid (show V * 256 + D.toNat = val d (j + 1) by rw [hV, hD]; rfl)
          clear hV hD
          have hsh : wrap64 ((V : Int) * 256) = sg (V * 256) := by rw [← sg_wrap (V * 256) (by omega), IntWalk.i64_left]; rfl
          have hsd : wrap64 (I D) = (D.toNat : Int) := by obtain ⟨b1, b2⟩ := I_bd D; rw [IntWalk.wrap64_in _ (by omega)]; rfl
          have HR := Lib.hid (show bits BinOp.or IntKind.i64 (wrap64 ((V : Int) * 256)) (wrap64 (I D)) = sg (val d (j + 1)) by rw [hsh, hsd, hst, HV.out])
          clear hsh hsd hst
          go_wp2_with fail
          go_roundw
          case rel => exact ⟨j + 1, by omega, by rw [HR.out], rfl, trivial⟩
          case measure => simp [intOf]; omega
        · have hjk : j = k := by omega
          subst hjk
          have hd : decide ((j : Int) < (j : Int)) = false := by simp
          have h64 := val_u64 d j hk
          by_cases hbig : 9223372036854775808 ≤ val d j
          · have he : vaE j d = 80 := by rw [HE.out, if_pos hbig]
            have hv : vaV j d = 0 := by unfold vaV; rw [he, if_neg (by omega)]
            have HW := Lib.hid (And.intro hv he)
            have hsn : decide (sg (val d j) < 0) = true := by simp only [decide_eq_true_eq]; unfold sg; rw [if_neg (by omega)]; omega
            clear hv he hbig h64
            obtain ⟨S, hS⟩ : ∃ S, S = sg (val d j) := ⟨_, rfl⟩
            rw [← hS] at hsn ⊢
            clear hS
            go_wp2_with fail
            exact bodyPost_ret (v := .tuple #[.int .i64 0, .int .i64 80]) (by simp [results, Try.results74, go_sem]) rfl ⟨by rw [HW.out.1, HW.out.2]; rfl, rfl⟩
          · have he : vaE j d = 0 := by rw [HE.out, if_neg hbig]
            have hv : vaV j d = sg (val d j) := by unfold vaV; rw [he, if_pos rfl, sg_small (by omega)]
            have HW := Lib.hid (And.intro hv he)
            have hsn : decide (sg (val d j) < 0) = false := by simp only [decide_eq_false_iff_not]; rw [sg_small (by omega)]; omega
            clear hv he hbig h64
            obtain ⟨S, hS⟩ : ∃ S, S = sg (val d j) := ⟨_, rfl⟩
            rw [← hS] at hsn ⊢
            have HS2 := Lib.hid hS
            clear hS
            go_wp2_with fail
            exact bodyPost_ret (v := .tuple #[.int .i64 S, .int .i64 0]) (by simp [results, Try.results74, go_sem]) rfl ⟨by rw [HW.out.1, HW.out.2, HS2.out]; rfl, rfl⟩

/-- the closures: what is left lies in block X -/
abbrev clT (X : Nat) : Value := .func (.func 72) #[] #[.pointer (some ⟨X, 0, none⟩)]
abbrev clL (X : Nat) : Value := .func (.func 73) #[] #[.pointer (some ⟨X, 0, none⟩)]
theorem box_cell1 {w : World} {X : Nat} {v : Value} (hr : row w X = some #[v]) : w.cell? ⟨X, 0, none⟩ = some v := by rw [cell_row hr]; rfl

set_option maxHeartbeats 1000000 in
theorem take_short (X n c k : Nat) (A : Option Addr) (w : World) (hr : row w X = some #[.slice A n c]) (hk : n < k) :
    Calls Try.prog 72 #[.int .i64 k, .pointer (some ⟨X, 0, none⟩)] w fun e w' => e = .returned (.tuple #[.slice none 0 0, .int .i64 3]) ∧ w = w' := by
  have hc := box_cell1 hr
  have hd : decide ((n : Int) < (k : Int)) = true := by simp; omega
  clear hr
  go_enter Try.func72, Try.ntmps72
  go_wp2_with fail
  exact bodyPost_ret (v := .tuple #[.slice none 0 0, .int .i64 3]) (by simp [results, Try.results72, go_sem]) rfl ⟨rfl, rfl⟩
set_option maxHeartbeats 1000000 in
theorem take_any (X n c k : Nat) (A : Option Addr) (w : World) (hr : row w X = some #[.slice A n c]) (hk : k ≤ n) (hnc : n ≤ c) :
    Calls Try.prog 72 #[.int .i64 k, .pointer (some ⟨X, 0, none⟩)] w fun e w' => e = .returned (.tuple #[.slice A k c, .int .i64 0]) ∧ w' = w.setRow X #[.slice (cutA A c k) (n - k) (c - k)] := by
  have hc := box_cell1 hr
  have hfz := froz_row hr 0
  have hd : decide ((n : Int) < (k : Int)) = false := by simp; omega
  have hup := run_upto sli_u u8_i A n c k (by omega)
  have hfr := run_from sli_u u8_i A n c k hk
  have HR := Lib.hid hr
  clear hr
  go_enter Try.func72, Try.ntmps72
  go_wp2_with fail
  exact bodyPost_ret (v := .tuple #[.slice A k c, .int .i64 0]) (by simp [results, Try.results72, go_sem]) rfl ⟨rfl, by rw [setCell_row HR.out]; rfl⟩
set_option maxHeartbeats 1000000 in
theorem left_any (X n c : Nat) (A : Option Addr) (f : Bf) (w : World) (hr : row w X = some #[.slice A n c]) (hs : Sl w w.heap.size A n c f) (hn : n ≤ 140737488355328) :
    Calls Try.prog 73 #[.pointer (some ⟨X, 0, none⟩)] w fun e w' => ∃ v, e = .returned v ∧ Own w' w.heap.size 5 v n f ∧ Below w.heap.size w w' := by
  have hc := box_cell1 hr
  have H1 := Lib.hid (clone_any n c A f w hs hn)
  clear hr hs
  go_enter Try.func73, Try.ntmps73
  go_wp2_with fail
  refine H1.out.mono ?_
  rintro e w1 ⟨v1, rfl, ho1, hb1⟩
  have O1 := Lib.hid ho1
  have B1 := Lib.hid hb1
  clear H1 ho1 hb1
  go_wp2_with fail
  go_ret
  exact ⟨_, rfl, O1.out, B1.out⟩
set_option maxHeartbeats 1000000 in
theorem reader_any (n c : Nat) (A : Option Addr) (w : World) :
    Calls Try.prog 67 #[.slice A n c] w fun e w' => e = .returned (.tuple #[clT w.heap.size, clL w.heap.size]) ∧ w' = w.alloc (.cells #[.slice A n c] 22) := by
  go_enter Try.func67, Try.ntmps67
  go_wp2_with fail
  exact bodyPost_ret (v := .tuple #[clT w.heap.size, clL w.heap.size]) (by simp [results, Try.results67, go_sem]) rfl ⟨rfl, rfl⟩

/-- what is left behind a take, as bytes -/
theorem sl_put {w w' : World} {X B n c : Nat} {A : Option Addr} {f : Bf} {z : Array Value} (hp : Put X z w w') (hs : Sl w B A n c f) (hB : B ≤ X) (hX : X < w.heap.size) : Sl w' B A n c f := hp.sl hs (by omega) (hs.off hB)
theorem tk_va {n : Nat} {f : Bf} (h0 : 0 < n) (h8 : (f 0).toNat ≤ 8) (hk : (f 0).toNat < n) : tkE n f = vaE (f 0).toNat (offF f 1) := by
  unfold tkE vaE
  rw [if_neg (by omega), if_neg (by omega), if_neg (by omega)]
  rfl

set_option maxHeartbeats 4000000 in
theorem number_any (X B n c : Nat) (A : Option Addr) (f : Bf) (w : World) (hr : row w X = some #[.slice A n c]) (hs : Sl w B A n c f) (hB : B ≤ X) :
    Calls Try.prog 68 #[clT X] w fun e w' =>
      (tkE n f ≠ 0 ∧ e = .returned (.tuple #[.int .i64 0, .int .i64 (tkE n f : Nat)]) ∧ Below X w w') ∨
      (tkE n f = 0 ∧ e = .returned (.tuple #[.int .i64 (tkV f : Nat), .int .i64 0]) ∧ ∃ A' c', Put X #[.slice A' (n - tkL f) c'] w w' ∧ Sl w' B A' (n - tkL f) c' (offF f (tkL f))) := by
  have hX := row_lt hr
  have HR := Lib.hid hr
  have HS := Lib.hid hs
  have hnc := hs.le
  clear hr hs
  by_cases h0 : n = 0
  · subst h0
    have H1 := take_short X 0 c 1 A w HR.out (by omega)
    rw [show ((1 : Nat) : Int) = 1 from rfl] at H1
    have H1' := Lib.hid H1
    have HE := Lib.hid (show tkE 0 f = 3 from rfl)
    clear H1
    go_enter Try.func68, Try.ntmps68
    go_wp2_with fail
    refine H1'.out.mono ?_
    rintro e w1 ⟨rfl, rfl⟩
    clear H1'
    go_wp2_with fail
    exact bodyPost_ret (v := .tuple #[.int .i64 0, .int .i64 3]) (by simp [results, Try.results68, go_sem]) rfl (.inl ⟨by rw [HE.out]; omega, by rw [HE.out]; rfl, Below.refl _ _⟩)
  · have H1 := take_any X n c 1 A w HR.out (by omega) hnc
    rw [show ((1 : Nat) : Int) = 1 from rfl] at H1
    have H1' := Lib.hid H1
    clear H1
    go_enter Try.func68, Try.ntmps68
    go_wp2_with fail
    refine H1'.out.mono ?_
    rintro e w1 ⟨rfl, hw1⟩
    clear H1'
    have P1 := Lib.hid (show Put X #[.slice (cutA A c 1) (n - 1) (c - 1)] w w1 by rw [hw1]; exact Put.of (Below.refl _ _) hX _)
    clear hw1
    have S1 := Lib.hid (sl_put P1.out HS.out hB hX)
    have R1 := Lib.hid (P1.out.row HR.out)
    have hX1 : X < w1.heap.size := row_lt R1.out
    obtain ⟨g, o, hA, hg, hcl⟩ := S1.out.at_ (by omega)
    have hc0 := hcl 0 (by omega)
    rw [Nat.add_zero] at hc0
    obtain ⟨b0, b1⟩ := I_bd (f 0)
    obtain ⟨F, hF⟩ : ∃ F, F = f 0 := ⟨_, rfl⟩
    rw [← hF] at hc0 b0 b1
    have HF := Lib.hid hF
    have hIF : I F = (F.toNat : Int) := rfl
    clear hcl hF
    by_cases h8 : 8 < F.toNat
    · have hd8 : decide (8 < I F) = true := by simp only [decide_eq_true_eq]; omega
      have HE := Lib.hid (show tkE n f = 80 by unfold tkE; rw [if_neg h0, if_pos (by rw [← HF.out]; exact h8)])
      subst hA
      clear hIF
      go_wp2_with fail
      exact bodyPost_ret (v := .tuple #[.int .i64 0, .int .i64 80]) (by simp [results, Try.results68, go_sem]) rfl (.inl ⟨by rw [HE.out]; omega, by rw [HE.out]; rfl, P1.out.low (Nat.le_refl _) (by omega)⟩)
    · have hd8 : decide (8 < I F) = false := by simp only [decide_eq_false_iff_not]; omega
      have hIK := hIF
      rw [hIF] at hd8 hc0
      subst hA
      clear hIF b0 b1 hIK
      by_cases hk : n ≤ F.toNat
      · have HE := Lib.hid (show tkE n f = 3 by unfold tkE; rw [if_neg h0, if_neg (by rw [← HF.out]; exact h8), if_pos (by rw [← HF.out]; exact hk)])
        have H2 := Lib.hid (take_short X (n - 1) (c - 1) F.toNat _ w1 R1.out (by omega))
        go_wp2_with fail
        refine H2.out.mono ?_
        rintro e w2 ⟨rfl, rfl⟩
        clear H2
        go_wp2_with fail
        exact bodyPost_ret (v := .tuple #[.int .i64 0, .int .i64 3]) (by simp [results, Try.results68, go_sem]) rfl (.inl ⟨by rw [HE.out]; omega, by rw [HE.out]; rfl, P1.out.low (Nat.le_refl _) (by omega)⟩)
      · have H2 := Lib.hid (take_any X (n - 1) (c - 1) F.toNat _ w1 R1.out (by omega) (by omega))
        have L1 := S1.out.from_ 1 (by omega)
        have HE := Lib.hid (show tkE n f = vaE F.toNat (offF f 1) by rw [HF.out]; exact tk_va (by omega) (by rw [← HF.out]; omega) (by rw [← HF.out]; omega))
        have HV := Lib.hid (show tkV f = val (offF f 1) F.toNat by unfold tkV; rw [HF.out])
        have HL := Lib.hid (show tkL f = F.toNat + 1 by unfold tkL; rw [HF.out])
        go_wp2_with fail
        refine H2.out.mono ?_
        rintro e w2 ⟨rfl, hw2⟩
        clear H2
        have P2 := Lib.hid (P1.out.then HR.out (show Put X _ w1 w2 by rw [hw2]; exact Put.of (Below.refl _ _) hX1 _))
        have L2 := Lib.hid (show Sl w2 B _ (n - 1) (c - 1) (offF f 1) from sl_put (show Put X _ w1 w2 by rw [hw2]; exact Put.of (Below.refl _ _) hX1 _) L1 hB hX1)
        have H3 := Lib.hid (value_any F.toNat (c - 1) B _ (offF f 1) w2 (L2.out.upto F.toNat (by omega)) (by omega))
        clear hw2 L1
        go_wp2_with fail
        refine H3.out.mono ?_
        rintro e w3 ⟨rfl, rfl⟩
        clear H3
        have L3 := Lib.hid (L2.out.from_ F.toNat (by omega))
        go_wp2_with fail
        refine bodyPost_ret (v := .tuple #[.int .i64 (vaV F.toNat (offF f 1)), .int .i64 (vaE F.toNat (offF f 1) : Nat)]) (by simp [results, Try.results68, go_sem]) rfl ?_
        by_cases hz : tkE n f = 0
        · have hp2 := P2.out
          have l3 := L3.out
          rw [show n - 1 - F.toNat = n - tkL f by rw [HL.out]; omega] at hp2 l3
          refine .inr ⟨hz, ?_, _, _, hp2, l3.congr fun i hi => ?_⟩
          · rw [HV.out]
            have hz2 := hz
            rw [HE.out] at hz2
            unfold vaV
            rw [hz2, if_pos rfl]
            rfl
          · rw [HL.out]
            unfold offF
            rw [show 1 + (F.toNat + i) = F.toNat + 1 + i by omega]
        · refine .inl ⟨hz, ?_, P2.out.low (Nat.le_refl _) (by omega)⟩
          have hz2 := hz
          rw [HE.out] at hz2
          unfold vaV
          rw [if_neg hz2, HE.out]

/-- the length of what is no longer than m -/
def upP (X B n : Nat) (m : Int) (f : Bf) (w : World) (e : Ending) (w' : World) : Prop :=
  (tkE n f ≠ 0 ∧ e = .returned (.tuple #[.int .i64 0, .int .i64 (tkE n f : Nat)]) ∧ Below X w w') ∨
  (tkE n f = 0 ∧ m < tkV f ∧ e = .returned (.tuple #[.int .i64 0, .int .i64 2]) ∧ Below X w w') ∨
  (tkE n f = 0 ∧ ¬ m < tkV f ∧ e = .returned (.tuple #[.int .i64 (tkV f : Nat), .int .i64 0]) ∧ ∃ A' c', Put X #[.slice A' (n - tkL f) c'] w w' ∧ Sl w' B A' (n - tkL f) c' (offF f (tkL f)))
set_option maxHeartbeats 2000000 in
theorem upto_any (X B n c : Nat) (m : Int) (A : Option Addr) (f : Bf) (w : World) (hr : row w X = some #[.slice A n c]) (hs : Sl w B A n c f) (hB : B ≤ X) :
    Calls Try.prog 69 #[clT X, .int .i64 m] w (upP X B n m f w) := by
  have hX := row_lt hr
  have H1 := Lib.hid (number_any X B n c A f w hr hs hB)
  clear hr hs
  go_enter Try.func69, Try.ntmps69
  go_wp2_with fail
  refine H1.out.mono ?_
  rintro e w1 (⟨hz, rfl, hb⟩ | ⟨hz, rfl, A', c', hp, hs'⟩)
  · have HZ := Lib.hid hz
    have HB := Lib.hid hb
    clear H1 hb hz
    obtain ⟨E, hE⟩ : ∃ E, E = tkE n f := ⟨_, rfl⟩
    have hne : ((E : Int) == 0) = false := by have := HZ.out; rw [← hE] at this; simp; omega
    rw [← hE]
    have HE := Lib.hid hE
    clear hE
    go_wp2_with fail
    exact bodyPost_ret (v := .tuple #[.int .i64 0, .int .i64 E]) (by simp [results, Try.results69, go_sem]) rfl (.inl ⟨HZ.out, by rw [HE.out], HB.out⟩)
  · have hb := hp.low (Nat.le_refl _) (by omega)
    have HP := Lib.hid (And.intro hp hs')
    have HB := Lib.hid hb
    have HZ := Lib.hid hz
    clear H1 hp hs' hb hz
    obtain ⟨V, hV⟩ : ∃ V, V = tkV f := ⟨_, rfl⟩
    rw [← hV]
    have HV := Lib.hid hV
    clear hV
    by_cases hm : m < (V : Int)
    · have hd : decide (m < (V : Int)) = true := by simp; omega
      have HM := Lib.hid (show m < (tkV f : Int) by rw [← HV.out]; exact hm)
      go_wp2_with fail
      exact bodyPost_ret (v := .tuple #[.int .i64 0, .int .i64 2]) (by simp [results, Try.results69, go_sem]) rfl (.inr (.inl ⟨HZ.out, HM.out, rfl, HB.out⟩))
    · have hd : decide (m < (V : Int)) = false := by simp; omega
      have HM := Lib.hid (show ¬ m < (tkV f : Int) by rw [← HV.out]; exact hm)
      go_wp2_with fail
      exact bodyPost_ret (v := .tuple #[.int .i64 V, .int .i64 0]) (by simp [results, Try.results69, go_sem]) rfl (.inr (.inr ⟨HZ.out, Int.not_lt.2 HM.out, by rw [HV.out], A', c', HP.out.1, HP.out.2⟩))
end Go.Proofs.Ytfpkfbojckgcdaa.Oct
