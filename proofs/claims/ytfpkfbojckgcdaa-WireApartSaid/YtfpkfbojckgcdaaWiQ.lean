/- Contracts: wire's decode, decodeWhole; those that make takers. -/
import Derived.Test.YtfpkfbojckgcdaaWiP
import Derived.Test.YtfpkfbojckgcdaaWiF
namespace Go.Proofs.Ytfpkfbojckgcdaa.Oct
open Go.ChangeShapes Go.WideShapes Go.ChangeAt Go.RowKit
set_option linter.unusedVariables false

/-- what decode ends in -/
def dcP (cnt n : Nat) (f : Bf) (E off : Nat → Nat) (I : Nat → World → Prop) (J : World → Prop) (Z : Nat → Option Addr → Prop) (e : Ending) (w' : World) : Prop :=
  (fiE E cnt ≠ 0 ∧ e = .returned (.tuple #[.slice none 0 0, .int .i64 (fiE E cnt : Nat)]) ∧ J w') ∨
  (fiE E cnt = 0 ∧ ∃ A c, e = .returned (.tuple #[.slice A (n - off cnt) c, .int .i64 0]) ∧ Sl w' w'.heap.size A (n - off cnt) c (offF f (off cnt)) ∧ Z (n - off cnt) A ∧ I cnt w')
/-- what a part's taker ends in -/
def tkrP (n : Nat) (f : Bf) (E o1 : Nat) (I : World → Prop) (J : World → Prop) (Z : Nat → Option Addr → Prop) (e : Ending) (w' : World) : Prop :=
  (E ≠ 0 ∧ (∃ v, e = .returned (.tuple #[v, .int .i64 (E : Nat)])) ∧ J w') ∨
  (E = 0 ∧ ∃ A c, e = .returned (.tuple #[.slice A (n - o1) c, .int .i64 0]) ∧ Sl w' w'.heap.size A (n - o1) c (offF f o1) ∧ Z (n - o1) A ∧ I w')
/-- v takes a part, from off to o1, in any world of the class I -/
def Takes (v : Value) (n : Nat) (f : Bf) (E o0 o1 : Nat) (I I' : World → Prop) (J : World → Prop) (Z : Nat → Option Addr → Prop) : Prop := ∃ g p, v = .func (.func g) #[] #[p] ∧ Entr g ∧
  ∀ w A c, I w → Sl w w.heap.size A (n - o0) c (offF f o0) → Z (n - o0) A → Calls Try.prog g #[.slice A (n - o0) c, p] w (tkrP n f E o1 I' J Z)
set_option maxHeartbeats 4000000 in
theorem decode_any (cnt n c cP : Nat) (A AP : Option Addr) (V : Nat → Value) (f : Bf) (E off : Nat → Nat) (I : Nat → World → Prop) (J : World → Prop) (Z : Nat → Option Addr → Prop) (w : World) (h0 : off 0 = 0)
    (hI : I 0 w) (hs : Sl w w.heap.size A n c f) (hZ : Z n A) (hP : ∀ j w', I j w' → SlG w' w'.heap.size AP cnt cP V) (hT : ∀ j, j < cnt → Takes (V j) n f (E j) (off j) (off (j + 1)) (I j) (I (j + 1)) J Z) (hcnt : cnt ≤ 100) :
    Calls Try.prog 43 #[.slice A n c, .slice AP cnt cP] w (dcP cnt n f E off I J Z) := by
  have HP := Lib.hid hP
  have HT := Lib.hid hT
  have HI := Lib.hid hI
  have HS := Lib.hid hs
  have HZ := Lib.hid hZ
  have H0 := Lib.hid h0
  clear hP hT hI hs hZ h0
  go_enter Try.func43, Try.ntmps43
  go_wp2_with fail
  go_loopw [4, 11] (fun rv iv wr => ∃ j : Nat, j ≤ cnt ∧ iv = .int .i64 (j : Int) ∧ fiE E j = 0 ∧ I j wr ∧ ∃ A' c', rv = .slice A' (n - off j) c' ∧ Sl wr wr.heap.size A' (n - off j) c' (offF f (off j)) ∧ Z (n - off j) A') (fun _ iv _ => cnt - (intOf iv).toNat)
  case atStart => exact ⟨0, by omega, rfl, rfl, HI.out, A, c, by rw [H0.out]; rfl, by rw [H0.out, Nat.sub_zero, offF_zero]; exact HS.out, by rw [H0.out]; exact HZ.out⟩
  case round =>
    clear HS HI HZ
    obtain ⟨j, hj, rfl, hf, hi, A', c', rfl, hsl, hz⟩ := hrel
    obtain ⟨wo, rfl⟩ : ∃ wo : World, wo = wr := ⟨_, rfl⟩
    have HF := Lib.hid hf
    have HI := Lib.hid hi
    have HSL := Lib.hid hsl
    have HZ := Lib.hid hz
    clear hf hi hsl hz
    by_cases hlt : j < cnt
    · have hd : decide ((j : Int) < (cnt : Int)) = true := by simp; omega
      obtain ⟨g0, o0, hA, hg, hcl⟩ := (HP.out j wo HI.out).at_ (by omega)
      have hc0 := hcl j hlt
      subst hA
      obtain ⟨g, p, hV, hen, hcall⟩ := HT.out j hlt
      unfold Entr at hen
      have HC := Lib.hid (hcall wo A' c' HI.out HSL.out HZ.out)
      rw [hV] at hc0
      clear hcl hcall hV
      go_wp2_with fail
      refine HC.out.mono ?_
      rintro e w2 (⟨hz, ⟨v2, rfl⟩, hJ⟩ | ⟨hz, A2, c2, rfl, hs2, hz2, hI2⟩)
      · have HE := Lib.hid (show fiE E cnt = E j from fi_first HF.out hlt hz)
        have HZ2 := Lib.hid hz
        have HJ := Lib.hid hJ
        obtain ⟨Y, hY⟩ : ∃ Y, Y = E j := ⟨_, rfl⟩
        have hne : ((Y : Int) != 0) = true := by have := HZ2.out; rw [← hY] at this; simp; omega
        rw [← hY]
        have HY := Lib.hid hY
        clear hz hJ HC hY hc0 hen
        go_wp2_with fail
        exact bodyPost_ret (v := .tuple #[.slice none 0 0, .int .i64 Y]) (by simp [results, Try.results43, go_sem]) rfl (.inl ⟨by rw [HE.out]; exact HZ2.out, by rw [HE.out, HY.out], HJ.out⟩)
      · have HF2 := Lib.hid (show fiE E (j + 1) = 0 by rw [fi_step HF.out]; exact hz)
        have S2 := Lib.hid hs2
        have Z2 := Lib.hid hz2
        have I2 := Lib.hid hI2
        clear hz hs2 hz2 hI2 HC hc0 hen HSL HZ HI
        go_wp2_with fail
        go_roundw
        case rel => exact ⟨j + 1, by omega, rfl, HF2.out, I2.out, _, _, rfl, S2.out, Z2.out⟩
        case measure => simp [intOf]; omega
    · have hd : decide ((j : Int) < (cnt : Int)) = false := by simp; omega
      have hjn : j = cnt := by omega
      subst hjn
      go_wp2_with fail
      exact bodyPost_ret (v := .tuple #[.slice A' (n - off j) c', .int .i64 0]) (by simp [results, Try.results43, go_sem]) rfl (.inr ⟨HF.out, _, _, rfl, HSL.out, HZ.out, HI.out⟩)
/-- what decodeWhole ends in -/
def dwP (cnt n : Nat) (E off : Nat → Nat) (I : Nat → World → Prop) (J : World → Prop) (e : Ending) (w' : World) : Prop :=
  (fiE E cnt ≠ 0 ∧ e = .returned (.bool false) ∧ J w') ∨ (fiE E cnt = 0 ∧ n - off cnt ≠ 0 ∧ e = .returned (.bool false) ∧ I cnt w') ∨ (fiE E cnt = 0 ∧ n - off cnt = 0 ∧ e = .returned (.bool true) ∧ I cnt w')
set_option maxHeartbeats 4000000 in
theorem decodeW_any (cnt n c cP : Nat) (A AP : Option Addr) (V : Nat → Value) (f : Bf) (E off : Nat → Nat) (I : Nat → World → Prop) (J : World → Prop) (Z : Nat → Option Addr → Prop) (w : World) (h0 : off 0 = 0)
    (hI : I 0 w) (hs : Sl w w.heap.size A n c f) (hZ : Z n A) (hP : ∀ j w', I j w' → SlG w' w'.heap.size AP cnt cP V) (hT : ∀ j, j < cnt → Takes (V j) n f (E j) (off j) (off (j + 1)) (I j) (I (j + 1)) J Z) (hcnt : cnt ≤ 100) :
    Calls Try.prog 33 #[.slice A n c, .slice AP cnt cP] w (dwP cnt n E off I J) := by
  have H1 := Lib.hid (decode_any cnt n c cP A AP V f E off I J Z w h0 hI hs hZ hP hT hcnt)
  clear h0 hI hs hZ hP hT hcnt
  go_enter Try.func33, Try.ntmps33
  go_wp2_with fail
  refine H1.out.mono ?_
  rintro e w1 (⟨hz, rfl, hJ⟩ | ⟨hz, A2, c2, rfl, hs2, hz2, hI2⟩)
  · have HZ := Lib.hid hz
    have HJ := Lib.hid hJ
    obtain ⟨Y, hY⟩ : ∃ Y, Y = fiE E cnt := ⟨_, rfl⟩
    have hne : ((Y : Int) == 0) = false := by have := HZ.out; rw [← hY] at this; simp; omega
    rw [← hY]
    clear hz hJ H1 hY
    go_wp2_with fail
    go_ret
    exact .inl ⟨HZ.out, rfl, HJ.out⟩
  · have HZ := Lib.hid hz
    have HI := Lib.hid hI2
    by_cases hr : n - off cnt = 0
    · have HR := Lib.hid hr
      have hd : (((n - off cnt : Nat) : Int) == 0) = true := by simp; omega
      obtain ⟨M, hM⟩ : ∃ M, M = n - off cnt := ⟨_, rfl⟩
      rw [← hM] at hd ⊢
      clear hz hI2 H1 hs2 hz2 hr hM
      go_wp2_with fail
      go_ret
      exact .inr (.inr ⟨HZ.out, HR.out, rfl, HI.out⟩)
    · have HR := Lib.hid hr
      have hd : (((n - off cnt : Nat) : Int) == 0) = false := by simp; omega
      obtain ⟨M, hM⟩ : ∃ M, M = n - off cnt := ⟨_, rfl⟩
      rw [← hM] at hd ⊢
      clear hz hI2 H1 hs2 hz2 hr hM
      go_wp2_with fail
      go_ret
      exact .inr (.inl ⟨HZ.out, HR.out, rfl, HI.out⟩)
theorem mknto_any (cnt cz : Nat) (AZ : Option Addr) (w : World) :
    Calls Try.prog 34 #[.slice AZ cnt cz] w fun e w' => e = .returned (.func (.func 54) #[] #[.pointer (some ⟨w.heap.size, 0, none⟩)]) ∧ w' = w.alloc (.cells #[.slice AZ cnt cz] 90) := by
  go_enter Try.func34, Try.ntmps34
  go_wp2_with fail
  go_ret
  exact ⟨rfl, rfl⟩
theorem mktto_any (G O : Nat) (w : World) :
    Calls Try.prog 35 #[.pointer (some ⟨G, O, none⟩)] w fun e w' => e = .returned (.func (.func 56) #[] #[.pointer (some ⟨w.heap.size, 0, none⟩)]) ∧ w' = w.alloc (.cells #[.pointer (some ⟨G, O, none⟩)] 64) := by
  go_enter Try.func35, Try.ntmps35
  go_wp2_with fail
  go_ret
  exact ⟨rfl, rfl⟩
theorem mklto_any (G O : Nat) (w : World) :
    Calls Try.prog 47 #[.pointer (some ⟨G, O, none⟩)] w fun e w' => e = .returned (.func (.func 63) #[] #[.pointer (some ⟨w.heap.size, 0, none⟩)]) ∧ w' = w.alloc (.cells #[.pointer (some ⟨G, O, none⟩)] 84) := by
  go_enter Try.func47, Try.ntmps47
  go_wp2_with fail
  go_ret
  exact ⟨rfl, rfl⟩
end Go.Proofs.Ytfpkfbojckgcdaa.Oct
