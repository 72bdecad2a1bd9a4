/- Contracts: wire's putters, encode. -/
import Derived.Test.YtfpkfbojckgcdaaWiM
namespace Go.Proofs.Ytfpkfbojckgcdaa.Oct
open Go.ChangeShapes Go.WideShapes Go.ChangeAt Go.RowKit
set_option linter.unusedVariables false

/-- what a putter ends in -/
def ptP (E N L : Nat) (b F : Bf) (w : World) (e : Ending) (w' : World) : Prop :=
  (E ≠ 0 ∧ e = .returned (.tuple #[.slice none 0 0, .int .i64 (E : Nat)]) ∧ Below w.heap.size w w') ∨
  (E = 0 ∧ ∃ v, e = .returned (.tuple #[v, .int .i64 0]) ∧ Own w' w.heap.size 5 v (N + L) (catF N b F) ∧ Below w.heap.size w w')
/-- a function that is entered when it is called -/
def Entr (g : FuncId) : Prop := ∀ (xs : Array Value) (w : World), (callFunc g xs).run Try.prog w = .ok (.enter g xs) w
theorem entr {f : FuncId} {fn : Func} (hf : Try.prog.funcs[f]? = some fn) (hn : (fn.name == "runtime.NumGoroutine") = false) (hb : fn.body.isSome = true) : Entr f := fun xs w => by
  have h1 : fn.name ≠ "runtime.NumGoroutine" := by simpa using hn
  obtain ⟨c, hc⟩ := Option.isSome_iff_exists.1 hb
  simp [callFunc, hf, h1, hc]
/-- v is a putter, from w on -/
def Puts (W : World) (v : Value) (E L : Nat) (F : Bf) : Prop := ∃ g p, v = .func (.func g) #[] #[p] ∧ Entr g ∧
  ∀ w, Below W.heap.size W w → ∀ N c A b, Sl w w.heap.size A N c b → N ≤ 100000000000000 → Calls Try.prog g #[.slice A N c, p] w (ptP E N L b F w)
theorem Puts.shape {W : World} {v : Value} {E L : Nat} {F : Bf} (h : Puts W v E L F) : ∃ g p, v = .func (.func g) #[] #[p] := by
  obtain ⟨g, p, h, _⟩ := h
  exact ⟨g, p, h⟩
theorem Puts.below {W W' : World} {v : Value} {E L : Nat} {F : Bf} (h : Puts W v E L F) (hb : Below W.heap.size W W') : Puts W' v E L F := by
  obtain ⟨g, p, rfl, he, hc⟩ := h
  exact ⟨g, p, rfl, he, fun w hw => hc w (onto hb hb.size hw)⟩

set_option maxHeartbeats 4000000 in
theorem encode_any (cnt c : Nat) (AP : Option Addr) (V : Nat → Value) (E L : Nat → Nat) (F : Nat → Bf) (w : World) (hs : SlG w w.heap.size AP cnt c V) (hp : ∀ j, j < cnt → Puts w (V j) (E j) (L j) (F j))
    (hL : ∀ j, j < cnt → fiE E j = 0 → cuL L j ≤ 100000000000000) (hcnt : cnt ≤ 100) :
    Calls Try.prog 28 #[.slice AP cnt c] w (ptP (fiE E cnt) 0 (cuL L cnt) nF (cuF L F cnt) w) := by
  have HS := Lib.hid hs
  have HP := Lib.hid hp
  have HL := Lib.hid hL
  clear hs hp hL
  go_enter Try.func28, Try.ntmps28
  go_wp2_with fail
  go_loopw [4, 11] (fun bv iv wr => ∃ j : Nat, j ≤ cnt ∧ iv = .int .i64 (j : Int) ∧ fiE E j = 0 ∧ Own wr w.heap.size 5 bv (cuL L j) (cuF L F j) ∧ Below w.heap.size w wr) (fun _ iv _ => cnt - (intOf iv).toNat)
  case atStart => exact ⟨0, by omega, rfl, rfl, Own.nil _ _ _ _, Below.refl _ _⟩
  case round =>
    obtain ⟨j, hj, rfl, hf, ho, hb⟩ := hrel
    obtain ⟨wo, rfl⟩ : ∃ wo : World, wo = wr := ⟨_, rfl⟩
    have HF := Lib.hid hf
    have HO := Lib.hid ho
    have HB := Lib.hid hb
    obtain ⟨A, cb, hv, hsl, -, -⟩ := ho.sl
    subst hv
    have HSL := Lib.hid hsl
    clear hf ho hb hsl
    by_cases hlt : j < cnt
    · have hd : decide ((j : Int) < (cnt : Int)) = true := by simp; omega
      obtain ⟨g0, o0, hA, hg, hcl⟩ := (HS.out.below HB.out).at_ (by omega)
      have hc0 := hcl j hlt
      subst hA
      obtain ⟨g, p, hV, hen, hcall⟩ := HP.out j hlt
      unfold Entr at hen
      have HC := Lib.hid (hcall wo HB.out (cuL L j) cb A (cuF L F j) HSL.out (HL.out j hlt HF.out))
      rw [hV] at hc0
      clear hcl hcall hV
      go_wp2_with fail
      refine HC.out.mono ?_
      rintro e w2 (⟨hz, rfl, hb⟩ | ⟨hz, v2, rfl, ho, hb⟩)
      · have HE := Lib.hid (show fiE E cnt = E j from fi_first HF.out hlt hz)
        have HZ := Lib.hid hz
        have B2 := Lib.hid (onto HB.out HB.out.size hb)
        obtain ⟨Y, hY⟩ : ∃ Y, Y = E j := ⟨_, rfl⟩
        have hne : ((Y : Int) != 0) = true := by have := HZ.out; rw [← hY] at this; simp; omega
        have hne2 : ((Y : Int) == 0) = false := by have := HZ.out; rw [← hY] at this; simp; omega
        rw [← hY]
        have HY := Lib.hid hY
        clear hz hb HC hY hc0 hen
        go_wp2_with fail
        exact bodyPost_ret (v := .tuple #[.slice none 0 0, .int .i64 Y]) (by simp [results, Try.results28, go_sem]) rfl (.inl ⟨by rw [HE.out]; exact HZ.out, by rw [HE.out, HY.out], B2.out⟩)
      · have HF2 := Lib.hid (show fiE E (j + 1) = 0 by rw [fi_step HF.out]; exact hz)
        have O2 := Lib.hid (show Own w2 w.heap.size 5 v2 (cuL L (j + 1)) (cuF L F (j + 1)) from ho.base HB.out.size)
        have B2 := Lib.hid (onto HB.out HB.out.size hb)
        clear hz ho hb HC hc0 hen HO HSL HB
        go_wp2_with fail
        go_roundw
        case rel => exact ⟨j + 1, by omega, rfl, HF2.out, O2.out, B2.out⟩
        case measure => simp [intOf]; omega
    · have hd : decide ((j : Int) < (cnt : Int)) = false := by simp; omega
      have hjn : j = cnt := by omega
      subst hjn
      go_wp2_with fail
      exact bodyPost_ret (v := .tuple #[.slice A (cuL L j) cb, .int .i64 0]) (by simp [results, Try.results28, go_sem]) rfl (.inr ⟨HF.out, _, rfl, by rw [Nat.zero_add, catF_zero]; exact HO.out, HB.out⟩)
end Go.Proofs.Ytfpkfbojckgcdaa.Oct
