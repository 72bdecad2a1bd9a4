/- Contract: wire.Reply. -/
import Derived.Test.YtfpkfbojckgcdaaWiJ
namespace Go.Proofs.Ytfpkfbojckgcdaa.Oct
open Go.ChangeShapes Go.WideShapes Go.ChangeAt Go.RowKit
set_option linter.unusedVariables false

/-- a reply's three numbers -/
def repN (c n m : Int) : Nat → Int := fun j => if j = 0 then c else if j = 1 then n else m
abbrev repV (c n m : Int) (d : Value) : Value := .agg #[.int .i64 c, .int .i64 n, .int .i64 m, d]
/-- its writing -/
def repL (c n m : Int) (T : Nat) : Nat := nuL (repN c n m) 3 + txL T
def repF (c n m : Int) (T : Nat) (f : Bf) : Bf := catF (nuL (repN c n m) 3) (nuF (repN c n m) 3) (txF T f)
def repE (c n m : Int) (T : Nat) : Nat := fiE (th2 (nuE (repN c n m) 3) (txE T)) 2
set_option maxRecDepth 20000 in
set_option maxHeartbeats 8000000 in
theorem reply_any (x n m : Int) (T c : Nat) (A : Option Addr) (f : Bf) (w : World) (hf : Sl w w.heap.size A T c f) (hb : ∀ j, -9223372036854775808 ≤ repN x n m j ∧ repN x n m j < 9223372036854775808) :
    Calls Try.prog 18 #[repV x n m (.slice A T c)] w (ptP (repE x n m T) 0 (repL x n m T) nF (repF x n m T f) w) := by
  have R0 := Lib.hid (show row (w.alloc (.cells #[.int .i64 x, .int .i64 n, .int .i64 m, .slice A T c] 35)) w.heap.size = some #[.int .i64 x, .int .i64 n, .int .i64 m, .slice A T c] from row_alloc_at _ _ _ _ rfl)
  have B0 := Lib.hid (show Below w.heap.size w (w.alloc (.cells #[.int .i64 x, .int .i64 n, .int .i64 m, .slice A T c] 35)) from (Below.refl _ _).alloc (by simp) _)
  have hz0 : w.heap.size ≤ (w.alloc (.cells #[.int .i64 x, .int .i64 n, .int .i64 m, .slice A T c] 35)).heap.size := by simp
  have HF := Lib.hid ((hf.below B0.out).more hz0)
  have HB := Lib.hid hb
  obtain ⟨E, hE⟩ : ∃ E, E = repE x n m T := ⟨_, rfl⟩
  rw [← hE]
  have HE := Lib.hid hE
  clear hf hb hE
  go_enter Try.func18, Try.ntmps18
  go_wp2_with fail
  refine flow_seen [([0, 1, 2, 3, 4, 5, 8, 9], 6, false), ([], 7, false), ([], 10, true), ([], 11, true), ([], 12, true)] [13, 14, 15, 16] (by kernel_rfl) (by kernel_rfl) (fun _ _ _ _ _ h => h) fun Z => ?_
  have R2 := carry Z.below R0.out
  have B2 := Lib.hid (onto B0.out hz0 Z.below)
  have F2 := Lib.hid ((HF.out.below Z.below).more Z.below.size)
  clear R0 B0 hz0 HF
  obtain ⟨w2, hw2⟩ : ∃ w2, w2 = Z.val := ⟨_, rfl⟩
  rw [← hw2] at R2 B2 F2 ⊢
  clear hw2 Z
  have cc := fun x : After w2 => cells4 (After.row R2 x)
  simp only [wpFs, pk, List.getElem?_cons_zero, List.getElem?_cons_succ]
  repeat (go_big_quiet_step (fail))
  refine wpQuiet_nil ?_
  clear cc R2
  go_wp2_with fail
  have bx := (Below.refl w2.heap.size w2).alloc (Nat.le_refl _) (.cells #[.int .i64 x, .int .i64 n, .int .i64 m] 3)
  refine ⟨.inr bx, ?_⟩
  have r3 : row (w2.alloc (.cells #[.int .i64 x, .int .i64 n, .int .i64 m] 3)) w2.heap.size = some #[.int .i64 x, .int .i64 n, .int .i64 m] := row_alloc_at _ _ _ _ rfl
  have hz3 : (w2.alloc (.cells #[.int .i64 x, .int .i64 n, .int .i64 m] 3)).heap.size = w2.heap.size + 1 := by simp
  have F3 := Lib.hid ((F2.out.below bx).more (by omega : w2.heap.size ≤ (w2.alloc (.cells #[.int .i64 x, .int .i64 n, .int .i64 m] 3)).heap.size))
  have B3 := Lib.hid (onto B2.out B2.out.size bx)
  obtain ⟨w3, hw3⟩ : ∃ w3, w3 = w2.alloc (.cells #[.int .i64 x, .int .i64 n, .int .i64 m] 3) := ⟨_, rfl⟩
  rw [← hw3] at r3 hz3 F3 B3 ⊢
  have H3 := Lib.hid (mknums_any 3 3 (some ⟨w2.heap.size, 0, none⟩) (repN x n m) w3 (slG_row r3 (by omega) (Nat.le_refl _) fun j hj => by
    have : j = 0 ∨ j = 1 ∨ j = 2 := by omega
    rcases this with rfl | rfl | rfl <;> rfl) (fun j _ => HB.out j) (by omega) (by omega))
  clear hw3 bx r3 hz3 F2 B2
  show wpQuiet _ _ _ _ _ _
  refine wpQuiet_nil ?_
  go_wp2_with fail
  refine H3.out.mono ?_
  rintro e w4 ⟨v1, rfl, -, hp1, hb4⟩
  obtain ⟨g1, q1, hv1⟩ := hp1.shape
  subst hv1
  have P1 := Lib.hid hp1
  have F4 := Lib.hid ((F3.out.below hb4).more hb4.size)
  have B4 := Lib.hid (onto B3.out B3.out.size hb4)
  go_wp2_with fail
  refine ⟨.inr hb4, ?_⟩
  clear hp1 hb4 H3 F3 B3
  have H4 := Lib.hid (mktext_any T c A f w4 F4.out)
  show wpQuiet _ _ _ _ _ _
  refine wpQuiet_nil ?_
  go_wp2_with fail
  refine H4.out.mono ?_
  rintro e w6 ⟨v2, rfl, -, hp2, hb6⟩
  obtain ⟨g2, q2, hv2⟩ := hp2.shape
  subst hv2
  have P2 := Lib.hid hp2
  have P1' := Lib.hid (P1.out.below hb6)
  have B6 := Lib.hid (onto B4.out B4.out.size hb6)
  go_wp2_with fail
  refine ⟨.inl trivial, ?_⟩
  clear hp2 hb6 H4 F4 B4 P1
  show wpQuiet _ _ _ _ _ _
  refine wpQuiet_nil ?_
  go_wp2_with fail
  have bx := (Below.refl w6.heap.size w6).alloc (Nat.le_refl _) (.cells #[.func (.func g1) #[] #[q1], .func (.func g2) #[] #[q2]] 54)
  refine ⟨.inl trivial, ?_⟩
  have r7 : row (w6.alloc (.cells #[.func (.func g1) #[] #[q1], .func (.func g2) #[] #[q2]] 54)) w6.heap.size = some #[.func (.func g1) #[] #[q1], .func (.func g2) #[] #[q2]] := row_alloc_at _ _ _ _ rfl
  have hz7 : (w6.alloc (.cells #[.func (.func g1) #[] #[q1], .func (.func g2) #[] #[q2]] 54)).heap.size = w6.heap.size + 1 := by simp
  have P1x := P1'.out.below bx
  have P2x := P2.out.below bx
  have B7 := Lib.hid (onto B6.out B6.out.size bx)
  obtain ⟨w7, hw7⟩ : ∃ w7, w7 = w6.alloc (.cells #[.func (.func g1) #[] #[q1], .func (.func g2) #[] #[q2]] 54) := ⟨_, rfl⟩
  rw [← hw7] at r7 hz7 P1x P2x B7 ⊢
  have hL9 := nuL_le (repN x n m) 3
  have H7 := encode_any 2 2 (some ⟨w6.heap.size, 0, none⟩) (th2 (.func (.func g1) #[] #[q1]) (.func (.func g2) #[] #[q2])) (th2 (nuE (repN x n m) 3) (txE T)) (th2 (nuL (repN x n m) 3) (txL T)) (th2 (nuF (repN x n m) 3) (txF T f)) w7
    (slG_row r7 (by omega) (Nat.le_refl _) fun j hj => by
      have : j = 0 ∨ j = 1 := by omega
      rcases this with rfl | rfl <;> rfl)
    (fun j hj => by
      have : j = 0 ∨ j = 1 := by omega
      rcases this with rfl | rfl
      · exact P1x
      · exact P2x)
    (fun j hj _ => by
      have : j = 0 ∨ j = 1 := by omega
      rcases this with rfl | rfl
      · simp [cuL]
      · rw [cu_th2_1]; omega) (by omega)
  obtain ⟨eL, eF⟩ := cu_th2 (nuL (repN x n m) 3) (txL T) (nuF (repN x n m) 3) (txF T f)
  rw [eL, eF] at H7
  have H7' := Lib.hid (show Calls Try.prog 28 #[.slice (some ⟨w6.heap.size, 0, none⟩) 2 2] w7 (ptP (repE x n m T) 0 (repL x n m T) nF (repF x n m T f) w7) from H7)
  clear hw7 bx r7 hz7 P1x P2x P1' P2 B6 H7 eL eF hL9
  rw [← HE.out] at H7'
  show wpQuiet _ _ _ _ _ _
  refine wpQuiet_nil ?_
  go_wp2_with fail
  refine H7'.out.mono ?_
  rintro e w8 (⟨hz, rfl, hb8⟩ | ⟨hz, v8, rfl, ho, hb8⟩)
  · have HZ := Lib.hid hz
    have B8 := Lib.hid (onto B7.out B7.out.size hb8)
    go_wp2_with fail
    refine ⟨.inl trivial, ?_⟩
    clear hz hb8 H7'
    show wpQuiet _ _ _ _ _ _
    repeat (go_big_quiet_step (fail))
    refine wpQuiet_nil ?_
    go_wp2_with fail
    exact bodyPost_ret (v := .tuple #[.slice none 0 0, .int .i64 E]) (by simp [results, Try.results18, go_sem]) rfl (.inl ⟨HZ.out, rfl, B8.out⟩)
  · have HZ := Lib.hid hz
    have O8 := Lib.hid ho
    have B8 := Lib.hid (onto B7.out B7.out.size hb8)
    go_wp2_with fail
    refine ⟨.inl trivial, ?_⟩
    clear hz ho hb8 H7'
    show wpQuiet _ _ _ _ _ _
    repeat (go_big_quiet_step (fail))
    refine wpQuiet_nil ?_
    go_wp2_with fail
    exact bodyPost_ret (v := .tuple #[v8, .int .i64 0]) (by simp [results, Try.results18, go_sem]) rfl (.inr ⟨HZ.out, _, rfl, O8.out.base B7.out.size, B8.out⟩)
end Go.Proofs.Ytfpkfbojckgcdaa.Oct
