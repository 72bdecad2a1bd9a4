/- The document's examples at the head of each statement. -/
import Derived.Test.YtbdnokccipoibaaPkH
import Derived.Test.YtbdnokccipoibaaPkD
namespace Go.Proofs.Ytbdnokccipoibaa.Oct
open Go.ChangeShapes Go.WideShapes Go.ChangeAt Go.RowKit
set_option linter.unusedVariables false

def litF (l : List (BitVec 8)) : Bf := fun i => l.getD i 0#8
theorem str_lit {n : Nat} {f : Bf} {l : List UInt8} (h : ((List.range n).map fun i => UInt8.ofNat (f i).toNat) = l) : strOf n f = ⟨l.toArray⟩ := by unfold strOf; rw [h]
theorem taP.bad {n : Nat} {f : Bf} {w : World} {e : Ending} {w' : World} (h : taP n f w e w') {E : Nat} (hE : tkE n f = E) (h0 : E ≠ 0) : e = .returned (.tuple #[.int .i64 0, .slice none 0 0, .int .i64 E]) ∧ Below w.heap.size w w' := by
  rcases h with ⟨_, h2, h3⟩ | ⟨h1, _⟩
  · rw [hE] at h2; exact ⟨h2, h3⟩
  · rw [hE] at h1; exact absurd h1 h0
theorem taP.ok {n : Nat} {f : Bf} {w : World} {e : Ending} {w' : World} (h : taP n f w e w') (hE : tkE n f = 0) : ∃ v, e = .returned (.tuple #[.int .i64 (tkV f : Nat), v, .int .i64 0]) ∧ Own w' w.heap.size 5 v (n - tkL f) (offF f (tkL f)) ∧ Below w.heap.size w w' := by
  rcases h with ⟨h1, _⟩ | ⟨_, h⟩
  · exact absurd hE h1
  · exact h
theorem ttP.bad {n : Nat} {m : Int} {f : Bf} {w : World} {e : Ending} {w' : World} (h : ttP n m f w e w') {E : Nat} (hE : ttE n m f = E) (h0 : E ≠ 0) : e = .returned (.tuple #[.slice none 0 0, .slice none 0 0, .int .i64 E]) ∧ Below w.heap.size w w' := by
  rcases h with ⟨_, h2, h3⟩ | ⟨h1, _⟩
  · rw [hE] at h2; exact ⟨h2, h3⟩
  · rw [hE] at h1; exact absurd h1 h0
theorem ttP.ok {n : Nat} {m : Int} {f : Bf} {w : World} {e : Ending} {w' : World} (h : ttP n m f w e w') (hE : ttE n m f = 0) : ∃ u v, e = .returned (.tuple #[u, v, .int .i64 0]) ∧ Own w' w.heap.size 5 u (tkV f) (offF f (tkL f)) ∧ Own w' w.heap.size 5 v (n - tkL f - tkV f) (offF f (tkL f + tkV f)) ∧ Below w.heap.size w w' := by
  rcases h with ⟨h1, _⟩ | ⟨_, h⟩
  · exact absurd hE h1
  · exact h
theorem tllP.bad {n : Nat} {m : Int} {f : Bf} {w : World} {e : Ending} {w' : World} (h : tllP n m f w e w') {E : Nat} (hE : tllE n m f = E) (h0 : E ≠ 0) : e = .returned (.tuple #[.slice none 0 0, .slice none 0 0, .int .i64 E]) ∧ Below w.heap.size w w' := by
  rcases h with ⟨_, h2, h3⟩ | ⟨h1, _⟩
  · rw [hE] at h2; exact ⟨h2, h3⟩
  · rw [hE] at h1; exact absurd h1 h0
theorem tllP.ok {n : Nat} {m : Int} {f : Bf} {w : World} {e : Ending} {w' : World} (h : tllP n m f w e w') (hE : tllE n m f = 0) : ∃ A c v, e = .returned (.tuple #[.slice A (tkV f) c, v, .int .i64 0]) ∧ SlG w' w'.heap.size A (tkV f) c (iV fun i => tlX f i) ∧ c ≤ maxLen ∧ Own w' w.heap.size 5 v (n - tlO f (tkV f)) (offF f (tlO f (tkV f))) ∧ Below w.heap.size w w' := by
  rcases h with ⟨h1, _⟩ | ⟨_, h⟩
  · exact absurd hE h1
  · exact h
theorem conv_own {w : World} {b n : Nat} {v : Value} {f : Bf} (h : Own w b 5 v n f) : (convert 22 9 v).run Try.prog w = .ok (.string (strOf n f)) w := by
  obtain ⟨A, c, rfl, hs, _, _⟩ := h.sl
  exact run_str sli_u u8_u str_u hs
theorem wf_bd {x : Int} (h : (Lit.int .i64 x).wf = true) : -9223372036854775808 ≤ x ∧ x < 9223372036854775808 := by
  simp only [Lit.wf, IntKind.min, IntKind.max, IntKind.signed, IntKind.bits, Bool.and_eq_true, decide_eq_true_eq, if_true] at h
  omega
/-- put behind nothing -/
theorem put_nil (n : Nat) (w : World) (hn : n < 9223372036854775808) :
    Calls Try.prog 11 #[.slice none 0 0, .int .i64 n] w fun e w' => ∃ v, e = .returned (.tuple #[v, .int .i64 0]) ∧ Own w' w.heap.size 5 v (encL n) (encF n) ∧ Below w.heap.size w w' := by
  refine (put_any n 0 0 none nF w (Sl.nothing _ _ _ _ _) (by omega) hn).mono ?_
  rintro e w' ⟨v, rfl, ho, hb⟩
  rw [Nat.zero_add, catF_zero] at ho
  exact ⟨v, rfl, ho, hb⟩
theorem putt_nil (T c1 : Nat) (A1 : Option Addr) (t : Bf) (w : World) (ht : Sl w w.heap.size A1 T c1 t) (hT : T ≤ 4096) :
    Calls Try.prog 15 #[.slice none 0 0, .slice A1 T c1] w fun e w' => ∃ v, e = .returned (.tuple #[v, .int .i64 0]) ∧ Own w' w.heap.size 5 v (txL T) (txF T t) ∧ Below w.heap.size w w' := by
  refine (putt_any 0 0 T c1 none A1 nF t w (Sl.nothing _ _ _ _ _) ht (by omega) hT).mono ?_
  rintro e w' ⟨v, rfl, ho, hb⟩
  rw [Nat.zero_add, catF_zero] at ho
  exact ⟨v, rfl, ho, hb⟩
theorem putl_nil (n c1 : Nat) (A1 : Option Addr) (x : Nat → Int) (w : World) (hl : SlG w w.heap.size A1 n c1 (iV x)) (hx : ∀ i, i < n → -9223372036854775808 ≤ x i ∧ x i < 9223372036854775808) (hn : n ≤ 4096) :
    Calls Try.prog 20 #[.slice none 0 0, .slice A1 n c1] w fun e w' =>
      (negs x n ∧ e = .returned (.tuple #[.slice none 0 0, .int .i64 1]) ∧ Below w.heap.size w w') ∨
      ((∀ i, i < n → 0 ≤ x i) ∧ ∃ v, e = .returned (.tuple #[v, .int .i64 0]) ∧ Own w' w.heap.size 5 v (lsL (natS x) n n) (lsF (natS x) n n) ∧ Below w.heap.size w w') := by
  refine (putl_any 0 0 n c1 none A1 nF x w (Sl.nothing _ _ _ _ _) hl hx (by omega) hn).mono ?_
  rintro e w' (h | ⟨h1, v, rfl, ho, hb⟩)
  · exact .inl h
  · rw [Nat.zero_add, catF_zero] at ho
    exact .inr ⟨h1, v, rfl, ho, hb⟩

theorem l4_lit : (#[.int .u8 2, .int .u8 1, .int .u8 0, .int .u8 97] : Array Value) = ba 4 (litF [2#8, 1#8, 0#8, 97#8]) := by unfold ba; kernel_rfl
theorem l2_lit : (#[.int .u8 1, .int .u8 0] : Array Value) = ba 2 (litF [1#8, 0#8]) := by unfold ba; kernel_rfl
theorem l1_lit : (#[.int .u8 9] : Array Value) = ba 1 (litF [9#8]) := by unfold ba; kernel_rfl
theorem k2_lit : (#[.int .u8 2, .int .u8 1] : Array Value) = ba 2 (litF [2#8, 1#8]) := by unfold ba; kernel_rfl
theorem ab_lit : (#[.int .u8 97, .int .u8 98] : Array Value) = ba 2 (litF [97#8, 98#8]) := by unfold ba; kernel_rfl
theorem l3_lit : (#[.int .u8 1, .int .u8 2, .int .u8 97] : Array Value) = ba 3 (litF [1#8, 2#8, 97#8]) := by unfold ba; kernel_rfl
theorem m3_lit : (#[.int .i64 0, .int .i64 5] : Array Value) = #[iV (fun i => if i = 0 then 0 else 5) 0, iV (fun i => if i = 0 then 0 else 5) 1] := by kernel_rfl

set_option maxRecDepth 20000 in
set_option maxHeartbeats 4000000 in
theorem shown_any (w : World) :
    Calls Try.prog 10 #[] w fun e w' => e = .returned (.bool true) ∧ Below w.heap.size w w' := by
  have H1 := put_nil 0 w (by omega)
  rw [show ((0 : Nat) : Int) = 0 from rfl] at H1
  go_enter Try.func10, Try.ntmps10
  go_wp2_with fail
  refine H1.mono ?_
  rintro e w1 ⟨v1, rfl, ho1, hb1⟩
  have B1 := Lib.hid hb1
  have Oa := Lib.hid ho1
  clear H1 ho1 hb1
  have H2 := put_nil 256 w1 (by omega)
  rw [show ((256 : Nat) : Int) = 256 from rfl] at H2
  have H2' := Lib.hid H2
  clear H2
  go_wp2_with fail
  refine H2'.out.mono ?_
  rintro e w2 ⟨v2, rfl, ho2, hb2⟩
  have Ob := Lib.hid ho2
  have Oa' := Lib.hid (Oa.out.below hb2 (Nat.le_refl _))
  clear Oa
  have B2 := Lib.hid (onto B1.out B1.out.size hb2)
  clear ho2 hb2 H2' B1
  have H3 := Lib.hid (put_neg (-1) 0 0 none w2 (by omega))
  go_wp2_with fail
  refine H3.out.mono ?_
  rintro e w3 ⟨rfl, rfl⟩
  clear H3
  obtain ⟨x3, hx3⟩ : ∃ x3, x3 = w2.alloc (.cells #[.int .u8 2, .int .u8 1, .int .u8 0, .int .u8 97] 5) := ⟨_, rfl⟩
  have hb3 : Below w2.heap.size w2 x3 := by rw [hx3]; exact (Below.refl _ _).alloc (Nat.le_refl _) _
  have s3 : Sl x3 x3.heap.size (some ⟨w2.heap.size, 0, none⟩) 4 4 (litF [2#8, 1#8, 0#8, 97#8]) := by rw [hx3, l4_lit]; exact Sl.of_row (row_alloc_at _ _ _ _ rfl) _ (by simp)
  have Oa'' := Lib.hid (Oa'.out.below hb3 (Nat.le_refl _))
  have Ob' := Lib.hid (Ob.out.below hb3 (Nat.le_refl _))
  clear Oa' Ob
  have B3 := Lib.hid (onto B2.out B2.out.size hb3)
  have H3 := Lib.hid (take_num 4 4 _ (litF [2#8, 1#8, 0#8, 97#8]) x3 s3 (by omega))
  clear hb3 s3 B2
  go_wp2_with fail
  rw [← hx3]
  clear hx3
  refine H3.out.mono ?_
  intro e w4 h3
  obtain ⟨v3, rfl, ho3, hb4⟩ := h3.ok (by decide +kernel)
  rw [show tkV (litF [2#8, 1#8, 0#8, 97#8]) = 256 by decide +kernel, show ((256 : Nat) : Int) = 256 from rfl]
  rw [show 4 - tkL (litF [2#8, 1#8, 0#8, 97#8]) = 1 by decide +kernel, show tkL (litF [2#8, 1#8, 0#8, 97#8]) = 3 by decide +kernel] at ho3
  have Oc := Lib.hid ho3
  have Oa''' := Lib.hid (Oa''.out.below hb4 (Nat.le_refl _))
  have Ob'' := Lib.hid (Ob'.out.below hb4 (Nat.le_refl _))
  clear Oa'' Ob'
  have B4 := Lib.hid (onto B3.out B3.out.size hb4)
  clear ho3 hb4 H3 h3 B3
  obtain ⟨x5, hx5⟩ : ∃ x5, x5 = w4.alloc (.cells #[.int .u8 1, .int .u8 0] 5) := ⟨_, rfl⟩
  have hb5 : Below w4.heap.size w4 x5 := by rw [hx5]; exact (Below.refl _ _).alloc (Nat.le_refl _) _
  have s5 : Sl x5 x5.heap.size (some ⟨w4.heap.size, 0, none⟩) 2 2 (litF [1#8, 0#8]) := by rw [hx5, l2_lit]; exact Sl.of_row (row_alloc_at _ _ _ _ rfl) _ (by simp)
  have Oa'''' := Lib.hid (Oa'''.out.below hb5 (Nat.le_refl _))
  have Ob''' := Lib.hid (Ob''.out.below hb5 (Nat.le_refl _))
  have Oc' := Lib.hid (Oc.out.below hb5 (Nat.le_refl _))
  clear Oa''' Ob'' Oc
  have B5 := Lib.hid (onto B4.out B4.out.size hb5)
  have H5 := Lib.hid (take_num 2 2 _ (litF [1#8, 0#8]) x5 s5 (by omega))
  clear hb5 s5 B4
  go_wp2_with fail
  rw [← hx5]
  clear hx5
  refine H5.out.mono ?_
  intro e w6 h5
  obtain ⟨rfl, hb6⟩ := h5.bad (E := 80) (by decide +kernel) (by omega)
  rw [show ((80 : Nat) : Int) = 80 from rfl]
  have Oa''''' := Lib.hid (Oa''''.out.below hb6 (Nat.le_refl _))
  have Ob'''' := Lib.hid (Ob'''.out.below hb6 (Nat.le_refl _))
  have Oc'' := Lib.hid (Oc'.out.below hb6 (Nat.le_refl _))
  clear Oa'''' Ob''' Oc'
  have B6 := Lib.hid (onto B5.out B5.out.size hb6)
  clear hb6 H5 h5 B5
  obtain ⟨x7, hx7⟩ : ∃ x7, x7 = w6.alloc (.cells #[.int .u8 9] 5) := ⟨_, rfl⟩
  have hb7 : Below w6.heap.size w6 x7 := by rw [hx7]; exact (Below.refl _ _).alloc (Nat.le_refl _) _
  have s7 : Sl x7 x7.heap.size (some ⟨w6.heap.size, 0, none⟩) 1 1 (litF [9#8]) := by rw [hx7, l1_lit]; exact Sl.of_row (row_alloc_at _ _ _ _ rfl) _ (by simp)
  have Oa'''''' := Lib.hid (Oa'''''.out.below hb7 (Nat.le_refl _))
  have Ob''''' := Lib.hid (Ob''''.out.below hb7 (Nat.le_refl _))
  have Oc''' := Lib.hid (Oc''.out.below hb7 (Nat.le_refl _))
  clear Oa''''' Ob'''' Oc''
  have B7 := Lib.hid (onto B6.out B6.out.size hb7)
  have H7 := Lib.hid (take_num 1 1 _ (litF [9#8]) x7 s7 (by omega))
  clear hb7 s7 B6
  go_wp2_with fail
  rw [← hx7]
  clear hx7
  refine H7.out.mono ?_
  intro e w8 h7
  obtain ⟨rfl, hb8⟩ := h7.bad (E := 80) (by decide +kernel) (by omega)
  rw [show ((80 : Nat) : Int) = 80 from rfl]
  have Oa''''''' := Lib.hid (Oa''''''.out.below hb8 (Nat.le_refl _))
  have Ob'''''' := Lib.hid (Ob'''''.out.below hb8 (Nat.le_refl _))
  have Oc'''' := Lib.hid (Oc'''.out.below hb8 (Nat.le_refl _))
  clear Oa'''''' Ob''''' Oc'''
  have B8 := Lib.hid (onto B7.out B7.out.size hb8)
  clear hb8 H7 h7 B7
  obtain ⟨x9, hx9⟩ : ∃ x9, x9 = w8.alloc (.cells #[.int .u8 2, .int .u8 1] 5) := ⟨_, rfl⟩
  have hb9 : Below w8.heap.size w8 x9 := by rw [hx9]; exact (Below.refl _ _).alloc (Nat.le_refl _) _
  have s9 : Sl x9 x9.heap.size (some ⟨w8.heap.size, 0, none⟩) 2 2 (litF [2#8, 1#8]) := by rw [hx9, k2_lit]; exact Sl.of_row (row_alloc_at _ _ _ _ rfl) _ (by simp)
  have Oa'''''''' := Lib.hid (Oa'''''''.out.below hb9 (Nat.le_refl _))
  have Ob''''''' := Lib.hid (Ob''''''.out.below hb9 (Nat.le_refl _))
  have Oc''''' := Lib.hid (Oc''''.out.below hb9 (Nat.le_refl _))
  clear Oa''''''' Ob'''''' Oc''''
  have B9 := Lib.hid (onto B8.out B8.out.size hb9)
  have H9 := Lib.hid (take_num 2 2 _ (litF [2#8, 1#8]) x9 s9 (by omega))
  clear hb9 s9 B8
  go_wp2_with fail
  rw [← hx9]
  clear hx9
  refine H9.out.mono ?_
  intro e w10 h9
  obtain ⟨rfl, hb10⟩ := h9.bad (E := 3) (by decide +kernel) (by omega)
  rw [show ((3 : Nat) : Int) = 3 from rfl]
  have Oa''''''''' := Lib.hid (Oa''''''''.out.below hb10 (Nat.le_refl _))
  have Ob'''''''' := Lib.hid (Ob'''''''.out.below hb10 (Nat.le_refl _))
  have Oc'''''' := Lib.hid (Oc'''''.out.below hb10 (Nat.le_refl _))
  clear Oa'''''''' Ob''''''' Oc'''''
  have B10 := Lib.hid (onto B9.out B9.out.size hb10)
  clear hb10 H9 h9 B9
  obtain ⟨x11, hx11⟩ : ∃ x11, x11 = w10.alloc (.cells #[.int .u8 97, .int .u8 98] 5 (2, 3)) := ⟨_, rfl⟩
  have hb11 : Below w10.heap.size w10 x11 := by rw [hx11]; exact (Below.refl _ _).alloc (Nat.le_refl _) _
  have s11 : Sl x11 x11.heap.size (some ⟨w10.heap.size, 0, none⟩) 2 2 (litF [97#8, 98#8]) := by rw [hx11, ab_lit]; exact (Sl.lit w10 (n := 2) (f := litF [97#8, 98#8]) rfl 5 _ (w10.heap.size + 1) (by omega)).more (by simp)
  have Oa'''''''''' := Lib.hid (Oa'''''''''.out.below hb11 (Nat.le_refl _))
  have Ob''''''''' := Lib.hid (Ob''''''''.out.below hb11 (Nat.le_refl _))
  have Oc''''''' := Lib.hid (Oc''''''.out.below hb11 (Nat.le_refl _))
  clear Oa''''''''' Ob'''''''' Oc''''''
  have B11 := Lib.hid (onto B10.out B10.out.size hb11)
  have H11 := Lib.hid (putt_nil 2 2 _ (litF [97#8, 98#8]) x11 s11 (by omega))
  clear hb11 s11 B10
  go_wp2_with fail
  rw [← hx11]
  clear hx11
  refine H11.out.mono ?_
  rintro e w12 ⟨v11, rfl, ho11, hb12⟩
  have Od := Lib.hid ho11
  have Oa''''''''''' := Lib.hid (Oa''''''''''.out.below hb12 (Nat.le_refl _))
  have Ob'''''''''' := Lib.hid (Ob'''''''''.out.below hb12 (Nat.le_refl _))
  have Oc'''''''' := Lib.hid (Oc'''''''.out.below hb12 (Nat.le_refl _))
  clear Oa'''''''''' Ob''''''''' Oc'''''''
  have B12 := Lib.hid (onto B11.out B11.out.size hb12)
  clear ho11 hb12 H11 B11
  obtain ⟨x13, hx13⟩ : ∃ x13, x13 = w12.alloc (.cells #[.int .u8 1, .int .u8 2, .int .u8 97] 5) := ⟨_, rfl⟩
  have hb13 : Below w12.heap.size w12 x13 := by rw [hx13]; exact (Below.refl _ _).alloc (Nat.le_refl _) _
  have s13 : Sl x13 x13.heap.size (some ⟨w12.heap.size, 0, none⟩) 3 3 (litF [1#8, 2#8, 97#8]) := by rw [hx13, l3_lit]; exact Sl.of_row (row_alloc_at _ _ _ _ rfl) _ (by simp)
  have Oa'''''''''''' := Lib.hid (Oa'''''''''''.out.below hb13 (Nat.le_refl _))
  have Ob''''''''''' := Lib.hid (Ob''''''''''.out.below hb13 (Nat.le_refl _))
  have Oc''''''''' := Lib.hid (Oc''''''''.out.below hb13 (Nat.le_refl _))
  have Od' := Lib.hid (Od.out.below hb13 (Nat.le_refl _))
  clear Oa''''''''''' Ob'''''''''' Oc'''''''' Od
  have B13 := Lib.hid (onto B12.out B12.out.size hb13)
  have H13 := Lib.hid (taket_any 3 3 9 _ (litF [1#8, 2#8, 97#8]) x13 s13 (by omega))
  clear hb13 s13 B12
  go_wp2_with fail
  rw [← hx13]
  clear hx13
  refine H13.out.mono ?_
  intro e w14 h13
  obtain ⟨rfl, hb14⟩ := h13.bad (E := 3) (by decide +kernel) (by omega)
  rw [show ((3 : Nat) : Int) = 3 from rfl]
  have Oa''''''''''''' := Lib.hid (Oa''''''''''''.out.below hb14 (Nat.le_refl _))
  have Ob'''''''''''' := Lib.hid (Ob'''''''''''.out.below hb14 (Nat.le_refl _))
  have Oc'''''''''' := Lib.hid (Oc'''''''''.out.below hb14 (Nat.le_refl _))
  have Od'' := Lib.hid (Od'.out.below hb14 (Nat.le_refl _))
  clear Oa'''''''''''' Ob''''''''''' Oc''''''''' Od'
  have B14 := Lib.hid (onto B13.out B13.out.size hb14)
  clear hb14 H13 h13 B13
  obtain ⟨x15, hx15⟩ : ∃ x15, x15 = w14.alloc (.cells #[.int .i64 0, .int .i64 5] 3) := ⟨_, rfl⟩
  have hb15 : Below w14.heap.size w14 x15 := by rw [hx15]; exact (Below.refl _ _).alloc (Nat.le_refl _) _
  have s15 : SlG x15 x15.heap.size (some ⟨w14.heap.size, 0, none⟩) 2 2 (iV fun i => if i = 0 then 0 else 5) := by
    rw [hx15]
    refine slG_row (row_alloc_at _ _ _ _ rfl) (by simp) (Nat.le_refl _) fun i hi => ?_
    have : i = 0 ∨ i = 1 := by omega
    rcases this with rfl | rfl <;> rfl
  have Oa2 := Lib.hid (Oa'''''''''''''.out.below hb15 (Nat.le_refl _))
  have Ob2 := Lib.hid (Ob''''''''''''.out.below hb15 (Nat.le_refl _))
  have Oc2 := Lib.hid (Oc''''''''''.out.below hb15 (Nat.le_refl _))
  have Od2 := Lib.hid (Od''.out.below hb15 (Nat.le_refl _))
  have B15 := Lib.hid (onto B14.out B14.out.size hb15)
  have H15 := Lib.hid (putl_nil 2 2 _ (fun i => if i = 0 then 0 else 5) x15 s15 (fun i hi => by split <;> omega) (by omega))
  clear hb15 s15 Oa''''''''''''' Ob'''''''''''' Oc'''''''''' Od'' B14
  go_wp2_with fail
  rw [← hx15]
  clear hx15
  refine H15.out.mono ?_
  rintro e w16 (⟨⟨i, hi, hneg⟩, _, _⟩ | ⟨_, v15, rfl, ho15, hb16⟩)
  · exfalso
    dsimp only at hneg
    split at hneg <;> omega
  have Oa3 := Lib.hid (Oa2.out.below hb16 (Nat.le_refl _))
  have Ob3 := Lib.hid (Ob2.out.below hb16 (Nat.le_refl _))
  have Oc3 := Lib.hid (Oc2.out.below hb16 (Nat.le_refl _))
  have Od3 := Lib.hid (Od2.out.below hb16 (Nat.le_refl _))
  have B16 := Lib.hid (onto B15.out B15.out.size hb16)
  have c1 := conv_own Oa3.out
  have c2 := conv_own Ob3.out
  have c3 := conv_own Oc3.out
  have c4 := conv_own Od3.out
  have c5 := conv_own ho15
  rw [show strOf (encL 0) (encF 0) = ⟨#[0]⟩ from str_lit (l := [0]) (by decide +kernel)] at c1
  rw [show strOf (encL 256) (encF 256) = ⟨#[2, 1, 0]⟩ from str_lit (l := [2, 1, 0]) (by decide +kernel)] at c2
  rw [show strOf 1 (offF (litF [2#8, 1#8, 0#8, 97#8]) 3) = ⟨#[97]⟩ from str_lit (l := [97]) (by decide +kernel)] at c3
  rw [show strOf (txL 2) (txF 2 (litF [97#8, 98#8])) = ⟨#[1, 2, 97, 98]⟩ from str_lit (l := [1, 2, 97, 98]) (by decide +kernel)] at c4
  rw [show strOf (lsL (natS fun i => if i = 0 then 0 else 5) 2 2) (lsF (natS fun i => if i = 0 then 0 else 5) 2 2) = ⟨#[1, 2, 0, 1, 5]⟩ from str_lit (l := [1, 2, 0, 1, 5]) (by decide +kernel)] at c5
  clear Oa2 Ob2 Oc2 Od2 B15 H15 ho15 hb16 Oa3 Ob3 Oc3 Od3
  go_wp2_with fail
  go_ret
  exact ⟨rfl, B16.out⟩
end Go.Proofs.Ytbdnokccipoibaa.Oct
