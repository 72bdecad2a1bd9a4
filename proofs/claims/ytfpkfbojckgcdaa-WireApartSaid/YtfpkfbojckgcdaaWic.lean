/- The document's examples at the head of each statement of layer 9. -/
import Derived.Test.YtfpkfbojckgcdaaWib
namespace Go.Proofs.Ytfpkfbojckgcdaa.Oct
open Go.ChangeShapes Go.WideShapes Go.ChangeAt Go.RowKit
set_option linter.unusedVariables false

abbrev i64B (x : Int) : Prop := -9223372036854775808 ≤ x ∧ x < 9223372036854775808
theorem comN_bd {k s q i n : Int} (h0 : i64B k) (h1 : i64B s) (h2 : i64B q) (h3 : i64B i) (h4 : i64B n) : ∀ j, -9223372036854775808 ≤ comN k s q i n j ∧ comN k s q i n j < 9223372036854775808 := fun j => by
  unfold comN
  repeat' split
  all_goals assumption
theorem repN_bd {c n m : Int} (h0 : i64B c) (h1 : i64B n) (h2 : i64B m) : ∀ j, -9223372036854775808 ≤ repN c n m j ∧ repN c n m j < 9223372036854775808 := fun j => by
  unfold repN
  repeat' split
  all_goals assumption
theorem th2_bd {t k : Int} (h0 : i64B t) (h1 : i64B k) : ∀ j, -9223372036854775808 ≤ th2 t k j ∧ th2 t k j < 9223372036854775808 := fun j => by
  unfold th2
  split
  all_goals assumption
/-- the bytes of {CmdOpen} -/
def openF : Bf := comF 1 0 0 0 0 0 0 nF nF
theorem open_len : comL 1 0 0 0 0 0 0 = 8 := by decide +kernel
theorem open_str : strOf 8 openF = ⟨#[1, 1, 0, 0, 0, 0, 0, 0]⟩ := str_lit (l := [1, 1, 0, 0, 0, 0, 0, 0]) (by decide +kernel)
theorem open_K : tcK 8 openF ∧ ((puX openF 0 : Nat) : Int) = 1 := by
  obtain ⟨h, h1, -⟩ := back_com (k := 1) (s := 0) (q := 0) (i := 0) (n := 0) (T := 0) (U := 0) (m := 8) (d := nF) (b := nF) (f := openF) (by decide +kernel) (comN_bd (by omega) (by omega) (by omega) (by omega) (by omega)) open_len (fun j _ => rfl)
  exact ⟨h, h1⟩
theorem nil_K (f : Bf) : ¬ tcK 0 f := fun h => by
  have h1 : puS 0 f 0 = 0 := fi_each (fi_each h.1 0 (by omega)) 0 (by omega)
  have h2 : puS 0 f 0 = 3 := rfl
  omega
theorem more_K : ¬ tcK 9 (catF 8 openF fun _ => 0#8) := fun h => by
  have h1 : tcO (catF 8 openF fun _ => 0#8) 3 = 8 := by decide +kernel
  have h2 := h.2.1
  omega
theorem tcP.bad {n : Nat} {f : Bf} {w : World} {e : Ending} {w' : World} (h : tcP n f w e w') (hk : ¬ tcK n f) : e = .returned (.tuple #[comZ, .int .i64 80]) ∧ Below w.heap.size w w' := by
  rcases h with ⟨_, h1, h2⟩ | ⟨h0, _⟩
  · exact ⟨h1, h2⟩
  · exact absurd h0 hk
theorem tcP.ok {n : Nat} {f : Bf} {w : World} {e : Ending} {w' : World} (h : tcP n f w e w') (hk : tcK n f) : ∃ A c A' c', e = .returned (.tuple #[comV (puX f 0 : Nat) (puX f 1 : Nat) (puX f 2 : Nat) (puX f 3 : Nat) (puX f 4 : Nat) (.slice A (tcT f) c) (.slice A' (tcU f) c'), .int .i64 0]) ∧ Sl w' w'.heap.size A (tcT f) c (tcF f) ∧ Sl w' w'.heap.size A' (tcU f) c' (tcG f) ∧ Below w.heap.size w w' := by
  rcases h with ⟨h0, _⟩ | ⟨_, h⟩
  · exact absurd hk h0
  · exact h
theorem cmP.ok {E L : Nat} {F : Bf} {w : World} {e : Ending} {w' : World} (h : cmP E L F w e w') (hk : E = 0) : ∃ v, e = .returned (.tuple #[v, .int .i64 0]) ∧ Own w' w.heap.size 5 v L F ∧ Below w.heap.size w w' := by
  rcases h with ⟨h0, _⟩ | ⟨_, h⟩
  · exact absurd hk h0
  · exact h
theorem cmP.bad {E L : Nat} {F : Bf} {w : World} {e : Ending} {w' : World} (h : cmP E L F w e w') (hk : E ≠ 0) : e = .returned (.tuple #[.slice none 0 0, .int .i64 (E : Nat)]) ∧ Below w.heap.size w w' := by
  rcases h with ⟨_, h1, h2⟩ | ⟨h0, _⟩
  · exact ⟨h1, h2⟩
  · exact absurd h0 hk
set_option maxRecDepth 20000 in
set_option maxHeartbeats 8000000 in
theorem shown_any (w : World) :
    Calls Try.prog 10 #[] w fun e w' => e = .returned (.bool true) ∧ Below w.heap.size w w' := by
  have H1 := Lib.hid (command_any 1 0 0 0 0 0 0 0 0 none none nF nF w (Sl.nothing _ _ _ _ _) (Sl.nothing _ _ _ _ _) (comN_bd (by omega) (by omega) (by omega) (by omega) (by omega)))
  go_enter Try.func10, Try.ntmps10
  go_wp2_with fail
  refine H1.out.mono ?_
  intro e w1 h1
  obtain ⟨v1, rfl, ho1, hb1⟩ := h1.ok (by decide +kernel)
  rw [open_len, show comF 1 0 0 0 0 0 0 nF nF = openF from rfl] at ho1
  obtain ⟨A1, k1, hv1, -, -, -⟩ := ho1.sl
  subst hv1
  have O1 := Lib.hid ho1
  have B1 := Lib.hid hb1
  have H2 := Lib.hid (takecom_any 0 0 none nF w1 (Sl.nothing _ _ _ _ _) (by omega))
  have hz1x := hb1.size
  clear h1 ho1 hb1 H1
  go_wp2_with fail
  refine H2.out.mono ?_
  intro e w2 h2
  obtain ⟨rfl, hb2⟩ := h2.bad (nil_K _)
  have O2 := Lib.hid (O1.out.below hb2 (Nat.le_refl _))
  have B2 := Lib.hid (onto B1.out B1.out.size hb2)
  clear h2 hb2 H2 O1 B1
  obtain ⟨x3, hx3⟩ : ∃ x3, x3 = w2.alloc (.cells #[.int .i64 0, .int .i64 0, .int .i64 0, .int .i64 0, .int .i64 0, .slice none 0 0, .slice none 0 0] 24) := ⟨_, rfl⟩
  have bx : Below w2.heap.size w2 x3 := by rw [hx3]; exact (Below.refl _ _).alloc (Nat.le_refl _) _
  have O3 := Lib.hid (O2.out.below bx (Nat.le_refl _))
  have B3 := Lib.hid (onto B2.out B2.out.size bx)
  obtain ⟨A', k', e', hs3, -, -⟩ := O3.out.sl
  injection e' with e1 e2 e3
  subst e1 e3
  have H3 := Lib.hid (takecom_any 8 k1 A1 openF x3 hs3 (by omega))
  clear O2 B2 bx hs3
  go_wp2_with fail
  rw [← hx3]
  clear hx3
  refine H3.out.mono ?_
  intro e w4 h4
  obtain ⟨Ad, cd, Ab, cb, rfl, -, -, hb4⟩ := h4.ok open_K.1
  rw [open_K.2]
  obtain ⟨y1, hy1⟩ : ∃ y, y = puX openF 1 := ⟨_, rfl⟩
  obtain ⟨y2, hy2⟩ : ∃ y, y = puX openF 2 := ⟨_, rfl⟩
  obtain ⟨y3, hy3⟩ : ∃ y, y = puX openF 3 := ⟨_, rfl⟩
  obtain ⟨y4, hy4⟩ : ∃ y, y = puX openF 4 := ⟨_, rfl⟩
  obtain ⟨T, hT⟩ : ∃ y, y = tcT openF := ⟨_, rfl⟩
  obtain ⟨U, hU⟩ : ∃ y, y = tcU openF := ⟨_, rfl⟩
  rw [← hy1, ← hy2, ← hy3, ← hy4, ← hT, ← hU]
  clear hy1 hy2 hy3 hy4 hT hU
  have O4 := Lib.hid (O3.out.below hb4 (Nat.le_refl _))
  have B4 := Lib.hid (onto B3.out B3.out.size hb4)
  clear h4 hb4 H3 O3 B3
  obtain ⟨x5, hx5⟩ : ∃ x5, x5 = w4.alloc (.cells #[.int .i64 1, .int .i64 (y1 : Int), .int .i64 (y2 : Int), .int .i64 (y3 : Int), .int .i64 (y4 : Int), .slice Ad T cd, .slice Ab U cb] 24) := ⟨_, rfl⟩
  have bx : Below w4.heap.size w4 x5 := by rw [hx5]; exact (Below.refl _ _).alloc (Nat.le_refl _) _
  have O5 := Lib.hid (O4.out.below bx (Nat.le_refl _))
  have B5 := Lib.hid (onto B4.out B4.out.size bx)
  have R5 := Lib.hid (show row x5 w4.heap.size = some #[.int .i64 1, .int .i64 (y1 : Int), .int .i64 (y2 : Int), .int .i64 (y3 : Int), .int .i64 (y4 : Int), .slice Ad T cd, .slice Ab U cb] by rw [hx5]; exact row_alloc_at _ _ _ _ rfl)
  clear O4 B4 bx
  go_upto_region 4 with fail
  rw [← hx5]
  clear hx5
  have bE := (Below.refl x5.heap.size x5).alloc (Nat.le_refl _) (.cells #[] 5)
  have OE := Lib.hid (show Own (x5.alloc (.cells #[] 5)) x5.heap.size 5 (.slice (some ⟨x5.heap.size, 0, none⟩) 0 0) 0 nF from Own.empty x5 x5.heap.size 5 _ (Nat.le_refl _))
  have O5s : Sl (x5.alloc (.cells #[] 5)) (x5.alloc (.cells #[] 5)).heap.size A1 8 k1 openF := by
    obtain ⟨A', k', e', hs5, -, -⟩ := (O5.out.below bE (Nat.le_refl _)).sl
    injection e' with e1 e2 e3
    subst e1 e3
    exact hs5
  have SE := Lib.hid O5s
  have B5e := Lib.hid (onto B5.out B5.out.size bE)
  have R5e := Lib.hid (carry bE R5.out)
  have O5e := Lib.hid (O5.out.below bE (Nat.le_refl _))
  have hz5 : x5.heap.size ≤ (x5.alloc (.cells #[] 5)).heap.size := by simp
  have hzb := B5.out.size
  have hq5 := row_lt R5.out
  have O5b := Lib.hid O5.out
  clear O5s bE O5 B5 R5
  go_wp2_with (at_builtin; first
    | (refine wpl_appB rfl (.tmp 24) (.tmp 25) rfl sli_u u8_info OE.out SE.out (by omega) hz5 rfl rfl ?_
       intro v6 w6 ho6 hg6 ht6
       rw [Nat.zero_add, catF_zero] at ho6
       have hz6 := hg6.size
       have B6 := Lib.hid ((OE.out.after hg6 B5e.out (by omega) hzb).alloc (by omega) (.cells #[.int .u8 0] 5))
       have R6 := Lib.hid (row_alloc (grown_row hg6 R5e.out (fun e => by have e' : x5.heap.size = w4.heap.size := by simpa [Value.ownBlock] using e
                                                                         omega)) (.cells #[.int .u8 0] 5))
       have O6 := Lib.hid (ho6.alloc (.cells #[.int .u8 0] 5))
       have P6 := Lib.hid ((O5e.out.other hg6 (fun k hk e => by
         have h1 := (O5b.out.lt hk).2
         have h2 : x5.heap.size = k := by simpa [Value.ownBlock] using e
         omega)).alloc (.cells #[.int .u8 0] 5))
       have S6 := Lib.hid (show Sl (w6.alloc (.cells #[.int .u8 0] 5)) (w6.heap.size + 1) (some ⟨w6.heap.size, 0, none⟩) 1 1 (fun _ => 0#8) from Sl.one w6 5 0#8 _ (by omega))
       have hz6b : x5.heap.size ≤ (w6.alloc (.cells #[.int .u8 0] 5)).heap.size := by simp at hz6 ⊢; omega
       clear ho6 hg6 ht6 OE SE)
    | (refine wpl_appB rfl (.tmp 26) (.tmp 27) rfl sli_u u8_info O6.out S6.out (by omega) hz6b rfl rfl ?_
       intro v7 w7 ho7 hg7 ht7))
  have B7 := Lib.hid (O6.out.after hg7 B6.out (by simp; omega) (by omega))
  have R7 := Lib.hid (grown_row hg7 R6.out (fun e => by have := (O6.out.lt e).1; omega))
  have P7 := Lib.hid (P6.out.other hg7 (fun k hk e => by
    have h1 := (O5b.out.lt hk).2
    have h2 := (O6.out.lt e).1
    omega))
  obtain ⟨A7, k7, hv7, hs7, -, -⟩ := ho7.sl
  subst hv7
  have H7 := Lib.hid (takecom_any 9 k7 A7 (catF 8 openF fun _ => 0#8) w7 hs7 (by omega))
  clear ho7 hg7 ht7 hs7 B6 R6 P6 S6 O6 B5e R5e O5e O5b hz5 hz6b
  refine H7.out.mono ?_
  intro e w8 h8
  obtain ⟨rfl, hb8⟩ := h8.bad more_K
  obtain ⟨x8, hx8⟩ : ∃ x8, x8 = w8.alloc (.cells #[.int .i64 0, .int .i64 0, .int .i64 0, .int .i64 0, .int .i64 0, .slice none 0 0, .slice none 0 0] 24) := ⟨_, rfl⟩
  have bx : Below w8.heap.size w8 x8 := by rw [hx8]; exact (Below.refl _ _).alloc (Nat.le_refl _) _
  have B8 := Lib.hid (onto (onto B7.out B7.out.size hb8) (onto B7.out B7.out.size hb8).size bx)
  have R8 := Lib.hid (carry bx (carry hb8 R7.out))
  have P8 := Lib.hid ((P7.out.below hb8 (Nat.le_refl _)).below bx (Nat.le_refl _))
  clear h8 hb8 H7 B7 R7 P7 bx
  go_upto_region 5 with fail
  rw [← hx8]
  clear hx8
  have C1 := Lib.hid (check_any 1 0 0 0 0 0 0 0 0 none none x8)
  rw [show chkE 1 0 0 0 0 0 0 = 0 by decide +kernel] at C1
  go_wp2_with fail
  refine C1.out.mono ?_
  rintro e w9 ⟨rfl, hb9⟩
  rw [show ((0 : Nat) : Int) = 0 from rfl]
  have B9 := Lib.hid (onto B8.out B8.out.size hb9)
  have R9 := Lib.hid (carry hb9 R8.out)
  have P9 := Lib.hid (P8.out.below hb9 (Nat.le_refl _))
  clear hb9 C1 B8 R8 P8
  have C2 := Lib.hid (check_any 1 0 1 0 0 0 0 0 0 none none w9)
  rw [show chkE 1 0 1 0 0 0 0 = 1 by decide +kernel] at C2
  go_wp2_with fail
  refine C2.out.mono ?_
  rintro e w10 ⟨rfl, hb9⟩
  rw [show ((1 : Nat) : Int) = 1 from rfl]
  have B10 := Lib.hid (onto B9.out B9.out.size hb9)
  have R10 := Lib.hid (carry hb9 R9.out)
  have P10 := Lib.hid (P9.out.below hb9 (Nat.le_refl _))
  clear hb9 C2 B9 R9 P9
  have C3 := Lib.hid (check_any 4 1 1 0 0 0 0 0 0 none none w10)
  rw [show chkE 4 1 1 0 0 0 0 = 1 by decide +kernel] at C3
  go_wp2_with fail
  refine C3.out.mono ?_
  rintro e w11 ⟨rfl, hb9⟩
  rw [show ((1 : Nat) : Int) = 1 from rfl]
  have B11 := Lib.hid (onto B10.out B10.out.size hb9)
  have R11 := Lib.hid (carry hb9 R10.out)
  have cv := conv_own (P10.out.below hb9 (Nat.le_refl _))
  rw [open_str] at cv
  clear hb9 C3 B10 R10 P10
  obtain ⟨c0, c1, c2, c3, c4, c5, c6⟩ := cells7 R11.out
  go_wp2_with fail
  go_ret
  exact ⟨rfl, B11.out⟩
end Go.Proofs.Ytfpkfbojckgcdaa.Oct
