/- Contracts: journal's parts (number, text), must of an entry, body. -/
import Derived.Test.YtdfcldomjjcidaaGreatDoorJrD
namespace Go.Proofs.YtdfcldomjjcidaaGreatDoor.Oct
open Go.ChangeShapes Go.WideShapes Go.ChangeAt Go.RowKit
set_option linter.unusedVariables false

/-- what a part taken off ends in: block P holds what is left -/
def ptkP (P E m : Nat) (g : Bf) (G : Value → World → Prop) (w : World) (e : Ending) (w' : World) : Prop :=
  (E ≠ 0 ∧ e = .panicked (pnE (E : Nat)) ∧ Below w.heap.size w w') ∨
  (E = 0 ∧ ∃ v A c, e = .returned v ∧ G v w' ∧ Put P #[.slice A m c] w w' ∧ Sl w' w'.heap.size A m c g ∧ Nw w.heap.size m A)
set_option maxHeartbeats 2000000 in
theorem number_p (P n c : Nat) (A : Option Addr) (f : Bf) (w : World) (hp : row w P = some #[.slice A n c]) (hs : Sl w w.heap.size A n c f) (hn : n ≤ 140737488355328) :
    Calls Tryz.prog 81 #[.pointer (some ⟨P, 0, none⟩)] w (ptkP P (tkE n f) (n - tkL f) (offF f (tkL f)) (fun v _ => v = .int .i64 (tkV f : Nat)) w) := by
  have HP := Lib.hid hp
  have H1 := Lib.hid (take_num n c A f w hs hn)
  have c0 : w.cell? ⟨P, 0, none⟩ = some (.slice A n c) := by rw [cell_row hp]; rfl
  have hlt := row_lt hp
  obtain ⟨E, hE⟩ : ∃ E, E = tkE n f := ⟨_, rfl⟩
  unfold taP at H1
  rw [← hE] at H1 ⊢
  clear hp hs hn hE
  go_enter Tryz.func81, Tryz.ntmps81
  go_wp2_with fail
  refine H1.out.mono ?_
  rintro e w1 (⟨hz, rfl, hb⟩ | ⟨hz, v, rfl, ho, hb⟩)
  · have HZ := Lib.hid hz
    have HB := Lib.hid hb
    have hzi : ((E : Nat) : Int) ≠ 0 := by omega
    clear hz hb H1 c0
    go_wp2_with fail
    refine (insist_bad _ hzi _).mono ?_
    rintro e w2 ⟨rfl, rfl⟩
    go_wp2_with fail
    exact ⟨rfl, .inl ⟨HZ.out, rfl, HB.out⟩⟩
  · obtain ⟨A1, c1, hv, hs1, -, -⟩ := ho.sl
    subst hv
    have HO := Lib.hid (show Nw w.heap.size _ A1 from fun k hk => off_own ho hk)
    have HS := Lib.hid hs1
    have HB := Lib.hid hb
    have R1 := carry hb HP.out
    have z1 := froz_row R1 0
    have k1 : w1.cell? ⟨P, 0, none⟩ = some (.slice A n c) := by rw [cell_row R1]; rfl
    subst hz
    clear hb H1 c0 ho hs1
    go_wp2_with fail
    refine (insist_ok _).mono ?_
    rintro e w2 ⟨rfl, rfl⟩
    go_wp2_with fail
    have hs : w2.setCell ⟨P, 0, none⟩ (.slice A1 (n - tkL f) c1) = w2.setRow P #[.slice A1 (n - tkL f) c1] := by rw [setCell_row R1]; rfl
    have hput : Put P #[.slice A1 (n - tkL f) c1] w (w2.setRow P #[.slice A1 (n - tkL f) c1]) := Put.of HB.out hlt _
    have hput2 : Put P #[.slice A1 (n - tkL f) c1] w2 (w2.setRow P #[.slice A1 (n - tkL f) c1]) := Put.of (Below.refl _ _) (row_lt R1) _
    refine bodyPost_ret (v := .int .i64 (tkV f : Nat)) (by simp [results, Tryz.results81, go_sem]) rfl ?_
    rw [hs]
    exact .inr ⟨rfl, _, A1, c1, rfl, rfl, hput, (hput2.sl HS.out (Nat.le_refl _) (HO.out P hlt)).more hput2.size, HO.out⟩
set_option maxHeartbeats 2000000 in
theorem text_p (P n c : Nat) (A : Option Addr) (f : Bf) (w : World) (hp : row w P = some #[.slice A n c]) (hs : Sl w w.heap.size A n c f) (hn : n ≤ 140737488355328) :
    Calls Tryz.prog 84 #[.pointer (some ⟨P, 0, none⟩)] w (ptkP P (ttE n 4096 f) (n - tkL f - tkV f) (offF f (tkL f + tkV f)) (fun v w' => Own w' w.heap.size 5 v (tkV f) (offF f (tkL f))) w) := by
  have HP := Lib.hid hp
  have H1 := Lib.hid (taket_any n c 4096 A f w hs hn)
  have c0 : w.cell? ⟨P, 0, none⟩ = some (.slice A n c) := by rw [cell_row hp]; rfl
  have hlt := row_lt hp
  obtain ⟨E, hE⟩ : ∃ E, E = ttE n 4096 f := ⟨_, rfl⟩
  unfold ttP at H1
  rw [← hE] at H1 ⊢
  clear hp hs hn hE
  go_enter Tryz.func84, Tryz.ntmps84
  go_wp2_with fail
  refine H1.out.mono ?_
  rintro e w1 (⟨hz, rfl, hb⟩ | ⟨hz, u, v, rfl, hou, ho, hb⟩)
  · have HZ := Lib.hid hz
    have HB := Lib.hid hb
    have hzi : ((E : Nat) : Int) ≠ 0 := by omega
    clear hz hb H1 c0
    go_wp2_with fail
    refine (insist_bad _ hzi _).mono ?_
    rintro e w2 ⟨rfl, rfl⟩
    go_wp2_with fail
    exact ⟨rfl, .inl ⟨HZ.out, rfl, HB.out⟩⟩
  · obtain ⟨A1, c1, hv, hs1, -, -⟩ := ho.sl
    subst hv
    have HO := Lib.hid (show Nw w.heap.size _ A1 from fun k hk => off_own ho hk)
    have HU := Lib.hid hou
    have HS := Lib.hid hs1
    have HB := Lib.hid hb
    have R1 := carry hb HP.out
    have z1 := froz_row R1 0
    have k1 : w1.cell? ⟨P, 0, none⟩ = some (.slice A n c) := by rw [cell_row R1]; rfl
    subst hz
    clear hb H1 c0 ho hs1 hou
    go_wp2_with fail
    refine (insist_ok _).mono ?_
    rintro e w2 ⟨rfl, rfl⟩
    go_wp2_with fail
    obtain ⟨m, hm⟩ : ∃ m, m = n - tkL f - tkV f := ⟨_, rfl⟩
    rw [← hm] at HS HO ⊢
    have hs : w2.setCell ⟨P, 0, none⟩ (.slice A1 m c1) = w2.setRow P #[.slice A1 m c1] := by rw [setCell_row R1]; rfl
    have hput : Put P #[.slice A1 m c1] w (w2.setRow P #[.slice A1 m c1]) := Put.of HB.out hlt _
    have hput2 : Put P #[.slice A1 m c1] w2 (w2.setRow P #[.slice A1 m c1]) := Put.of (Below.refl _ _) (row_lt R1) _
    have hne : u.ownBlock ≠ some P := fun h => by have := (HU.out.lt h).1; omega
    refine bodyPost_ret (v := u) (by simp [results, Tryz.results84, go_sem]) rfl ?_
    rw [hs]
    exact .inr ⟨rfl, _, A1, c1, rfl, HU.out.setRow P hne _, hput, (hput2.sl HS.out (Nat.le_refl _) (HO.out P hlt)).more hput2.size, HO.out⟩
/-- must of an entry -/
theorem muste_bad (t k : Int) (D M : Value) (E : Int) (h : E ≠ 0) (w : World) : Calls Tryz.prog 82 #[entV t k D M, .int .i64 E] w fun e w' => e = .panicked (pnE E) ∧ Below w.heap.size w w' := by
  obtain ⟨w1, hw1⟩ : ∃ w1, w1 = (w.alloc (.cells #[.int .i64 t, .int .i64 k, D, M] 27)).alloc (.cells #[.int .i64 0, .int .i64 0, .slice none 0 0, .slice none 0 0] 27) := ⟨_, rfl⟩
  have B1 := Lib.hid (show Below w.heap.size w w1 by rw [hw1]; exact ((Below.refl _ _).alloc (Nat.le_refl _) _).alloc (by simp) _)
  go_enter Tryz.func82, Tryz.ntmps82
  go_wp2_with fail
  refine (insist_bad E h _).mono ?_
  rintro e w' ⟨rfl, rfl⟩
  go_wp2_with fail
  exact ⟨rfl, rfl, by rw [← hw1]; exact B1.out⟩
set_option maxHeartbeats 2000000 in
theorem muste_ok (t k : Int) (A A' : Option Addr) (n c n' c' : Nat) (w : World) : Calls Tryz.prog 82 #[entV t k (.slice A n c) (.slice A' n' c'), .int .i64 0] w fun e w' => e = .returned (entV t k (.slice A n c) (.slice A' n' c')) ∧ Below w.heap.size w w' := by
  obtain ⟨w1, hw1⟩ : ∃ w1, w1 = (w.alloc (.cells #[.int .i64 t, .int .i64 k, .slice A n c, .slice A' n' c'] 27)).alloc (.cells #[.int .i64 0, .int .i64 0, .slice none 0 0, .slice none 0 0] 27) := ⟨_, rfl⟩
  have B1 := Lib.hid (show Below w.heap.size w w1 by rw [hw1]; exact ((Below.refl _ _).alloc (Nat.le_refl _) _).alloc (by simp) _)
  have R1 := Lib.hid (show row w1 w.heap.size = some #[.int .i64 t, .int .i64 k, .slice A n c, .slice A' n' c'] by rw [hw1]; exact row_alloc (row_alloc_at _ _ _ _ rfl) _)
  have R2 := Lib.hid (show row w1 (w.heap.size + 1) = some #[.int .i64 0, .int .i64 0, .slice none 0 0, .slice none 0 0] by rw [hw1]; exact row_alloc_at _ _ _ _ (by simp))
  go_enter Tryz.func82, Tryz.ntmps82
  go_upto_region 1 with fail
  simp only [← hw1]
  clear hw1
  go_wp2_with fail
  refine (insist_ok _).mono ?_
  rintro e w' ⟨rfl, rfl⟩
  obtain ⟨c0, c1, c2, c3⟩ := cells4 R1.out
  have z0 := froz_row R2.out 0
  have z1 := froz_row R2.out 1
  have z2 := froz_row R2.out 2
  have z3 := froz_row R2.out 3
  obtain ⟨d0, d1, d2, d3⟩ := cells4 R2.out
  go_wp2_with fail
  rw [set4 R2.out]
  exact bodyPost_ret (v := entV t k (.slice A n c) (.slice A' n' c')) (res_c Tryz.results82 _ _ (w.heap.size + 1) _ _ rfl (row_setRow R2.out _) Tryz.underlying27 rfl (by kernel_rfl)) rfl ⟨rfl, below_setRow B1.out (by omega) _⟩
/-- the byte string at the front -/
def bdK (n : Nat) (f : Bf) : Prop := tkE (min n 3) f = 0 ∧ tkV f ≤ n - tkL f
def bdP (n : Nat) (f : Bf) (w : World) (e : Ending) (w' : World) : Prop := Below w.heap.size w w' ∧
  ((bdK n f ∧ ∃ A c, e = .returned (.slice A (tkV f) c) ∧ Sl w' w.heap.size A (tkV f) c (offF f (tkL f))) ∨ (¬ bdK n f ∧ ∃ E, E ≠ 0 ∧ e = .panicked (pnE E)))
set_option maxHeartbeats 2000000 in
theorem body_any (n c : Nat) (A : Option Addr) (f : Bf) (w : World) (hs : Sl w w.heap.size A n c f) (hn : n ≤ 140737488355328) (hc : c ≤ maxLen) :
    Calls Tryz.prog 56 #[.slice A n c] w (bdP n f w) := by
  have HS := Lib.hid hs
  have hnc := hs.le
  by_cases h3 : 3 < n
  · have hd3 : ¬ ((n : Int) ≤ 3) := by omega
    have HM := Lib.hid (show min n 3 = 3 by omega)
    have H1 := Lib.hid (take_num 3 c A f w (hs.upto 3 (by omega)) (by omega))
    clear hs
    go_enter Tryz.func56, Tryz.ntmps56
    go_wp2_with fail
    refine H1.out.mono ?_
    rintro e w1 (⟨hz, rfl, hb⟩ | ⟨hz, v, rfl, ho, hb⟩)
    · have HZ := Lib.hid (show ¬ bdK n f from fun h => hz (by have := h.1; rw [HM.out] at this; exact this))
      have HB := Lib.hid hb
      obtain ⟨E, hE⟩ : ∃ E, E = tkE 3 f := ⟨_, rfl⟩
      rw [← hE] at hz ⊢
      have hzi : ((E : Nat) : Int) ≠ 0 := by omega
      clear hz hb H1 hE
      go_wp2_with fail
      refine (insist_bad _ hzi _).mono ?_
      rintro e w2 ⟨rfl, rfl⟩
      go_wp2_with fail
      exact ⟨rfl, HB.out, .inr ⟨HZ.out, _, hzi, rfl⟩⟩
    · obtain ⟨A1, c1, hv, hs1, -, -⟩ := ho.sl
      subst hv
      have HB := Lib.hid hb
      have HT := Lib.hid (HS.out.below hb)
      have hl := tkL_le hz
      have HZ := Lib.hid hz
      obtain ⟨L, hL⟩ : ∃ L, L = tkL f := ⟨_, rfl⟩
      obtain ⟨V, hV⟩ : ∃ V, V = tkV f := ⟨_, rfl⟩
      rw [← hL] at hl
      rw [← hL, ← hV]
      have HL := Lib.hid hL
      have HV := Lib.hid hV
      have e0 : ((3 : Nat) : Int) - ((3 - L : Nat) : Int) = (L : Int) := by omega
      have e2 : (3 : Int) - ((3 - L : Nat) : Int) = (L : Int) := by omega
      have e1 : IntKind.i64.wrap (((3 : Nat) : Int) - ((3 - L : Nat) : Int)) = (L : Int) := by rw [show (((3 : Nat) : Int) - ((3 - L : Nat) : Int)) = (L : Int) by omega, IntKind.wrap_i64]; omega
      have q1 := fun w => run_from (P := Tryz.prog) sli_u u8_i A n c L (by omega) w
      clear hb H1 hz ho hs1 hL hV
      go_wp2_with fail
      refine (insist_ok _).mono ?_
      rintro e w2 ⟨rfl, rfl⟩
      have HL0 := HL.out
      by_cases hv : V ≤ n - L
      · have hd : decide (n - L < V) = false := by simp; omega
        have q2 := fun w => run_upto (P := Tryz.prog) sli_u u8_i (cutA A c L) (n - L) (c - L) V (by omega) w
        have HS2 := Lib.hid ((HT.out.from_ L (by omega)).upto V hv)
        have HK := Lib.hid (show bdK n f from ⟨by rw [HM.out]; exact HZ.out, by rw [← HV.out, ← HL.out]; exact hv⟩)
        clear hv HL0
        go_wp2_with fail
        go_ret
        exact ⟨HB.out, .inl ⟨HK.out, cutA A c L, c - L, by rw [HV.out]; rfl, by rw [← HV.out, ← HL.out]; exact HS2.out⟩⟩
      · have hd : decide (n - L < V) = true := by simp; omega
        have HK := Lib.hid (show ¬ bdK n f from fun h => hv (by have := h.2; rw [← HV.out, ← HL.out] at this; exact this))
        clear hv HL0
        go_wp2_with fail
        exact ⟨rfl, HB.out, .inr ⟨HK.out, 3, by omega, rfl⟩⟩
  · have hd3 : (n : Int) ≤ 3 := by omega
    have HM := Lib.hid (show min n 3 = n by omega)
    have H1 := Lib.hid (take_num n c A f w (hs.upto n (by omega)) (by omega))
    clear hs
    go_enter Tryz.func56, Tryz.ntmps56
    go_wp2_with fail
    refine H1.out.mono ?_
    rintro e w1 (⟨hz, rfl, hb⟩ | ⟨hz, v, rfl, ho, hb⟩)
    · have HZ := Lib.hid (show ¬ bdK n f from fun h => hz (by have := h.1; rw [HM.out] at this; exact this))
      have HB := Lib.hid hb
      obtain ⟨E, hE⟩ : ∃ E, E = tkE n f := ⟨_, rfl⟩
      rw [← hE] at hz ⊢
      have hzi : ((E : Nat) : Int) ≠ 0 := by omega
      clear hz hb H1 hE
      go_wp2_with fail
      refine (insist_bad _ hzi _).mono ?_
      rintro e w2 ⟨rfl, rfl⟩
      go_wp2_with fail
      exact ⟨rfl, HB.out, .inr ⟨HZ.out, _, hzi, rfl⟩⟩
    · obtain ⟨A1, c1, hv, hs1, -, -⟩ := ho.sl
      subst hv
      have HB := Lib.hid hb
      have HT := Lib.hid (HS.out.below hb)
      have hl := tkL_le hz
      have HZ := Lib.hid hz
      obtain ⟨L, hL⟩ : ∃ L, L = tkL f := ⟨_, rfl⟩
      obtain ⟨V, hV⟩ : ∃ V, V = tkV f := ⟨_, rfl⟩
      rw [← hL] at hl
      rw [← hL, ← hV]
      have HL := Lib.hid hL
      have HV := Lib.hid hV
      have e0 : ((n : Nat) : Int) - ((n - L : Nat) : Int) = (L : Int) := by omega
      have e1 : IntKind.i64.wrap (((n : Nat) : Int) - ((n - L : Nat) : Int)) = (L : Int) := by rw [show (((n : Nat) : Int) - ((n - L : Nat) : Int)) = (L : Int) by omega, IntKind.wrap_i64]; omega
      have q1 := fun w => run_from (P := Tryz.prog) sli_u u8_i A n c L (by omega) w
      clear hb H1 hz ho hs1 hL hV
      go_wp2_with fail
      refine (insist_ok _).mono ?_
      rintro e w2 ⟨rfl, rfl⟩
      have HL0 := HL.out
      by_cases hv : V ≤ n - L
      · have hd : decide (n - L < V) = false := by simp; omega
        have q2 := fun w => run_upto (P := Tryz.prog) sli_u u8_i (cutA A c L) (n - L) (c - L) V (by omega) w
        have HS2 := Lib.hid ((HT.out.from_ L (by omega)).upto V hv)
        have HK := Lib.hid (show bdK n f from ⟨by rw [HM.out]; exact HZ.out, by rw [← HV.out, ← HL.out]; exact hv⟩)
        clear hv HL0
        go_wp2_with fail
        go_ret
        exact ⟨HB.out, .inl ⟨HK.out, cutA A c L, c - L, by rw [HV.out]; rfl, by rw [← HV.out, ← HL.out]; exact HS2.out⟩⟩
      · have hd : decide (n - L < V) = true := by simp; omega
        have HK := Lib.hid (show ¬ bdK n f from fun h => hv (by have := h.2; rw [← HV.out, ← HL.out] at this; exact this))
        clear hv HL0
        go_wp2_with fail
        exact ⟨rfl, HB.out, .inr ⟨HK.out, 3, by omega, rfl⟩⟩
end Go.Proofs.YtdfcldomjjcidaaGreatDoor.Oct
