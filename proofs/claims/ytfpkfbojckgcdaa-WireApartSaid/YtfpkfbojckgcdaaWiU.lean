/- Contract: wire.TakeCommand. -/
import Derived.Test.YtfpkfbojckgcdaaWiS
import Derived.Test.YtfpkfbojckgcdaaWiQ
import Derived.Test.YtfpkfbojckgcdaaWiH
namespace Go.Proofs.Ytfpkfbojckgcdaa.Oct
open Go.ChangeShapes Go.WideShapes Go.ChangeAt Go.RowKit
set_option linter.unusedVariables false

/-- behind a text that begins at o -/
def txO (f : Bf) (o : Nat) : Nat := o + (tkL (offF f o) + tkV (offF f o))
/-- where a command's parts begin -/
def tcO (f : Bf) : Nat → Nat := fun j => if j = 0 then 0 else if j = 1 then puO f 5 else if j = 2 then txO f (puO f 5) else txO f (txO f (puO f 5))
/-- their errors -/
def tcS (n : Nat) (f : Bf) : Nat → Nat := th3 (puE n f 5) (ttE (n - tcO f 1) 4096 (offF f (tcO f 1))) (ttE (n - tcO f 2) 4096 (offF f (tcO f 2)))
/-- its texts -/
def tcT (f : Bf) : Nat := tkV (offF f (tcO f 1))
def tcF (f : Bf) : Bf := offF f (tcO f 1 + tkL (offF f (tcO f 1)))
def tcU (f : Bf) : Nat := tkV (offF f (tcO f 2))
def tcG (f : Bf) : Bf := offF f (tcO f 2 + tkL (offF f (tcO f 2)))
/-- all n bytes are a command -/
def tcK (n : Nat) (f : Bf) : Prop := fiE (tcS n f) 3 = 0 ∧ n - tcO f 3 = 0 ∧ chkE (puX f 0) (puX f 1) (puX f 2) (puX f 3) (puX f 4) (tcT f) (tcU f) = 0
abbrev comZ : Value := comV 0 0 0 0 0 (.slice none 0 0) (.slice none 0 0)
def tcP (n : Nat) (f : Bf) (w : World) (e : Ending) (w' : World) : Prop :=
  (¬ tcK n f ∧ e = .returned (.tuple #[comZ, .int .i64 80]) ∧ Below w.heap.size w w') ∨
  (tcK n f ∧ ∃ A c A' c', e = .returned (.tuple #[comV (puX f 0 : Nat) (puX f 1 : Nat) (puX f 2 : Nat) (puX f 3 : Nat) (puX f 4 : Nat) (.slice A (tcT f) c) (.slice A' (tcU f) c'), .int .i64 0]) ∧ Sl w' w'.heap.size A (tcT f) c (tcF f) ∧ Sl w' w'.heap.size A' (tcU f) c' (tcG f) ∧ Below w.heap.size w w')
/-- the blocks that TakeCommand lays ahead of decoding -/
structure TcW (w W : World) : Prop where
  b : Below w.heap.size w W
  rb : row W w.heap.size = some #[.int .i64 0, .int .i64 0, .int .i64 0, .int .i64 0, .int .i64 0, .slice none 0 0, .slice none 0 0]
  rg : row W (w.heap.size + 1) = some #[.int .i64 0, .int .i64 0, .int .i64 0, .int .i64 0, .int .i64 0, .slice none 0 0, .slice none 0 0]
  rp : row W (w.heap.size + 1 + 1) = some #[.pointer (some ⟨w.heap.size + 1, 0, none⟩), .pointer (some ⟨w.heap.size + 1, 1, none⟩), .pointer (some ⟨w.heap.size + 1, 2, none⟩), .pointer (some ⟨w.heap.size + 1, 3, none⟩), .pointer (some ⟨w.heap.size + 1, 4, none⟩)]
  r1 : row W (w.heap.size + 1 + 1 + 1) = some #[.slice (some ⟨w.heap.size + 1 + 1, 0, none⟩) 5 5]
  r2 : row W (w.heap.size + 1 + 1 + 1 + 1) = some #[.pointer (some ⟨w.heap.size + 1, 5, none⟩)]
  r3 : row W (w.heap.size + 1 + 1 + 1 + 1 + 1) = some #[.pointer (some ⟨w.heap.size + 1, 6, none⟩)]
  rq : row W (w.heap.size + 1 + 1 + 1 + 1 + 1 + 1) = some #[.func (.func 54) #[] #[.pointer (some ⟨w.heap.size + 1 + 1 + 1, 0, none⟩)], .func (.func 56) #[] #[.pointer (some ⟨w.heap.size + 1 + 1 + 1 + 1, 0, none⟩)], .func (.func 56) #[] #[.pointer (some ⟨w.heap.size + 1 + 1 + 1 + 1 + 1, 0, none⟩)]]
section
variable (w W : World) (f : Bf)
abbrev tcR : World → Prop := Rs w W (fun k => k = w.heap.size + 1)
def tcI0 (w' : World) : Prop := tcR w W w' ∧ row w' (w.heap.size + 1) = some #[.int .i64 0, .int .i64 0, .int .i64 0, .int .i64 0, .int .i64 0, .slice none 0 0, .slice none 0 0]
def tcI1 (w' : World) : Prop := tcR w W w' ∧ row w' (w.heap.size + 1) = some #[.int .i64 (puX f 0 : Nat), .int .i64 (puX f 1 : Nat), .int .i64 (puX f 2 : Nat), .int .i64 (puX f 3 : Nat), .int .i64 (puX f 4 : Nat), .slice none 0 0, .slice none 0 0]
def tcI2 (w' : World) : Prop := tcR w W w' ∧ ∃ A c, row w' (w.heap.size + 1) = some #[.int .i64 (puX f 0 : Nat), .int .i64 (puX f 1 : Nat), .int .i64 (puX f 2 : Nat), .int .i64 (puX f 3 : Nat), .int .i64 (puX f 4 : Nat), .slice A (tcT f) c, .slice none 0 0] ∧
  Sl w' w'.heap.size A (tcT f) c (tcF f) ∧ Off w.heap.size (tcT f) A ∧ Off (w.heap.size + 1) (tcT f) A
def tcI3 (w' : World) : Prop := tcR w W w' ∧ ∃ A c A' c', row w' (w.heap.size + 1) = some #[.int .i64 (puX f 0 : Nat), .int .i64 (puX f 1 : Nat), .int .i64 (puX f 2 : Nat), .int .i64 (puX f 3 : Nat), .int .i64 (puX f 4 : Nat), .slice A (tcT f) c, .slice A' (tcU f) c'] ∧
  Sl w' w'.heap.size A (tcT f) c (tcF f) ∧ Off w.heap.size (tcT f) A ∧ Sl w' w'.heap.size A' (tcU f) c' (tcG f) ∧ Off w.heap.size (tcU f) A'
def tcI (j : Nat) : World → Prop := if j = 0 then tcI0 w W else if j = 1 then tcI1 w W f else if j = 2 then tcI2 w W f else tcI3 w W f
end
theorem tcI_rs {w W : World} {f : Bf} {j : Nat} {w' : World} (h : tcI w W f j w') : tcR w W w' := by
  unfold tcI at h
  split at h
  · exact h.1
  · split at h
    · exact h.1
    · split at h
      · exact h.1
      · exact h.1
abbrev tcZ (w : World) : Nat → Option Addr → Prop := fun m A => Off (w.heap.size + 1) m A
theorem tc_take0 {w W : World} {n : Nat} {f : Bf} (H : TcW w W) (hn : n ≤ 140737488355328) :
    Takes (.func (.func 54) #[] #[.pointer (some ⟨w.heap.size + 1 + 1 + 1, 0, none⟩)]) n f (puE n f 5) 0 (puO f 5) (tcI0 w W) (tcI1 w W f) (tcR w W) (tcZ w) := by
  refine ⟨_, _, rfl, entr (fn := Try.f54) (by kernel_rfl) (by kernel_rfl) (by kernel_rfl), fun w1 A c ⟨hr, hg⟩ hs hz => ?_⟩
  rw [Nat.sub_zero, offF_zero] at hs
  rw [Nat.sub_zero] at hz ⊢
  refine (nto_any _ n c 5 5 A _ f (fun _ => w.heap.size + 1) (fun j => j) w1 (hr.row H.r1 (by omega)) (hr.slG H.rp (by omega) fun i hi => ?_) (fun j hj _ a ha e => ?_) (fun j hj => ⟨row_lt hg, _, hg, by show j < 7; omega⟩) hs (fun j hj => hz) hn (by omega) (by omega)).mono ?_
  · have : i = 0 ∨ i = 1 ∨ i = 2 ∨ i = 3 ∨ i = 4 := by omega
    rcases this with rfl | rfl | rfl | rfl | rfl <;> rfl
  · obtain rfl := Option.some.inj ha
    simp at e
  rintro e w2 (⟨h1, h2, i, y, h3, h4⟩ | ⟨h1, v, h2, h3, h4⟩)
  · exact .inl ⟨h1, ⟨_, h2⟩, hr.wrts h4 (fun _ _ => rfl) (fun _ _ => by omega)⟩
  · obtain ⟨A2, c2, rfl, hs2, -, -⟩ := h4.sl
    refine .inr ⟨h1, A2, c2, h2, hs2, off_own h4 (row_lt hg), hr.wrts h3 (fun _ _ => rfl) (fun _ _ => by omega), ?_⟩
    obtain ⟨w6, ⟨w5, ⟨w4, ⟨w3, ⟨w7, k0, k1⟩, k2⟩, k3⟩, k4⟩, k5⟩ := h3
    have k0' : w7 = w1 := k0
    subst k0'
    exact k5.row (k4.row (k3.row (k2.row (k1.row hg))))
theorem tc_take1 {w W : World} {n : Nat} {f : Bf} (H : TcW w W) (hn : n ≤ 140737488355328) :
    Takes (.func (.func 56) #[] #[.pointer (some ⟨w.heap.size + 1 + 1 + 1 + 1, 0, none⟩)]) n f (ttE (n - tcO f 1) 4096 (offF f (tcO f 1))) (tcO f 1) (tcO f 2) (tcI1 w W f) (tcI2 w W f) (tcR w W) (tcZ w) := by
  refine ⟨_, _, rfl, entr (fn := Try.f56) (by kernel_rfl) (by kernel_rfl) (by kernel_rfl), fun w1 A c ⟨hr, hg⟩ hs hz => ?_⟩
  refine (tto_any _ (n - tcO f 1) c (w.heap.size + 1) 5 A (offF f (tcO f 1)) w1 (by omega) (hr.row H.r2 (by omega)) ⟨_, hg, by show 5 < 7; omega⟩ hs (by omega)).mono ?_
  have hlt := row_lt hg
  rintro e w2 (⟨h1, h2, h3⟩ | ⟨h1, A', c', v, h2, h3, h4, h5⟩)
  · exact .inl ⟨h1, ⟨_, h2⟩, hr.wrt h3 rfl (by omega)⟩
  · rw [Nat.sub_sub, Nat.sub_sub, offF_offF, show tcO f 1 + (tkL (offF f (tcO f 1)) + tkV (offF f (tcO f 1))) = tcO f 2 from rfl] at h5
    rw [offF_offF] at h4
    obtain ⟨A2, c2, rfl, hs2, -, -⟩ := h5.sl
    refine .inr ⟨h1, A2, c2, h2, hs2, off_own h5 hlt, hr.wrt h3 rfl (by omega), A', c', h3.row hg, ?_, off_own h4 (by omega), off_own h4 hlt⟩
    obtain ⟨A3, c3, e3, hs3, -, -⟩ := h4.sl
    injection e3 with e1 e2 e4
    subst e1 e4
    exact hs3
theorem tc_take2 {w W : World} {n : Nat} {f : Bf} (H : TcW w W) (hn : n ≤ 140737488355328) :
    Takes (.func (.func 56) #[] #[.pointer (some ⟨w.heap.size + 1 + 1 + 1 + 1 + 1, 0, none⟩)]) n f (ttE (n - tcO f 2) 4096 (offF f (tcO f 2))) (tcO f 2) (tcO f 3) (tcI2 w W f) (tcI3 w W f) (tcR w W) (tcZ w) := by
  refine ⟨_, _, rfl, entr (fn := Try.f56) (by kernel_rfl) (by kernel_rfl) (by kernel_rfl), fun w1 A c ⟨hr, Ad, cd, hg, hd, hdb, hdg⟩ hs hz => ?_⟩
  refine (tto_any _ (n - tcO f 2) c (w.heap.size + 1) 6 A (offF f (tcO f 2)) w1 (by omega) (hr.row H.r3 (by omega)) ⟨_, hg, by show 6 < 7; omega⟩ hs (by omega)).mono ?_
  have hlt := row_lt hg
  rintro e w2 (⟨h1, h2, h3⟩ | ⟨h1, A', c', v, h2, h3, h4, h5⟩)
  · exact .inl ⟨h1, ⟨_, h2⟩, hr.wrt h3 rfl (by omega)⟩
  · rw [Nat.sub_sub, Nat.sub_sub, offF_offF, show tcO f 2 + (tkL (offF f (tcO f 2)) + tkV (offF f (tcO f 2))) = tcO f 3 from rfl] at h5
    rw [offF_offF] at h4
    obtain ⟨A2, c2, rfl, hs2, -, -⟩ := h5.sl
    refine .inr ⟨h1, A2, c2, h2, hs2, off_own h5 hlt, hr.wrt h3 rfl (by omega), Ad, cd, A', c', h3.row hg, (h3.sl hd (Nat.le_refl _) hdg).more h3.size, hdb, ?_, off_own h4 (by omega)⟩
    obtain ⟨A3, c3, e3, hs3, -, -⟩ := h4.sl
    injection e3 with e1 e2 e4
    subst e1 e4
    exact hs3
set_option maxRecDepth 20000 in
set_option maxHeartbeats 8000000 in
theorem takecom_any (n c : Nat) (A : Option Addr) (f : Bf) (w : World) (hs : Sl w w.heap.size A n c f) (hn : n ≤ 140737488355328) :
    Calls Try.prog 13 #[.slice A n c] w (tcP n f w) := by
  have HS := Lib.hid hs
  clear hs
  go_enter Try.func13, Try.ntmps13
  go_wp2_with fail
  refine (mknto_any 5 5 _ _).mono ?_
  rintro e w1 ⟨rfl, rfl⟩
  go_wp2_with fail
  refine (mktto_any _ 5 _).mono ?_
  rintro e w1 ⟨rfl, rfl⟩
  go_wp2_with fail
  refine (mktto_any _ 6 _).mono ?_
  rintro e w1 ⟨rfl, rfl⟩
  go_wp2_with fail
  have HW := Lib.hid (show TcW w (((((((w.alloc (.cells #[.int .i64 0, .int .i64 0, .int .i64 0, .int .i64 0, .int .i64 0, .slice none 0 0, .slice none 0 0] 24)).alloc (.cells #[.int .i64 0, .int .i64 0, .int .i64 0, .int .i64 0, .int .i64 0, .slice none 0 0, .slice none 0 0] 24)).alloc (.cells #[.pointer (some ⟨w.heap.size + 1, 0, none⟩), .pointer (some ⟨w.heap.size + 1, 1, none⟩), .pointer (some ⟨w.heap.size + 1, 2, none⟩), .pointer (some ⟨w.heap.size + 1, 3, none⟩), .pointer (some ⟨w.heap.size + 1, 4, none⟩)] 62)).alloc (.cells #[.slice (some ⟨w.heap.size + 1 + 1, 0, none⟩) 5 5] 90)).alloc (.cells #[.pointer (some ⟨w.heap.size + 1, 5, none⟩)] 64)).alloc (.cells #[.pointer (some ⟨w.heap.size + 1, 6, none⟩)] 64)).alloc (.cells #[.func (.func 54) #[] #[.pointer (some ⟨w.heap.size + 1 + 1 + 1, 0, none⟩)], .func (.func 56) #[] #[.pointer (some ⟨w.heap.size + 1 + 1 + 1 + 1, 0, none⟩)], .func (.func 56) #[] #[.pointer (some ⟨w.heap.size + 1 + 1 + 1 + 1 + 1, 0, none⟩)]] 60)) from by
    refine ⟨?_, ?_, ?_, ?_, ?_, ?_, ?_, ?_⟩
    · exact (((((((Below.refl _ _).alloc (by simp) _).alloc (by simp) _).alloc (by simp; omega) _).alloc (by simp; omega) _).alloc (by simp; omega) _).alloc (by simp; omega) _).alloc (by simp; omega) _
    · exact row_alloc (row_alloc (row_alloc (row_alloc (row_alloc (row_alloc (row_alloc_at _ _ _ _ rfl) _) _) _) _) _) _
    · exact row_alloc (row_alloc (row_alloc (row_alloc (row_alloc (row_alloc_at _ _ _ _ (by simp)) _) _) _) _) _
    · exact row_alloc (row_alloc (row_alloc (row_alloc (row_alloc_at _ _ _ _ (by simp)) _) _) _) _
    · exact row_alloc (row_alloc (row_alloc (row_alloc_at _ _ _ _ (by simp)) _) _) _
    · exact row_alloc (row_alloc (row_alloc_at _ _ _ _ (by simp)) _) _
    · exact row_alloc (row_alloc_at _ _ _ _ (by simp)) _
    · exact row_alloc_at _ _ _ _ (by simp))
  obtain ⟨W, hW⟩ : ∃ W, W = (((((((w.alloc (.cells #[.int .i64 0, .int .i64 0, .int .i64 0, .int .i64 0, .int .i64 0, .slice none 0 0, .slice none 0 0] 24)).alloc (.cells #[.int .i64 0, .int .i64 0, .int .i64 0, .int .i64 0, .int .i64 0, .slice none 0 0, .slice none 0 0] 24)).alloc (.cells #[.pointer (some ⟨w.heap.size + 1, 0, none⟩), .pointer (some ⟨w.heap.size + 1, 1, none⟩), .pointer (some ⟨w.heap.size + 1, 2, none⟩), .pointer (some ⟨w.heap.size + 1, 3, none⟩), .pointer (some ⟨w.heap.size + 1, 4, none⟩)] 62)).alloc (.cells #[.slice (some ⟨w.heap.size + 1 + 1, 0, none⟩) 5 5] 90)).alloc (.cells #[.pointer (some ⟨w.heap.size + 1, 5, none⟩)] 64)).alloc (.cells #[.pointer (some ⟨w.heap.size + 1, 6, none⟩)] 64)).alloc (.cells #[.func (.func 54) #[] #[.pointer (some ⟨w.heap.size + 1 + 1 + 1, 0, none⟩)], .func (.func 56) #[] #[.pointer (some ⟨w.heap.size + 1 + 1 + 1 + 1, 0, none⟩)], .func (.func 56) #[] #[.pointer (some ⟨w.heap.size + 1 + 1 + 1 + 1 + 1, 0, none⟩)]] 60)) := ⟨_, rfl⟩
  rw [← hW] at HW ⊢
  clear hW
  have HD := Lib.hid (decodeW_any 3 n c 3 A (some ⟨w.heap.size + 1 + 1 + 1 + 1 + 1 + 1, 0, none⟩) (th3 (.func (.func 54) #[] #[.pointer (some ⟨w.heap.size + 1 + 1 + 1, 0, none⟩)]) (.func (.func 56) #[] #[.pointer (some ⟨w.heap.size + 1 + 1 + 1 + 1, 0, none⟩)]) (.func (.func 56) #[] #[.pointer (some ⟨w.heap.size + 1 + 1 + 1 + 1 + 1, 0, none⟩)])) f (tcS n f) (tcO f) (tcI w W f) (tcR w W) (tcZ w) W rfl
    ⟨Rs.start HW.out.b, HW.out.rg⟩ ((HS.out.below HW.out.b).more HW.out.b.size) (HS.out.off (by omega))
    (fun j w' h => (tcI_rs h).slG HW.out.rq (by omega) fun i hi => by
      have : i = 0 ∨ i = 1 ∨ i = 2 := by omega
      rcases this with rfl | rfl | rfl <;> rfl)
    (fun j hj => by
      have : j = 0 ∨ j = 1 ∨ j = 2 := by omega
      rcases this with rfl | rfl | rfl
      · exact tc_take0 HW.out hn
      · exact tc_take1 HW.out hn
      · exact tc_take2 HW.out hn) (by omega))
  have HRB := Lib.hid HW.out.rb
  clear HW HS hn
  refine HD.out.mono ?_
  clear HD
  rintro e w1 (⟨h1, rfl, hJ⟩ | ⟨h1, h2, rfl, hI⟩ | ⟨h1, h2, rfl, hI⟩)
  · have HK := Lib.hid (show ¬ tcK n f from fun h => h1 h.1)
    have rb := hJ.row HRB.out (by show ¬ (_ = _); omega)
    have B1 := Lib.hid hJ.low
    have RB := Lib.hid rb
    clear h1 hJ rb HRB
    obtain ⟨c0, c1, c2, c3, c4, c5, c6⟩ := cells7 RB.out
    have z0 := froz_row RB.out 0
    have z1 := froz_row RB.out 1
    have z2 := froz_row RB.out 2
    have z3 := froz_row RB.out 3
    have z4 := froz_row RB.out 4
    have z5 := froz_row RB.out 5
    have z6 := froz_row RB.out 6
    go_wp2_with fail
    rw [set7 RB.out]
    exact bodyPost_ret (v := .tuple #[comZ, .int .i64 80]) (res_ct Try.results13 _ _ w.heap.size _ _ rfl (row_setRow RB.out _) Try.underlying24 rfl (by kernel_rfl)) rfl (.inl ⟨HK.out, rfl, below_setRow B1.out (Nat.le_refl _) _⟩)
  · have HK := Lib.hid (show ¬ tcK n f from fun h => h2 h.2.1)
    have hJ := tcI_rs hI
    clear hI h2
    have rb := hJ.row HRB.out (by show ¬ (_ = _); omega)
    have B1 := Lib.hid hJ.low
    have RB := Lib.hid rb
    clear h1 hJ rb HRB
    obtain ⟨c0, c1, c2, c3, c4, c5, c6⟩ := cells7 RB.out
    have z0 := froz_row RB.out 0
    have z1 := froz_row RB.out 1
    have z2 := froz_row RB.out 2
    have z3 := froz_row RB.out 3
    have z4 := froz_row RB.out 4
    have z5 := froz_row RB.out 5
    have z6 := froz_row RB.out 6
    go_wp2_with fail
    rw [set7 RB.out]
    exact bodyPost_ret (v := .tuple #[comZ, .int .i64 80]) (res_ct Try.results13 _ _ w.heap.size _ _ rfl (row_setRow RB.out _) Try.underlying24 rfl (by kernel_rfl)) rfl (.inl ⟨HK.out, rfl, below_setRow B1.out (Nat.le_refl _) _⟩)
  · obtain ⟨hJ, Ad, cd, Ab, cb, hg, hd, hdo, hb, hbo⟩ : tcI3 w W f w1 := hI
    have rb := hJ.row HRB.out (by show ¬ (_ = _); omega)
    have HQ := Lib.hid (And.intro h1 h2)
    have HDA := Lib.hid (And.intro hd hdo)
    have HBE := Lib.hid (And.intro hb hbo)
    have B1 := Lib.hid hJ.low
    have RB1 := Lib.hid rb
    have RG1 := Lib.hid hg
    have HC := Lib.hid (check_any (puX f 0 : Nat) (puX f 1 : Nat) (puX f 2 : Nat) (puX f 3 : Nat) (puX f 4 : Nat) (tcT f) (tcU f) cd cb Ad Ab w1)
    obtain ⟨E, hE⟩ : ∃ E, E = chkE (puX f 0 : Nat) (puX f 1 : Nat) (puX f 2 : Nat) (puX f 3 : Nat) (puX f 4 : Nat) (tcT f) (tcU f) := ⟨_, rfl⟩
    rw [← hE] at HC
    have HE := Lib.hid hE
    obtain ⟨T, hT⟩ : ∃ T, T = tcT f := ⟨_, rfl⟩
    obtain ⟨U, hU⟩ : ∃ U, U = tcU f := ⟨_, rfl⟩
    obtain ⟨x0, hx0⟩ : ∃ x, x = puX f 0 := ⟨_, rfl⟩
    obtain ⟨x1, hx1⟩ : ∃ x, x = puX f 1 := ⟨_, rfl⟩
    obtain ⟨x2, hx2⟩ : ∃ x, x = puX f 2 := ⟨_, rfl⟩
    obtain ⟨x3, hx3⟩ : ∃ x, x = puX f 3 := ⟨_, rfl⟩
    obtain ⟨x4, hx4⟩ : ∃ x, x = puX f 4 := ⟨_, rfl⟩
    rw [← hT, ← hU, ← hx0, ← hx1, ← hx2, ← hx3, ← hx4] at RG1 HC
    have HX := Lib.hid (And.intro hx0 (And.intro hx1 (And.intro hx2 (And.intro hx3 (And.intro hx4 (And.intro hT hU))))))
    clear h1 h2 hJ hg hd hdo hb hbo rb HRB hE hT hU hx0 hx1 hx2 hx3 hx4
    obtain ⟨c0, c1, c2, c3, c4, c5, c6⟩ := cells7 RG1.out
    go_wp2_with fail
    refine HC.out.mono ?_
    rintro e w2 ⟨rfl, hb2⟩
    have B2 := Lib.hid (onto B1.out B1.out.size hb2)
    have RB := Lib.hid (carry hb2 RB1.out)
    have RG := Lib.hid (carry hb2 RG1.out)
    have SD := Lib.hid ((HDA.out.1.below hb2).more hb2.size)
    have SB := Lib.hid ((HBE.out.1.below hb2).more hb2.size)
    clear hb2 HC RB1 RG1 c0 c1 c2 c3 c4 c5 c6 B1
    obtain ⟨c0, c1, c2, c3, c4, c5, c6⟩ := cells7 RB.out
    have z0 := froz_row RB.out 0
    have z1 := froz_row RB.out 1
    have z2 := froz_row RB.out 2
    have z3 := froz_row RB.out 3
    have z4 := froz_row RB.out 4
    have z5 := froz_row RB.out 5
    have z6 := froz_row RB.out 6
    by_cases h0 : E = 0
    · have HK := Lib.hid (show tcK n f from ⟨HQ.out.1, HQ.out.2, by rw [← HE.out]; exact h0⟩)
      subst h0
      obtain ⟨d0, d1, d2, d3, d4, d5, d6⟩ := cells7 RG.out
      go_wp2_with fail
      rw [set7 RB.out]
      obtain ⟨e0, e1, e2, e3, e4, eT, eU⟩ := HX.out
      have hp : Put w.heap.size #[.int .i64 (x0 : Int), .int .i64 (x1 : Int), .int .i64 (x2 : Int), .int .i64 (x3 : Int), .int .i64 (x4 : Int), .slice Ad T cd, .slice Ab U cb] w2 (w2.setRow w.heap.size #[.int .i64 (x0 : Int), .int .i64 (x1 : Int), .int .i64 (x2 : Int), .int .i64 (x3 : Int), .int .i64 (x4 : Int), .slice Ad T cd, .slice Ab U cb]) := Put.of (Below.refl _ _) (row_lt RB.out) _
      refine bodyPost_ret (v := .tuple #[comV (x0 : Int) (x1 : Int) (x2 : Int) (x3 : Int) (x4 : Int) (.slice Ad T cd) (.slice Ab U cb), .int .i64 0]) (res_ct Try.results13 _ _ w.heap.size _ _ rfl (row_setRow RB.out _) Try.underlying24 rfl (by kernel_rfl)) rfl (.inr ⟨HK.out, Ad, cd, Ab, cb, by rw [e0, e1, e2, e3, e4, eT, eU], ?_, ?_, below_setRow B2.out (Nat.le_refl _) _⟩)
      · exact (hp.sl SD.out (Nat.le_refl _) HDA.out.2).more hp.size
      · exact (hp.sl SB.out (Nat.le_refl _) HBE.out.2).more hp.size
    · have HK := Lib.hid (show ¬ tcK n f from fun h => h0 (by rw [HE.out]; exact h.2.2))
      have hne : ((E : Int) != 0) = true := by simp; omega
      clear h0
      go_wp2_with fail
      rw [set7 RB.out]
      exact bodyPost_ret (v := .tuple #[comZ, .int .i64 80]) (res_ct Try.results13 _ _ w.heap.size _ _ rfl (row_setRow RB.out _) Try.underlying24 rfl (by kernel_rfl)) rfl (.inl ⟨HK.out, rfl, below_setRow B2.out (Nat.le_refl _) _⟩)
end Go.Proofs.Ytfpkfbojckgcdaa.Oct
