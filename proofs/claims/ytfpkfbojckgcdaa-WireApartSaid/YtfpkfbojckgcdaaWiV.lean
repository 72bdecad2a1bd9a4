/- Contract: wire.TakeReply. -/
import Derived.Test.YtfpkfbojckgcdaaWiU
import Derived.Test.YtfpkfbojckgcdaaWiI
namespace Go.Proofs.Ytfpkfbojckgcdaa.Oct
open Go.ChangeShapes Go.WideShapes Go.ChangeAt Go.RowKit
set_option linter.unusedVariables false

/-- where a reply's parts begin -/
def trO (f : Bf) : Nat → Nat := fun j => if j = 0 then 0 else if j = 1 then puO f 3 else txO f (puO f 3)
/-- their errors -/
def trS (n : Nat) (f : Bf) : Nat → Nat := th2 (puE n f 3) (ttE (n - trO f 1) 4096 (offF f (trO f 1)))
def trE (n : Nat) (f : Bf) : Nat := fiE (trS n f) 2
/-- its text -/
def trT (f : Bf) : Nat := tkV (offF f (trO f 1))
def trF (f : Bf) : Bf := offF f (trO f 1 + tkL (offF f (trO f 1)))
abbrev repZ : Value := repV 0 0 0 (.slice none 0 0)
def trP (n : Nat) (f : Bf) (w : World) (e : Ending) (w' : World) : Prop :=
  (trE n f ≠ 0 ∧ e = .returned (.tuple #[repZ, .slice none 0 0, .int .i64 (trE n f : Nat)]) ∧ Below w.heap.size w w') ∨
  (trE n f = 0 ∧ ∃ A c A' c', e = .returned (.tuple #[repV (puX f 0 : Nat) (puX f 1 : Nat) (puX f 2 : Nat) (.slice A (trT f) c), .slice A' (n - trO f 2) c', .int .i64 0]) ∧ Sl w' w'.heap.size A (trT f) c (trF f) ∧ Sl w' w'.heap.size A' (n - trO f 2) c' (offF f (trO f 2)) ∧ Below w.heap.size w w')
/-- the blocks that TakeReply lays ahead of decoding -/
structure TrW (w W : World) : Prop where
  b : Below w.heap.size w W
  rb : row W w.heap.size = some #[.int .i64 0, .int .i64 0, .int .i64 0, .slice none 0 0]
  rg : row W (w.heap.size + 1) = some #[.int .i64 0]
  rp : row W (w.heap.size + 1 + 1) = some #[.pointer (some ⟨w.heap.size + 1, 0, none⟩), .pointer (some ⟨w.heap.size, 1, none⟩), .pointer (some ⟨w.heap.size, 2, none⟩)]
  r1 : row W (w.heap.size + 1 + 1 + 1) = some #[.slice (some ⟨w.heap.size + 1 + 1, 0, none⟩) 3 3]
  r2 : row W (w.heap.size + 1 + 1 + 1 + 1) = some #[.pointer (some ⟨w.heap.size, 3, none⟩)]
  rq : row W (w.heap.size + 1 + 1 + 1 + 1 + 1) = some #[.func (.func 54) #[] #[.pointer (some ⟨w.heap.size + 1 + 1 + 1, 0, none⟩)], .func (.func 56) #[] #[.pointer (some ⟨w.heap.size + 1 + 1 + 1 + 1, 0, none⟩)]]
section
variable (w W : World) (f : Bf)
abbrev trR : World → Prop := Rs w W (fun k => k = w.heap.size ∨ k = w.heap.size + 1)
def trJ (w' : World) : Prop := trR w W w' ∧ ∃ cs, row w' w.heap.size = some cs ∧ cs.size = 4
def trI0 (w' : World) : Prop := trR w W w' ∧ row w' w.heap.size = some #[.int .i64 0, .int .i64 0, .int .i64 0, .slice none 0 0] ∧ row w' (w.heap.size + 1) = some #[.int .i64 0]
def trI1 (w' : World) : Prop := trR w W w' ∧ row w' w.heap.size = some #[.int .i64 0, .int .i64 (puX f 1 : Nat), .int .i64 (puX f 2 : Nat), .slice none 0 0] ∧ row w' (w.heap.size + 1) = some #[.int .i64 (puX f 0 : Nat)]
def trI2 (w' : World) : Prop := trR w W w' ∧ ∃ A c, row w' w.heap.size = some #[.int .i64 0, .int .i64 (puX f 1 : Nat), .int .i64 (puX f 2 : Nat), .slice A (trT f) c] ∧ row w' (w.heap.size + 1) = some #[.int .i64 (puX f 0 : Nat)] ∧
  Sl w' w'.heap.size A (trT f) c (trF f) ∧ Off w.heap.size (trT f) A
def trI (j : Nat) : World → Prop := if j = 0 then trI0 w W else if j = 1 then trI1 w W f else trI2 w W f
end
theorem trI_rs {w W : World} {f : Bf} {j : Nat} {w' : World} (h : trI w W f j w') : trR w W w' := by
  unfold trI at h
  split at h
  · exact h.1
  · split at h
    · exact h.1
    · exact h.1
abbrev trZ (w : World) : Nat → Option Addr → Prop := fun m A => Off w.heap.size m A ∧ Off (w.heap.size + 1) m A
theorem tr_take0 {w W : World} {n : Nat} {f : Bf} (H : TrW w W) (hn : n ≤ 140737488355328) :
    Takes (.func (.func 54) #[] #[.pointer (some ⟨w.heap.size + 1 + 1 + 1, 0, none⟩)]) n f (puE n f 3) 0 (puO f 3) (trI0 w W) (trI1 w W f) (trJ w W) (trZ w) := by
  refine ⟨_, _, rfl, entr (fn := Try.f54) (by kernel_rfl) (by kernel_rfl) (by kernel_rfl), fun w1 A c ⟨hr, hg, hc⟩ hs hz => ?_⟩
  rw [Nat.sub_zero, offF_zero] at hs
  rw [Nat.sub_zero] at hz ⊢
  have hcase : ∀ j, j < 3 → (j = 0 ∨ j = 1 ∨ j = 2) := fun j hj => by omega
  refine (nto_any _ n c 3 3 A _ f (th3 (w.heap.size + 1) w.heap.size w.heap.size) (th3 0 1 2) w1 (hr.row H.r1 (by omega)) (hr.slG H.rp (by omega) fun i hi => ?_) (fun j hj _ a ha e => ?_) (fun j hj => ?_) hs (fun j hj => ?_) hn (by omega) (by omega)).mono ?_
  · rcases hcase i hi with rfl | rfl | rfl <;> rfl
  · obtain rfl := Option.some.inj ha
    rcases hcase j hj with rfl | rfl | rfl
    · simp [th3] at e
    · have e' : w.heap.size + 1 + 1 = w.heap.size := e
      omega
    · have e' : w.heap.size + 1 + 1 = w.heap.size := e
      omega
  · rcases hcase j hj with rfl | rfl | rfl
    · exact ⟨row_lt hc, _, hc, by show 0 < 1; omega⟩
    · exact ⟨row_lt hg, _, hg, by show 1 < 4; omega⟩
    · exact ⟨row_lt hg, _, hg, by show 2 < 4; omega⟩
  · rcases hcase j hj with rfl | rfl | rfl
    · exact hz.2
    · exact hz.1
    · exact hz.1
  have hh : ∀ i, i < 3 → (th3 (w.heap.size + 1) w.heap.size w.heap.size i = w.heap.size ∨ th3 (w.heap.size + 1) w.heap.size w.heap.size i = w.heap.size + 1) := fun i hi => by
    rcases hcase i hi with rfl | rfl | rfl
    · exact .inr rfl
    · exact .inl rfl
    · exact .inl rfl
  have hl : ∀ i, i < 3 → w.heap.size ≤ th3 (w.heap.size + 1) w.heap.size w.heap.size i := fun i hi => by have := hh i hi; omega
  rintro e w2 (⟨h1, h2, i, y, hi, h4⟩ | ⟨h1, v, h2, h3, h4⟩)
  · obtain ⟨cs, r, hs4⟩ := h4.rows hg
    exact .inl ⟨h1, ⟨_, h2⟩, hr.wrts h4 (fun k hk => hh k (by omega)) (fun k hk => hl k (by omega)), cs, r, hs4⟩
  · obtain ⟨A2, c2, rfl, hs2, -, -⟩ := h4.sl
    refine .inr ⟨h1, A2, c2, h2, hs2, ⟨off_own h4 (row_lt hg), off_own h4 (row_lt hc)⟩, hr.wrts h3 hh hl, ?_⟩
    obtain ⟨w5, ⟨w4, ⟨w7, k0, k1⟩, k2⟩, k3⟩ := h3
    have k0' : w7 = w1 := k0
    subst k0'
    have g1 : row w4 w.heap.size = _ := k1.other hg (by show w.heap.size ≠ w.heap.size + 1; omega)
    have c1 : row w4 (w.heap.size + 1) = _ := k1.row hc
    have g2 : row w5 w.heap.size = _ := k2.row g1
    have c2 : row w5 (w.heap.size + 1) = _ := k2.other c1 (by show w.heap.size + 1 ≠ w.heap.size; omega)
    exact ⟨k3.row g2, k3.other c2 (by show w.heap.size + 1 ≠ w.heap.size; omega)⟩
theorem tr_take1 {w W : World} {n : Nat} {f : Bf} (H : TrW w W) (hn : n ≤ 140737488355328) :
    Takes (.func (.func 56) #[] #[.pointer (some ⟨w.heap.size + 1 + 1 + 1 + 1, 0, none⟩)]) n f (ttE (n - trO f 1) 4096 (offF f (trO f 1))) (trO f 1) (trO f 2) (trI1 w W f) (trI2 w W f) (trJ w W) (trZ w) := by
  refine ⟨_, _, rfl, entr (fn := Try.f56) (by kernel_rfl) (by kernel_rfl) (by kernel_rfl), fun w1 A c ⟨hr, hg, hcd⟩ hs hz => ?_⟩
  refine (tto_any _ (n - trO f 1) c w.heap.size 3 A (offF f (trO f 1)) w1 (by omega) (hr.row H.r2 (by omega)) ⟨_, hg, by show 3 < 4; omega⟩ hs (by omega)).mono ?_
  have hlt := row_lt hg
  have hlc := row_lt hcd
  rintro e w2 (⟨h1, h2, h3⟩ | ⟨h1, A', c', v, h2, h3, h4, h5⟩)
  · exact .inl ⟨h1, ⟨_, h2⟩, hr.wrt h3 (.inl rfl) (by omega), _, h3.row hg, by simp⟩
  · rw [Nat.sub_sub, Nat.sub_sub, offF_offF, show trO f 1 + (tkL (offF f (trO f 1)) + tkV (offF f (trO f 1))) = trO f 2 from rfl] at h5
    rw [offF_offF] at h4
    obtain ⟨A2, c2, rfl, hs2, -, -⟩ := h5.sl
    refine .inr ⟨h1, A2, c2, h2, hs2, ⟨off_own h5 hlt, off_own h5 hlc⟩, hr.wrt h3 (.inl rfl) (by omega), A', c', h3.row hg, h3.other hcd (by omega), ?_, off_own h4 hlt⟩
    obtain ⟨A3, c3, e3, hs3, -, -⟩ := h4.sl
    injection e3 with e1 e2 e4
    subst e1 e4
    exact hs3
theorem size4 {cs : Array Value} (h : cs.size = 4) : ∃ a b c d, cs = #[a, b, c, d] := by
  obtain ⟨l⟩ := cs
  rcases l with _ | ⟨a, _ | ⟨b, _ | ⟨c, _ | ⟨d, _ | ⟨x, r⟩⟩⟩⟩⟩
  all_goals first | (simp at h; done) | skip
  exact ⟨a, b, c, d, rfl⟩
set_option maxRecDepth 20000 in
set_option maxHeartbeats 8000000 in
theorem takerep_any (n c : Nat) (A : Option Addr) (f : Bf) (w : World) (hs : Sl w w.heap.size A n c f) (hn : n ≤ 140737488355328) :
    Calls Try.prog 20 #[.slice A n c] w (trP n f w) := by
  have HS := Lib.hid hs
  clear hs
  go_enter Try.func20, Try.ntmps20
  go_wp2_with fail
  refine (mknto_any 3 3 _ _).mono ?_
  rintro e w1 ⟨rfl, rfl⟩
  go_wp2_with fail
  refine (mktto_any _ 3 _).mono ?_
  rintro e w1 ⟨rfl, rfl⟩
  go_wp2_with fail
  have HW := Lib.hid (show TrW w ((((((w.alloc (.cells #[.int .i64 0, .int .i64 0, .int .i64 0, .slice none 0 0] 35)).alloc (.cells #[.int .i64 0] 3)).alloc (.cells #[.pointer (some ⟨w.heap.size + 1, 0, none⟩), .pointer (some ⟨w.heap.size, 1, none⟩), .pointer (some ⟨w.heap.size, 2, none⟩)] 62)).alloc (.cells #[.slice (some ⟨w.heap.size + 1 + 1, 0, none⟩) 3 3] 90)).alloc (.cells #[.pointer (some ⟨w.heap.size, 3, none⟩)] 64)).alloc (.cells #[.func (.func 54) #[] #[.pointer (some ⟨w.heap.size + 1 + 1 + 1, 0, none⟩)], .func (.func 56) #[] #[.pointer (some ⟨w.heap.size + 1 + 1 + 1 + 1, 0, none⟩)]] 60)) from by
    refine ⟨?_, ?_, ?_, ?_, ?_, ?_, ?_⟩
    · exact ((((((Below.refl _ _).alloc (by simp) _).alloc (by simp) _).alloc (by simp; omega) _).alloc (by simp; omega) _).alloc (by simp; omega) _).alloc (by simp; omega) _
    · exact row_alloc (row_alloc (row_alloc (row_alloc (row_alloc (row_alloc_at _ _ _ _ rfl) _) _) _) _) _
    · exact row_alloc (row_alloc (row_alloc (row_alloc (row_alloc_at _ _ _ _ (by simp)) _) _) _) _
    · exact row_alloc (row_alloc (row_alloc (row_alloc_at _ _ _ _ (by simp)) _) _) _
    · exact row_alloc (row_alloc (row_alloc_at _ _ _ _ (by simp)) _) _
    · exact row_alloc (row_alloc_at _ _ _ _ (by simp)) _
    · exact row_alloc_at _ _ _ _ (by simp))
  obtain ⟨W, hW⟩ : ∃ W, W = ((((((w.alloc (.cells #[.int .i64 0, .int .i64 0, .int .i64 0, .slice none 0 0] 35)).alloc (.cells #[.int .i64 0] 3)).alloc (.cells #[.pointer (some ⟨w.heap.size + 1, 0, none⟩), .pointer (some ⟨w.heap.size, 1, none⟩), .pointer (some ⟨w.heap.size, 2, none⟩)] 62)).alloc (.cells #[.slice (some ⟨w.heap.size + 1 + 1, 0, none⟩) 3 3] 90)).alloc (.cells #[.pointer (some ⟨w.heap.size, 3, none⟩)] 64)).alloc (.cells #[.func (.func 54) #[] #[.pointer (some ⟨w.heap.size + 1 + 1 + 1, 0, none⟩)], .func (.func 56) #[] #[.pointer (some ⟨w.heap.size + 1 + 1 + 1 + 1, 0, none⟩)]] 60)) := ⟨_, rfl⟩
  rw [← hW] at HW ⊢
  clear hW
  have HD := Lib.hid (decode_any 2 n c 2 A (some ⟨w.heap.size + 1 + 1 + 1 + 1 + 1, 0, none⟩) (th2 (.func (.func 54) #[] #[.pointer (some ⟨w.heap.size + 1 + 1 + 1, 0, none⟩)]) (.func (.func 56) #[] #[.pointer (some ⟨w.heap.size + 1 + 1 + 1 + 1, 0, none⟩)])) f (trS n f) (trO f) (trI w W f) (trJ w W) (trZ w) W rfl
    ⟨Rs.start HW.out.b, HW.out.rb, HW.out.rg⟩ ((HS.out.below HW.out.b).more HW.out.b.size) ⟨HS.out.off (Nat.le_refl _), HS.out.off (by omega)⟩
    (fun j w' h => (trI_rs h).slG HW.out.rq (by omega) fun i hi => by
      have : i = 0 ∨ i = 1 := by omega
      rcases this with rfl | rfl <;> rfl)
    (fun j hj => by
      have : j = 0 ∨ j = 1 := by omega
      rcases this with rfl | rfl
      · exact tr_take0 HW.out hn
      · exact tr_take1 HW.out hn) (by omega))
  clear HW HS hn
  refine HD.out.mono ?_
  clear HD
  rintro e w1 (⟨h1, rfl, hJ, cs, hcs, h4⟩ | ⟨h1, A2, c2, rfl, hs2, hz2, hI⟩)
  · have HZ := Lib.hid (show trE n f ≠ 0 from h1)
    have B1 := Lib.hid hJ.low
    obtain ⟨a, b, d, e, rfl⟩ := size4 h4
    have RB := Lib.hid hcs
    obtain ⟨Y, hY⟩ : ∃ Y, Y = trE n f := ⟨_, rfl⟩
    rw [show ((fiE (trS n f) 2 : Nat) : Int) = (Y : Int) by rw [hY]; rfl]
    have hne : ((Y : Int) != 0) = true := by have := HZ.out; rw [← hY] at this; simp; omega
    have HY := Lib.hid hY
    clear h1 hJ hcs h4 hY
    obtain ⟨c0, c1, c2, c3⟩ := cells4 RB.out
    have z0 := froz_row RB.out 0
    have z1 := froz_row RB.out 1
    have z2 := froz_row RB.out 2
    have z3 := froz_row RB.out 3
    go_wp2_with fail
    rw [set4 RB.out]
    exact bodyPost_ret (v := .tuple #[repZ, .slice none 0 0, .int .i64 Y]) (res_ctt Try.results20 _ _ w.heap.size _ _ rfl (row_setRow RB.out _) Try.underlying35 rfl (by kernel_rfl)) rfl (.inl ⟨HZ.out, by rw [← HY.out], below_setRow B1.out (Nat.le_refl _) _⟩)
  · obtain ⟨hJ, Ad, cd, hg, hc, hd, hdo⟩ : trI2 w W f w1 := hI
    have HZ := Lib.hid (show trE n f = 0 from h1)
    have B1 := Lib.hid hJ.low
    have RB := Lib.hid hg
    have RC := Lib.hid hc
    have HD := Lib.hid (And.intro hd hdo)
    have HS2 := Lib.hid (And.intro hs2 hz2.1)
    obtain ⟨T, hT⟩ : ∃ T, T = trT f := ⟨_, rfl⟩
    obtain ⟨M, hM⟩ : ∃ M, M = n - trO f 2 := ⟨_, rfl⟩
    obtain ⟨x0, hx0⟩ : ∃ x, x = puX f 0 := ⟨_, rfl⟩
    obtain ⟨x1, hx1⟩ : ∃ x, x = puX f 1 := ⟨_, rfl⟩
    obtain ⟨x2, hx2⟩ : ∃ x, x = puX f 2 := ⟨_, rfl⟩
    rw [← hT, ← hx1, ← hx2] at RB
    rw [← hx0] at RC
    rw [← hM]
    have HX := Lib.hid (And.intro hx0 (And.intro hx1 (And.intro hx2 (And.intro hT hM))))
    clear h1 hJ hg hc hd hdo hs2 hz2 hT hM hx0 hx1 hx2
    obtain ⟨c0, c1, c2', c3⟩ := cells4 RB.out
    have cc := box_cell1 RC.out
    have z0 := froz_row RB.out 0
    have z1 := froz_row RB.out 1
    have z2 := froz_row RB.out 2
    have z3 := froz_row RB.out 3
    go_wp2_with fail
    have RB2 : row (w1.setCell ⟨w.heap.size, 0, none⟩ (.int .i64 (x0 : Int))) w.heap.size = some #[.int .i64 (x0 : Int), .int .i64 (x1 : Int), .int .i64 (x2 : Int), .slice Ad T cd] := by rw [setCell_row RB.out]; exact row_setRow RB.out _
    rw [set4 RB2]
    obtain ⟨e0, e1, e2, eT, eM⟩ := HX.out
    have hp : Put w.heap.size #[.int .i64 (x0 : Int), .int .i64 (x1 : Int), .int .i64 (x2 : Int), .slice Ad T cd] w1 ((w1.setCell ⟨w.heap.size, 0, none⟩ (.int .i64 (x0 : Int))).setRow w.heap.size #[.int .i64 (x0 : Int), .int .i64 (x1 : Int), .int .i64 (x2 : Int), .slice Ad T cd]) := by
      rw [setCell_row RB.out, setRow_setRow]
      exact Put.of (Below.refl _ _) (row_lt RB.out) _
    refine bodyPost_ret (v := .tuple #[repV (x0 : Int) (x1 : Int) (x2 : Int) (.slice Ad T cd), .slice A2 M c2, .int .i64 0]) (res_ctt Try.results20 _ _ w.heap.size _ _ rfl (row_setRow RB2 _) Try.underlying35 rfl (by kernel_rfl)) rfl (.inr ⟨HZ.out, Ad, cd, A2, c2, by rw [e0, e1, e2, eT, eM], ?_, ?_, B1.out.trans (hp.low (Nat.le_refl _) B1.out.size)⟩)
    · exact (hp.sl HD.out.1 (Nat.le_refl _) HD.out.2).more hp.size
    · exact (hp.sl HS2.out.1 (Nat.le_refl _) HS2.out.2).more hp.size
end Go.Proofs.Ytfpkfbojckgcdaa.Oct
