/- Contracts: TakeList. -/
import Derived.Test.YtfpkfbojckgcdaaPkG
namespace Go.Proofs.Ytfpkfbojckgcdaa.Oct
open Go.ChangeShapes Go.WideShapes Go.ChangeAt Go.RowKit
set_option linter.unusedVariables false

/-- ints as values -/
def iV (x : Nat → Int) : Nat → Value := fun i => .int .i64 (x i)
theorem SlG.upto {w : World} {B n c : Nat} {A : Option Addr} {V : Nat → Value} (h : SlG w B A n c V) (k : Nat) (hk : k ≤ n) : SlG w B A k c V := by
  refine ⟨by have := h.le; omega, fun hn => ?_⟩
  obtain ⟨g, o, rfl, hg, hc⟩ := h.at_ (by omega)
  exact ⟨g, o, rfl, hg, fun i hi => hc i (by omega)⟩

/- what bytes come to as a list -/
def tlO (f : Bf) : Nat → Nat
  | 0 => tkL f
  | j + 1 => tlO f j + tkL (offF f (tlO f j))
def tlX (f : Bf) (j : Nat) : Nat := tkV (offF f (tlO f j))
def tlE (n : Nat) (f : Bf) : Nat → Nat
  | 0 => 0
  | j + 1 => if tlE n f j ≠ 0 then tlE n f j else tkE (n - tlO f j) (offF f (tlO f j))
theorem tlE_stay {n : Nat} {f : Bf} {j : Nat} (h : tlE n f j ≠ 0) : ∀ d, tlE n f (j + d) = tlE n f j
  | 0 => rfl
  | d + 1 => by
    have := tlE_stay h d
    rw [← Nat.add_assoc, tlE, if_pos (by rw [this]; exact h), this]
theorem tlE_step {n : Nat} {f : Bf} {j : Nat} (h : tlE n f j = 0) : tlE n f (j + 1) = tkE (n - tlO f j) (offF f (tlO f j)) := by rw [tlE, if_neg (fun e => e h)]
theorem tlO_le {n : Nat} {f : Bf} (h0 : tkE n f = 0) : ∀ j, tlE n f j = 0 → tlO f j ≤ n
  | 0, _ => tkL_le h0
  | j + 1, h => by
    have hj : tlE n f j = 0 := by
      rcases Nat.eq_zero_or_pos (tlE n f j) with e | e
      · exact e
      · rw [tlE, if_pos (by omega)] at h; exact h
    have := tlO_le h0 j hj
    rw [tlE_step hj] at h
    have := tkL_le h
    simp only [tlO]
    omega
def tllE (n : Nat) (m : Int) (f : Bf) : Nat := if tkE n f ≠ 0 then tkE n f else if m < tkV f then 2 else tlE n f (tkV f)
def tllP (n : Nat) (m : Int) (f : Bf) (w : World) (e : Ending) (w' : World) : Prop :=
  (tllE n m f ≠ 0 ∧ e = .returned (.tuple #[.slice none 0 0, .slice none 0 0, .int .i64 (tllE n m f : Nat)]) ∧ Below w.heap.size w w') ∨
  (tllE n m f = 0 ∧ ∃ A c v, e = .returned (.tuple #[.slice A (tkV f) c, v, .int .i64 0]) ∧ SlG w' w'.heap.size A (tkV f) c (iV fun i => tlX f i) ∧ c ≤ maxLen ∧ Own w' w.heap.size 5 v (n - tlO f (tkV f)) (offF f (tlO f (tkV f))) ∧ Below w.heap.size w w')
/-- the same, with where the numbers lie -/
def tllQ (n : Nat) (m : Int) (f : Bf) (w : World) (e : Ending) (w' : World) : Prop :=
  (tllE n m f ≠ 0 ∧ e = .returned (.tuple #[.slice none 0 0, .slice none 0 0, .int .i64 (tllE n m f : Nat)]) ∧ Below w.heap.size w w') ∨
  (tllE n m f = 0 ∧ ∃ A c v, e = .returned (.tuple #[.slice A (tkV f) c, v, .int .i64 0]) ∧ SlG w' w'.heap.size A (tkV f) c (iV fun i => tlX f i) ∧ c ≤ maxLen ∧ Own w' w.heap.size 5 v (n - tlO f (tkV f)) (offF f (tlO f (tkV f))) ∧ Below w.heap.size w w' ∧ (A = none ∨ ∃ g, A = some ⟨g, 0, none⟩ ∧ w.heap.size ≤ g))
theorem tllQ.less {n : Nat} {m : Int} {f : Bf} {w : World} {e : Ending} {w' : World} (h : tllQ n m f w e w') : tllP n m f w e w' := by
  rcases h with h | ⟨h0, A, c, v, h1, h2, h3, h4, h5, -⟩
  · exact .inl h
  · exact .inr ⟨h0, A, c, v, h1, h2, h3, h4, h5⟩
/-- the first j numbers, as a list of values -/
def tlL (f : Bf) (j : Nat) : List Value := (List.range j).map fun i => .int .i64 (tlX f i : Nat)
theorem tlL_step (f : Bf) (j : Nat) : tlL f j ++ [.int .i64 (tlX f j : Nat)] = tlL f (j + 1) := by unfold tlL; rw [List.range_succ, List.map_append]; rfl
theorem tlL_nth (f : Bf) (j i : Nat) (h : i < j) : nth (tlL f j) i = iV (fun i => tlX f i) i := by unfold nth tlL iV; simp [h]

/-- what TakeList knows on its way -/
structure TlI (n : Nat) (f : Bf) (w : World) (j : Nat) (v : Value) (wr : World) : Prop where
  b : Below w.heap.size w wr
  ok : tlE n f j = 0
  x : ∃ A' c', row wr w.heap.size = some #[.slice A' (n - tlO f j) c'] ∧ Sl wr w.heap.size A' (n - tlO f j) c' (offF f (tlO f j))
  l : wr.ownsRow (w.heap.size + 1) 3 1 v j (tlL f j)

set_option maxHeartbeats 4000000 in
theorem takel_own (n c : Nat) (m : Int) (A : Option Addr) (f : Bf) (w : World) (hs : Sl w w.heap.size A n c f) (hn : n ≤ 140737488355328) (hm2 : m ≤ 2000) :
    Calls Try.prog 64 #[.slice A n c, .int .i64 m] w (tllQ n m f w) := by
  have H0 := Lib.hid (reader_any n c A w)
  have HS := Lib.hid hs
  clear hs
  go_enter Try.func64, Try.ntmps64
  go_wp2_with fail
  refine H0.out.mono ?_
  rintro e w1 ⟨rfl, hw1⟩
  have r1 : row w1 w.heap.size = some #[.slice A n c] := by rw [hw1]; exact row_alloc_at _ _ _ _ rfl
  have B1 : Below w.heap.size w w1 := by rw [hw1]; exact (Below.refl _ _).alloc (Nat.le_refl _) _
  clear hw1 H0
  have hX := row_lt r1
  have H1 := Lib.hid (upto_any w.heap.size w.heap.size n c m A f w1 r1 (HS.out.below B1) (Nat.le_refl _))
  have HB1 := Lib.hid B1
  have R1 := Lib.hid r1
  clear r1 B1
  go_wp2_with fail
  refine H1.out.mono ?_
  rintro e w2 (⟨hz, rfl, hb⟩ | ⟨hz, hm, rfl, hb⟩ | ⟨hz, hm, rfl, A', c', hp, hs'⟩)
  · have HE := Lib.hid (show tllE n m f = tkE n f by unfold tllE; rw [if_pos hz])
    have HZ := Lib.hid hz
    have HB := Lib.hid (HB1.out.trans hb)
    clear H1 hb hz
    obtain ⟨E, hE⟩ : ∃ E, E = tkE n f := ⟨_, rfl⟩
    have hne : ((E : Int) == 0) = false := by have := HZ.out; rw [← hE] at this; simp; omega
    rw [← hE]
    have HE2 := Lib.hid hE
    clear hE
    go_wp2_with fail
    exact bodyPost_ret (v := .tuple #[.slice none 0 0, .slice none 0 0, .int .i64 E]) (by simp [results, Try.results64, go_sem]) rfl (.inl ⟨by rw [HE.out]; exact HZ.out, by rw [HE.out, HE2.out], HB.out⟩)
  · have HE := Lib.hid (show tllE n m f = 2 by unfold tllE; rw [if_neg (fun h => h hz), if_pos hm])
    have HB := Lib.hid (HB1.out.trans hb)
    clear H1 hb hz hm
    go_wp2_with fail
    exact bodyPost_ret (v := .tuple #[.slice none 0 0, .slice none 0 0, .int .i64 2]) (by simp [results, Try.results64, go_sem]) rfl (.inl ⟨by rw [HE.out]; omega, by rw [HE.out]; rfl, HB.out⟩)
  · have HE := Lib.hid (show tllE n m f = tlE n f (tkV f) by unfold tllE; rw [if_neg (fun h => h hz), if_neg hm])
    have I0 := Lib.hid (show TlI n f w 0 (.slice none 0 0) w2 from ⟨HB1.out.trans (hp.low (Nat.le_refl _) (by omega)), rfl, ⟨A', c', hp.row R1.out, hs'⟩, World.ownsRow_nil _ _ _ _⟩)
    have HZ := Lib.hid hz
    obtain ⟨V, hV⟩ : ∃ V, V = tkV f := ⟨_, rfl⟩
    rw [← hV]
    have HV := Lib.hid hV
    have hV2 : V ≤ 2000 := by omega
    clear H1 hp hs' hz hm hV
    go_wp2_with fail
    go_loopw [4, 27] (fun lv iv wr => ∃ j : Nat, j ≤ V ∧ iv = .int .i64 (j : Int) ∧ TlI n f w j lv wr) (fun _ iv _ => V - (intOf iv).toNat)
    case atStart => exact ⟨0, by omega, rfl, I0.out⟩
    case round =>
      clear I0
      obtain ⟨j, hj, rfl, hI⟩ := hrel
      obtain ⟨wo, rfl⟩ : ∃ wo : World, wo = wr := ⟨_, rfl⟩
      obtain ⟨A2, c2, hr2, hs2⟩ := hI.x
      have HI := Lib.hid hI
      have R2 := Lib.hid hr2
      have S2 := Lib.hid hs2
      have hX2 := row_lt hr2
      have hol := tlO_le HZ.out j hI.ok
      obtain ⟨Al, cl, hvl, -, -, hbA⟩ := ownsRow_slG hI.l
      have HBA := Lib.hid (show Al = none ∨ ∃ g, Al = some ⟨g, 0, none⟩ ∧ w.heap.size ≤ g by
        rcases hbA with h | ⟨g, h, hg⟩
        · exact .inl h
        · exact .inr ⟨g, h, by omega⟩)
      clear hbA
      clear hI hr2 hs2
      by_cases hlt : j < V
      · have hd : decide ((j : Int) < (V : Int)) = true := by simp; omega
        have H2 := Lib.hid (number_any w.heap.size w.heap.size (n - tlO f j) c2 A2 (offF f (tlO f j)) wo R2.out S2.out (Nat.le_refl _))
        clear hvl
        go_wp2_with fail
        refine H2.out.mono ?_
        rintro e w3 (⟨hz, rfl, hb⟩ | ⟨hz, rfl, A3, c3, hp3, hs3⟩)
        · have HEE := Lib.hid (show tlE n f V = tkE (n - tlO f j) (offF f (tlO f j)) by
            have h1 := tlE_step HI.out.ok
            have h2 := tlE_stay (j := j + 1) (by rw [h1]; exact hz) (V - (j + 1))
            rw [show j + 1 + (V - (j + 1)) = V by omega] at h2
            rw [h2, h1])
          have HZ2 := Lib.hid hz
          have HB := Lib.hid (HI.out.b.trans hb)
          clear H2 hb hz
          obtain ⟨E, hE⟩ : ∃ E, E = tkE (n - tlO f j) (offF f (tlO f j)) := ⟨_, rfl⟩
          have hne : ((E : Int) == 0) = false := by have := HZ2.out; rw [← hE] at this; simp; omega
          rw [← hE]
          have HE2 := Lib.hid hE
          clear hE
          go_wp2_with fail
          exact bodyPost_ret (v := .tuple #[.slice none 0 0, .slice none 0 0, .int .i64 E]) (by simp [results, Try.results64, go_sem]) rfl (.inl ⟨by rw [HE.out, ← HV.out, HEE.out]; exact HZ2.out, by rw [HE.out, ← HV.out, HEE.out, HE2.out], HB.out⟩)
        · have hok : tlE n f (j + 1) = 0 := by rw [tlE_step HI.out.ok]; exact hz
          have L3 := Lib.hid (ownsRow_put hp3 HI.out.l (fun e => by have := (World.ownsRow.lt HI.out.l _ e).1; omega))
          have B3 := Lib.hid (HI.out.b.trans (hp3.low (Nat.le_refl _) (Nat.le_of_lt hX2)))
          have R3 := hp3.row R2.out
          have e1 : n - tlO f j - tkL (offF f (tlO f j)) = n - tlO f (j + 1) := by simp only [tlO]; omega
          rw [e1] at R3 hs3
          rw [offF_offF, show tlO f j + tkL (offF f (tlO f j)) = tlO f (j + 1) from rfl] at hs3
          have R3' := Lib.hid R3
          have S3 := Lib.hid hs3
          have HOK := Lib.hid hok
          have hb3 : w.heap.size + 1 ≤ w3.heap.size := row_lt R3
          obtain ⟨Y, hY⟩ : ∃ Y, Y = tkV (offF f (tlO f j)) := ⟨_, rfl⟩
          rw [← hY]
          have HY := Lib.hid (show Y = tlX f j from hY)
          clear H2 hz hp3 hs3 R3 e1 hok hY
          go_wp2_with (at_builtin; refine wpl_appOne rfl (.tmp 37) (.tmp 39) rfl ints_u i64_info rfl (by decide) L3.out rfl (by omega) hb3 rfl rfl ?_; intro v5 w5 ho5 hg5)
          have hs5 := hg5.size
          rw [HY.out, tlL_step] at ho5
          have B3a : Below w.heap.size w (w3.alloc (.cells #[.int .i64 (Y : Int)] 3)) := B3.out.alloc (by omega) _
          have L3a : (w3.alloc (.cells #[.int .i64 (Y : Int)] 3)).ownsRow (w.heap.size + 1) 3 1 u4 j (tlL f j) := L3.out.alloc _
          have S5 : Sl w5 w.heap.size A3 (n - tlO f (j + 1)) c3 (offF f (tlO f (j + 1))) :=
            (S3.out.below (w' := w3.alloc (.cells #[.int .i64 (Y : Int)] 3)) ((Below.refl _ _).alloc (by omega) _)).below (ownsRow_after L3a hg5 (Below.refl _ _) (by simp; omega) (by omega))
          have B5 := ownsRow_after L3a hg5 B3a (by simp; omega) (by omega)
          have I5 := Lib.hid (show TlI n f w (j + 1) v5 w5 from ⟨B5, HOK.out, ⟨A3, c3, grown_row hg5 (row_alloc R3'.out _) (fun e => by have := (World.ownsRow.lt L3a _ e).1; omega), S5⟩, ho5⟩)
          clear ho5 hg5 B3a L3a S5 B5 S3 R3' L3 B3 hs5
          go_roundw
          case rel => exact ⟨j + 1, by omega, rfl, I5.out⟩
          case measure => simp [intOf]; omega
      · have hd : decide ((j : Int) < (V : Int)) = false := by simp; omega
        have hjV : j = V := by omega
        have H2 := Lib.hid (left_any w.heap.size (n - tlO f j) c2 A2 (offF f (tlO f j)) wo R2.out (S2.out.more (Nat.le_of_lt hX2)) (by omega))
        have HL := Lib.hid HI.out.l
        have HEE := Lib.hid (show tllE n m f = 0 by rw [HE.out, ← HV.out, ← hjV]; exact HI.out.ok)
        subst hjV
        go_wp2_with fail
        refine H2.out.mono ?_
        rintro e w3 ⟨v3, rfl, ho3, hb3⟩
        have O3 := Lib.hid (ho3.base (Nat.le_of_lt hX2))
        have B3 := Lib.hid (onto HI.out.b (Nat.le_of_lt hX2) hb3)
        obtain ⟨A4, c4, hv4, hsl4, hm4, -⟩ := ownsRow_slG (ownsRow_below HL.out hb3 (Nat.le_refl _))
        have L4 := Lib.hid hsl4
        subst hv4
        clear H2 ho3 hb3 hsl4
        go_wp2_with fail
        refine bodyPost_ret (v := .tuple #[.slice Al j cl, v3, .int .i64 0]) (by simp [results, Try.results64, go_sem]) rfl (.inr ⟨HEE.out, Al, cl, v3, by rw [← HV.out], ?_, hm4, by rw [← HV.out]; exact O3.out, B3.out, HBA.out⟩)
        rw [← HV.out]
        exact L4.out.congr fun i hi => tlL_nth f j i hi

theorem takel_any (n c : Nat) (m : Int) (A : Option Addr) (f : Bf) (w : World) (hs : Sl w w.heap.size A n c f) (hn : n ≤ 140737488355328) (hm2 : m ≤ 2000) :
    Calls Try.prog 64 #[.slice A n c, .int .i64 m] w (tllP n m f w) :=
  (takel_own n c m A f w hs hn hm2).mono fun _ _ h => h.less
/-- what the reference's TakeList knows on its way -/
structure RlI (n : Nat) (f : Bf) (w : World) (j : Nat) (v r : Value) (wr : World) : Prop where
  b : Below w.heap.size w wr
  ok : tlE n f j = 0
  x : Own wr w.heap.size 5 r (n - tlO f j) (offF f (tlO f j))
  l : wr.ownsRow w.heap.size 3 1 v j (tlL f j)

set_option maxHeartbeats 4000000 in
theorem rtakel_own (n c : Nat) (m : Int) (A : Option Addr) (f : Bf) (w : World) (hs : Sl w w.heap.size A n c f) (hn : n ≤ 140737488355328) (hm2 : m ≤ 2000) :
    Calls Try.prog 48 #[.slice A n c, .int .i64 m] w (tllQ n m f w) := by
  have H0 := Lib.hid (rtake_num n c A f w hs hn)
  clear hs
  go_enter Try.func48, Try.ntmps48
  go_wp2_with fail
  refine H0.out.mono ?_
  rintro e w1 (⟨hz, rfl, hb⟩ | ⟨hz, v1, rfl, ho1, hb1⟩)
  · have HE := Lib.hid (show tllE n m f = tkE n f by unfold tllE; rw [if_pos hz])
    have HZ := Lib.hid hz
    have HB := Lib.hid hb
    clear H0 hb hz
    obtain ⟨E, hE⟩ : ∃ E, E = tkE n f := ⟨_, rfl⟩
    have hne : ((E : Int) == 0) = false := by have := HZ.out; rw [← hE] at this; simp; omega
    rw [← hE]
    have HE2 := Lib.hid hE
    clear hE
    go_wp2_with fail
    exact bodyPost_ret (v := .tuple #[.slice none 0 0, .slice none 0 0, .int .i64 E]) (by simp [results, Try.results48, go_sem]) rfl (.inl ⟨by rw [HE.out]; exact HZ.out, by rw [HE.out, HE2.out], HB.out⟩)
  · have HZ := Lib.hid hz
    have I0 := Lib.hid (show RlI n f w 0 (.slice none 0 0) v1 w1 from ⟨hb1, rfl, ho1, World.ownsRow_nil _ _ _ _⟩)
    obtain ⟨V, hV⟩ : ∃ V, V = tkV f := ⟨_, rfl⟩
    rw [← hV]
    have HV := Lib.hid hV
    clear H0 hz ho1 hb1 hV
    by_cases hm : m < (V : Int)
    · have hd : decide (m < (V : Int)) = true := by simp; omega
      have HE := Lib.hid (show tllE n m f = 2 by unfold tllE; rw [if_neg (fun h => h HZ.out), if_pos (by rw [← HV.out]; exact hm)])
      go_wp2_with fail
      exact bodyPost_ret (v := .tuple #[.slice none 0 0, .slice none 0 0, .int .i64 2]) (by simp [results, Try.results48, go_sem]) rfl (.inl ⟨by rw [HE.out]; omega, by rw [HE.out]; rfl, I0.out.b⟩)
    · have hd : decide (m < (V : Int)) = false := by simp; omega
      have HE := Lib.hid (show tllE n m f = tlE n f (tkV f) by unfold tllE; rw [if_neg (fun h => h HZ.out), if_neg (by rw [← HV.out]; exact hm)])
      have hV2 : V ≤ 2000 := by omega
      go_wp2_with fail
      clear hm hd
      go_loopw [8, 10, 11] (fun rv lv iv wr => ∃ j : Nat, j ≤ V ∧ iv = .int .i64 (j : Int) ∧ RlI n f w j lv rv wr) (fun _ _ iv _ => V - (intOf iv).toNat)
      case atStart => exact ⟨0, by omega, rfl, I0.out⟩
      case round =>
        clear I0
        obtain ⟨j, hj, rfl, hI⟩ := hrel
        obtain ⟨wo, rfl⟩ : ∃ wo : World, wo = wr := ⟨_, rfl⟩
        have HI := Lib.hid hI
        have hol := tlO_le HZ.out j hI.ok
        have hwo := hI.b.size
        obtain ⟨Ar, cr, hvr, hsr, -, -⟩ := hI.x.sl
        subst hvr
        clear hI
        by_cases hlt : j < V
        · have hd : decide ((j : Int) < (V : Int)) = true := by simp; omega
          have H2 := Lib.hid (rtake_num (n - tlO f j) cr Ar (offF f (tlO f j)) wo hsr (by omega))
          clear hsr
          go_wp2_with fail
          refine H2.out.mono ?_
          rintro e w3 (⟨hz, rfl, hb⟩ | ⟨hz, v3, rfl, ho3, hb3⟩)
          · have HEE := Lib.hid (show tlE n f V = tkE (n - tlO f j) (offF f (tlO f j)) by
              have h1 := tlE_step HI.out.ok
              have h2 := tlE_stay (j := j + 1) (by rw [h1]; exact hz) (V - (j + 1))
              rw [show j + 1 + (V - (j + 1)) = V by omega] at h2
              rw [h2, h1])
            have HZ2 := Lib.hid hz
            have HB := Lib.hid (onto HI.out.b hwo hb)
            clear H2 hb hz
            obtain ⟨E, hE⟩ : ∃ E, E = tkE (n - tlO f j) (offF f (tlO f j)) := ⟨_, rfl⟩
            have hne : ((E : Int) == 0) = false := by have := HZ2.out; rw [← hE] at this; simp; omega
            rw [← hE]
            have HE2 := Lib.hid hE
            clear hE
            go_wp2_with fail
            exact bodyPost_ret (v := .tuple #[.slice none 0 0, .slice none 0 0, .int .i64 E]) (by simp [results, Try.results48, go_sem]) rfl (.inl ⟨by rw [HE.out, ← HV.out, HEE.out]; exact HZ2.out, by rw [HE.out, ← HV.out, HEE.out, HE2.out], HB.out⟩)
          · have hok : tlE n f (j + 1) = 0 := by rw [tlE_step HI.out.ok]; exact hz
            have L3 := Lib.hid (ownsRow_below HI.out.l hb3 (Nat.le_refl _))
            have B3 := Lib.hid (onto HI.out.b hwo hb3)
            rw [show n - tlO f j - tkL (offF f (tlO f j)) = n - tlO f (j + 1) by simp only [tlO]; omega, offF_offF, show tlO f j + tkL (offF f (tlO f j)) = tlO f (j + 1) from rfl] at ho3
            have O3 := Lib.hid ho3
            have HOK := Lib.hid hok
            have hw3 := hb3.size
            have hb3' : w.heap.size ≤ w3.heap.size := by omega
            obtain ⟨Y, hY⟩ : ∃ Y, Y = tkV (offF f (tlO f j)) := ⟨_, rfl⟩
            rw [← hY]
            have HY := Lib.hid (show Y = tlX f j from hY)
            clear H2 hz hb3 ho3 hok hY
            go_wp2_with (at_builtin; refine wpl_appOne rfl (.tmp 41) (.tmp 43) rfl ints_u i64_info rfl (by decide) L3.out rfl (by omega) hb3' rfl rfl ?_; intro v5 w5 ho5 hg5)
            rw [HY.out, tlL_step] at ho5
            have B3a : Below w.heap.size w (w3.alloc (.cells #[.int .i64 (Y : Int)] 3)) := B3.out.alloc (by omega) _
            have L3a : (w3.alloc (.cells #[.int .i64 (Y : Int)] 3)).ownsRow w.heap.size 3 1 u10 j (tlL f j) := L3.out.alloc _
            have B5 := ownsRow_after L3a hg5 B3a (by simp; omega) (by omega)
            have O5 : Own w5 w.heap.size 5 v3 (n - tlO f (j + 1)) (offF f (tlO f (j + 1))) := by
              refine ((O3.out.alloc _).other hg5 (fun k hk e => ?_)).base hwo
              have h1 := (O3.out.lt hk).1
              have h2 := (World.ownsRow.lt HI.out.l k e).2
              omega
            have I5 := Lib.hid (show RlI n f w (j + 1) v5 v3 w5 from ⟨B5, HOK.out, O5, ho5⟩)
            clear ho5 hg5 B3a L3a B5 O5 O3 L3 B3
            go_roundw
            case rel => exact ⟨j + 1, by omega, rfl, I5.out⟩
            case measure => simp [intOf]; omega
        · have hd : decide ((j : Int) < (V : Int)) = false := by simp; omega
          have hjV : j = V := by omega
          have HEE := Lib.hid (show tllE n m f = 0 by rw [HE.out, ← HV.out, ← hjV]; exact HI.out.ok)
          subst hjV
          obtain ⟨Al, cl, hvl, hsl, hml, hbA⟩ := ownsRow_slG HI.out.l
          have HBA := Lib.hid hbA
          clear hbA
          have L4 := Lib.hid hsl
          subst hvl
          clear hsl
          go_wp2_with fail
          refine bodyPost_ret (v := .tuple #[.slice Al j cl, .slice Ar (n - tlO f j) cr, .int .i64 0]) (by simp [results, Try.results48, go_sem]) rfl (.inr ⟨HEE.out, Al, cl, _, by rw [← HV.out], ?_, hml, by rw [← HV.out]; exact HI.out.x, HI.out.b, HBA.out⟩)
          rw [← HV.out]
          exact L4.out.congr fun i hi => tlL_nth f j i hi
theorem rtakel_any (n c : Nat) (m : Int) (A : Option Addr) (f : Bf) (w : World) (hs : Sl w w.heap.size A n c f) (hn : n ≤ 140737488355328) (hm2 : m ≤ 2000) :
    Calls Try.prog 48 #[.slice A n c, .int .i64 m] w (tllP n m f w) :=
  (rtakel_own n c m A f w hs hn hm2).mono fun _ _ h => h.less
end Go.Proofs.Ytfpkfbojckgcdaa.Oct
