/- Contracts: wire's takers. -/
import Derived.Test.YtfpkfbojckgcdaaWiO
namespace Go.Proofs.Ytfpkfbojckgcdaa.Oct
open Go.ChangeShapes Go.WideShapes Go.ChangeAt Go.RowKit
set_option linter.unusedVariables false

/-- what numbersTo's closure ends in -/
def ntP (n : Nat) (f : Bf) (cnt : Nat) (g o : Nat → Nat) (w : World) (e : Ending) (w' : World) : Prop :=
  (puE n f cnt ≠ 0 ∧ e = .returned (.tuple #[.slice none 0 0, .int .i64 (puE n f cnt : Nat)]) ∧ ∃ i y, i ≤ cnt ∧ Wrts g o y i w w') ∨
  (puE n f cnt = 0 ∧ ∃ v, e = .returned (.tuple #[v, .int .i64 0]) ∧ Wrts g o (fun j => puX f j) cnt w w' ∧ Own w' w.heap.size 5 v (n - puO f cnt) (offF f (puO f cnt)))
set_option maxHeartbeats 8000000 in
theorem nto_any (X n c cnt cz : Nat) (A AZ : Option Addr) (f : Bf) (g o : Nat → Nat) (w : World) (hr : row w X = some #[.slice AZ cnt cz]) (hz : SlG w w.heap.size AZ cnt cz (fun j => .pointer (some ⟨g j, o j, none⟩)))
    (hzg : ∀ j, j < cnt → Off (g j) cnt AZ) (hg : ∀ j, j < cnt → g j < w.heap.size ∧ ∃ cs, row w (g j) = some cs ∧ o j < cs.size) (hs : Sl w w.heap.size A n c f) (hoff : ∀ j, j < cnt → Off (g j) n A) (hn : n ≤ 140737488355328) (h1 : 0 < cnt) (hcnt : cnt ≤ 100) :
    Calls Try.prog 54 #[.slice A n c, .pointer (some ⟨X, 0, none⟩)] w (ntP n f cnt g o w) := by
  have hcell := box_cell1 hr
  have HZ := Lib.hid hz
  have HZG := Lib.hid hzg
  have HG := Lib.hid hg
  have HS := Lib.hid hs
  have HOF := Lib.hid hoff
  clear hs hz hzg hg hoff hr
  go_enter Try.func54, Try.ntmps54
  go_wp2_with fail
  clear hcell
  go_loopw [3, 10] (fun rv iv wr => ∃ j : Nat, j ≤ cnt ∧ iv = .int .i64 (j : Int) ∧ puE n f j = 0 ∧ Wrts g o (fun j => puX f j) j w wr ∧ (∃ A' c', rv = .slice A' (n - puO f j) c' ∧ Sl wr wr.heap.size A' (n - puO f j) c' (offF f (puO f j))) ∧ (0 < j → Own wr w.heap.size 5 rv (n - puO f j) (offF f (puO f j)))) (fun _ iv _ => cnt - (intOf iv).toNat)
  case atStart => exact ⟨0, by omega, rfl, rfl, rfl, ⟨A, c, rfl, by rw [show puO f 0 = 0 from rfl, Nat.sub_zero, offF_zero]; exact HS.out⟩, fun h => by omega⟩
  case round =>
    obtain ⟨j, hj, rfl, hf, hw, ⟨A', c', hv, hsl⟩, ho⟩ := hrel
    obtain ⟨wo, rfl⟩ : ∃ wo : World, wo = wr := ⟨_, rfl⟩
    subst hv
    have HF := Lib.hid hf
    have HW := Lib.hid hw
    have HSL := Lib.hid hsl
    have HO := Lib.hid ho
    have hsz := hw.size
    clear hf hw hsl ho
    by_cases hlt : j < cnt
    · have hdj : decide ((j : Int) < (cnt : Int)) = true := by simp; omega
      obtain ⟨k0, q0, hA0, hk0, hcl⟩ := (HW.out.slG HZ.out (Nat.le_refl _) fun i hi => HZG.out i (by omega)).at_ (by omega)
      have hc := hcl j hlt
      subst hA0
      clear hcl
      have H2 := Lib.hid (take_num (n - puO f j) c' A' (offF f (puO f j)) wo HSL.out (by omega))
      obtain ⟨hgj, cs, hcs, hos⟩ := HG.out j hlt
      obtain ⟨cs1, hr1, hs1⟩ := HW.out.rows hcs
      obtain ⟨G, hG⟩ : ∃ G, G = g j := ⟨_, rfl⟩
      obtain ⟨O, hO⟩ : ∃ O, O = o j := ⟨_, rfl⟩
      rw [← hG] at hc hr1 hgj
      rw [← hO] at hc hos
      have HGG := Lib.hid hG
      have HOO := Lib.hid hO
      have R1 := Lib.hid hr1
      clear hcs hG hO hr1
      go_wp2_with fail
      refine H2.out.mono ?_
      rintro e w2 (⟨hz, rfl, hb⟩ | ⟨hz, v2, rfl, ho2, hb⟩)
      · have HE := Lib.hid (show puE n f cnt = tkE (n - puO f j) (offF f (puO f j)) from fi_first HF.out hlt hz)
        have HZ2 := Lib.hid hz
        have r2 := carry hb R1.out
        have hcell : w2.cell? ⟨G, O, none⟩ = some cs1[O] := by rw [cell_row r2]; exact Array.getElem?_eq_getElem (by omega)
        have hfz := froz_row r2 O
        have HW2 := Lib.hid (show Wrts g o (fun i => if i = j then 0 else puX f i) (j + 1) w (w2.setCell ⟨G, O, none⟩ (.int .i64 0)) from ⟨wo, HW.out.congr fun i hi => by rw [if_neg (by omega)], w2, hb, by rw [← HGG.out, ← HOO.out]; simp⟩)
        clear hz hb H2 hc r2
        obtain ⟨Y, hY⟩ : ∃ Y, Y = tkE (n - puO f j) (offF f (puO f j)) := ⟨_, rfl⟩
        have hne : ((Y : Int) != 0) = true := by have := HZ2.out; rw [← hY] at this; simp; omega
        rw [← hY]
        have HY := Lib.hid hY
        clear hY
        go_wp2_with fail
        exact bodyPost_ret (v := .tuple #[.slice none 0 0, .int .i64 Y]) (by simp [results, Try.results54, go_sem]) rfl (.inl ⟨by rw [HE.out]; exact HZ2.out, by rw [HE.out, HY.out], j + 1, _, by omega, HW2.out⟩)
      · have HF2 := Lib.hid (show puE n f (j + 1) = 0 from (fi_step HF.out).trans hz)
        have r2 := carry hb R1.out
        have hcell : w2.cell? ⟨G, O, none⟩ = some cs1[O] := by rw [cell_row r2]; exact Array.getElem?_eq_getElem (by omega)
        have hfz := froz_row r2 O
        have HW2 := Lib.hid (show Wrts g o (fun i => puX f i) (j + 1) w (w2.setCell ⟨G, O, none⟩ (.int .i64 (puX f j : Nat))) from ⟨wo, HW.out, w2, hb, by rw [← HGG.out, ← HOO.out]⟩)
        have ho4 : Own (w2.setCell ⟨G, O, none⟩ (.int .i64 (puX f j : Nat))) w.heap.size 5 v2 (n - puO f (j + 1)) (offF f (puO f (j + 1))) := by
          rw [offF_offF, Nat.sub_sub] at ho2
          exact ((ho2.setCell (by show G < wo.heap.size; omega) _).base hsz)
        obtain ⟨A4, c4, hv4, hs4, -, -⟩ := ho4.sl
        subst hv4
        have O4 := Lib.hid ho4
        have S4 := Lib.hid hs4
        clear hz hb H2 hc r2 ho2 ho4 hs4 HSL HO HW HF
        obtain ⟨Y, hY⟩ : ∃ Y, Y = puX f j := ⟨_, rfl⟩
        rw [show tkV (offF f (puO f j)) = Y from hY.symm]
        rw [← hY] at HW2 O4 S4
        clear hY
        go_wp2_with fail
        go_roundw
        case rel => exact ⟨j + 1, by omega, rfl, HF2.out, HW2.out, ⟨_, _, rfl, S4.out⟩, fun _ => O4.out⟩
        case measure => simp [intOf]; omega
    · have hdj : decide ((j : Int) < (cnt : Int)) = false := by simp; omega
      have hjn : j = cnt := by omega
      subst hjn
      go_wp2_with fail
      exact bodyPost_ret (v := .tuple #[.slice A' (n - puO f j) c', .int .i64 0]) (by simp [results, Try.results54, go_sem]) rfl (.inr ⟨HF.out, _, rfl, HW.out, HO.out h1⟩)

/-- what textTo's closure ends in -/
def ttoP (n : Nat) (f : Bf) (G O : Nat) (w : World) (e : Ending) (w' : World) : Prop :=
  (ttE n 4096 f ≠ 0 ∧ e = .returned (.tuple #[.slice none 0 0, .int .i64 (ttE n 4096 f : Nat)]) ∧ Wrt G O (.slice none 0 0) w w') ∨
  (ttE n 4096 f = 0 ∧ ∃ A' c' v, e = .returned (.tuple #[v, .int .i64 0]) ∧ Wrt G O (.slice A' (tkV f) c') w w' ∧ Own w' w.heap.size 5 (.slice A' (tkV f) c') (tkV f) (offF f (tkL f)) ∧ Own w' w.heap.size 5 v (n - tkL f - tkV f) (offF f (tkL f + tkV f)))
set_option maxHeartbeats 8000000 in
theorem tto_any (X n c G O : Nat) (A : Option Addr) (f : Bf) (w : World) (hX : X ≠ G) (hr : row w X = some #[.pointer (some ⟨G, O, none⟩)]) (hg : ∃ cs, row w G = some cs ∧ O < cs.size) (hs : Sl w w.heap.size A n c f) (hn : n ≤ 140737488355328) :
    Calls Try.prog 56 #[.slice A n c, .pointer (some ⟨X, 0, none⟩)] w (ttoP n f G O w) := by
  obtain ⟨cs, hcs, hO⟩ := hg
  have R0 := Lib.hid hr
  have R1 := Lib.hid hcs
  have HS := Lib.hid hs
  clear hr hcs hs
  go_enter Try.func56, Try.ntmps56
  go_wp2_with fail
  refine flow_region [([0, 1], 2, false), ([3, 4, 5, 6, 7], 8, false)] [9, 10] (fun x => row x X = some #[.pointer (some ⟨G, O, none⟩)]) (by kernel_rfl) (by kernel_rfl) (fun _ _ _ _ _ h => h) (by rw [row_drewN]; exact R0.out) ?_
  have b1 : Below w.heap.size w (w.drewN 1) := below_drewN (Below.refl w.heap.size w) 1
  have B1 := Lib.hid b1
  have r1 := carry b1 R0.out
  have q1 := carry b1 R1.out
  have S1 := Lib.hid (HS.out.drewN 1)
  have hz1 : (w.drewN 1).heap.size = w.heap.size := rfl
  obtain ⟨w1, hw1⟩ : ∃ w1, w1 = w.drewN 1 := ⟨_, rfl⟩
  rw [← hw1] at B1 r1 q1 S1 hz1 ⊢
  clear hw1 b1 R0 R1 HS
  have hne : Nonempty (In (fun x => row x X = some #[.pointer (some ⟨G, O, none⟩)])) := ⟨⟨w1, r1⟩⟩
  have Q1 : ∀ x : In (fun x => row x X = some #[.pointer (some ⟨G, O, none⟩)]), x.val.cell? ⟨X, 0, none⟩ = some (.pointer (some ⟨G, O, none⟩)) := fun x => box_cell1 x.ok
  simp only [wpFl, pk, List.getElem?_cons_zero, List.getElem?_cons_succ]
  refine quiet_in ?_
  repeat (go_big_quiet_step (fail))
  refine wpQuiet_nil ?_
  clear Q1 hne
  have H2 := Lib.hid (taket_any n c 4096 A f w1 (S1.out.more (by omega)) hn)
  clear S1
  go_wp2_with fail
  refine H2.out.mono ?_
  rintro e w2 (⟨hz, rfl, hb⟩ | ⟨hz, v, v', rfl, ho, ho', hb⟩)
  · have HZ := Lib.hid hz
    have r2 := carry hb r1
    have q2 := Lib.hid (carry hb q1)
    have B2 := Lib.hid (onto B1.out (by omega) hb)
    obtain ⟨Y, hY⟩ : ∃ Y, Y = ttE n 4096 f := ⟨_, rfl⟩
    rw [show ((ttE n 4096 f : Nat) : Int) = (Y : Int) by rw [hY]]
    have HY := Lib.hid hY
    clear hz hb H2 r1 q1 hY B1
    go_wp2_with fail
    refine ⟨fun x => row x X = some #[.pointer (some ⟨G, O, none⟩)], r2, .inr ⟨r2, fun _ h => h⟩, ?_⟩
    show wpQuiet _ _ _ _ _ _
    refine quiet_in ?_
    have hne : Nonempty (In (fun x => row x X = some #[.pointer (some ⟨G, O, none⟩)])) := ⟨⟨_, r2⟩⟩
    repeat (go_big_quiet_step (fail))
    refine wpQuiet_nil ?_
    clear hne
    have hcell : w2.cell? ⟨G, O, none⟩ = some cs[O] := by rw [cell_row q2.out]; exact Array.getElem?_eq_getElem (by omega)
    have hfz := froz_row q2.out O
    go_wp2_with fail
    have r3 : row (w2.setCell ⟨G, O, none⟩ (.slice none 0 0)) X = some #[.pointer (some ⟨G, O, none⟩)] := by rw [row_setCell_other _ _ _ _ hX]; exact r2
    refine ⟨fun x => row x X = some #[.pointer (some ⟨G, O, none⟩)], r3, by first | exact ⟨r3, fun _ h => h⟩ | exact .inr ⟨r3, fun _ h => h⟩, ?_⟩
    show wpQuiet _ _ _ _ _ _
    refine quiet_in ?_
    have hne : Nonempty (In (fun x => row x X = some #[.pointer (some ⟨G, O, none⟩)])) := ⟨⟨_, r3⟩⟩
    repeat (go_big_quiet_step (fail))
    refine wpQuiet_nil ?_
    clear hne hcell hfz r2
    go_wp2_with fail
    exact bodyPost_ret (v := .tuple #[.slice none 0 0, .int .i64 Y]) (by simp [results, Try.results56, go_sem]) rfl (.inl ⟨HZ.out, by rw [← HY.out], ⟨w2, B2.out, rfl⟩⟩)
  · have HZ := Lib.hid hz
    have r2 := carry hb r1
    have q2 := Lib.hid (carry hb q1)
    have B2 := Lib.hid (onto B1.out (by omega) hb)
    have hG : G < w.heap.size := by have := row_lt q1; omega
    have O1 := Lib.hid ((ho.base (by omega : w.heap.size ≤ w1.heap.size)))
    have O2 := Lib.hid ((ho'.base (by omega : w.heap.size ≤ w1.heap.size)))
    obtain ⟨Av, cv, hv, -, -, -⟩ := ho.sl
    subst hv
    clear hz hb H2 r1 q1 B1 ho ho'
    obtain ⟨T, hT⟩ : ∃ T, T = tkV f := ⟨_, rfl⟩
    rw [← hT] at O1 O2 ⊢
    have HT := Lib.hid hT
    clear hT
    go_wp2_with fail
    refine ⟨fun x => row x X = some #[.pointer (some ⟨G, O, none⟩)], r2, .inr ⟨r2, fun _ h => h⟩, ?_⟩
    show wpQuiet _ _ _ _ _ _
    refine quiet_in ?_
    have hne : Nonempty (In (fun x => row x X = some #[.pointer (some ⟨G, O, none⟩)])) := ⟨⟨_, r2⟩⟩
    repeat (go_big_quiet_step (fail))
    refine wpQuiet_nil ?_
    clear hne
    have hcell : w2.cell? ⟨G, O, none⟩ = some cs[O] := by rw [cell_row q2.out]; exact Array.getElem?_eq_getElem (by omega)
    have hfz := froz_row q2.out O
    go_wp2_with fail
    have r3 : row (w2.setCell ⟨G, O, none⟩ (.slice Av T cv)) X = some #[.pointer (some ⟨G, O, none⟩)] := by rw [row_setCell_other _ _ _ _ hX]; exact r2
    refine ⟨fun x => row x X = some #[.pointer (some ⟨G, O, none⟩)], r3, by first | exact ⟨r3, fun _ h => h⟩ | exact .inr ⟨r3, fun _ h => h⟩, ?_⟩
    show wpQuiet _ _ _ _ _ _
    refine quiet_in ?_
    have hne : Nonempty (In (fun x => row x X = some #[.pointer (some ⟨G, O, none⟩)])) := ⟨⟨_, r3⟩⟩
    repeat (go_big_quiet_step (fail))
    refine wpQuiet_nil ?_
    clear hne hcell hfz r2
    go_wp2_with fail
    exact bodyPost_ret (v := .tuple #[v', .int .i64 0]) (by simp [results, Try.results56, go_sem]) rfl (.inr ⟨HZ.out, Av, cv, v', rfl, by rw [← HT.out]; exact ⟨w2, B2.out, rfl⟩, by rw [← HT.out]; exact O1.out.setCell hG _, by rw [← HT.out]; exact O2.out.setCell hG _⟩)
/-- what listTo's closure ends in -/
def ltoP (n : Nat) (f : Bf) (G O : Nat) (w : World) (e : Ending) (w' : World) : Prop :=
  (tllE n 7 f ≠ 0 ∧ e = .returned (.tuple #[.slice none 0 0, .int .i64 (tllE n 7 f : Nat)]) ∧ Wrt G O (.slice none 0 0) w w') ∨
  (tllE n 7 f = 0 ∧ ∃ A' c' v, e = .returned (.tuple #[v, .int .i64 0]) ∧ Wrt G O (.slice A' (tkV f) c') w w' ∧ SlG w' w'.heap.size A' (tkV f) c' (iV fun i => tlX f i) ∧ c' ≤ maxLen ∧ (A' = none ∨ ∃ g, A' = some ⟨g, 0, none⟩ ∧ w.heap.size ≤ g) ∧ Own w' w.heap.size 5 v (n - tlO f (tkV f)) (offF f (tlO f (tkV f))))
set_option maxHeartbeats 8000000 in
theorem lto_any (X n c G O : Nat) (A : Option Addr) (f : Bf) (w : World) (hX : X ≠ G) (hr : row w X = some #[.pointer (some ⟨G, O, none⟩)]) (hg : ∃ cs, row w G = some cs ∧ O < cs.size) (hs : Sl w w.heap.size A n c f) (hn : n ≤ 140737488355328) :
    Calls Try.prog 63 #[.slice A n c, .pointer (some ⟨X, 0, none⟩)] w (ltoP n f G O w) := by
  obtain ⟨cs, hcs, hO⟩ := hg
  have R0 := Lib.hid hr
  have R1 := Lib.hid hcs
  have HS := Lib.hid hs
  clear hr hcs hs
  go_enter Try.func63, Try.ntmps63
  go_wp2_with fail
  refine flow_region [([0, 1], 2, false), ([3, 4, 5, 6, 7], 8, false)] [9, 10] (fun x => row x X = some #[.pointer (some ⟨G, O, none⟩)]) (by kernel_rfl) (by kernel_rfl) (fun _ _ _ _ _ h => h) (by rw [row_drewN]; exact R0.out) ?_
  have b1 : Below w.heap.size w (w.drewN 1) := below_drewN (Below.refl w.heap.size w) 1
  have B1 := Lib.hid b1
  have r1 := carry b1 R0.out
  have q1 := carry b1 R1.out
  have S1 := Lib.hid (HS.out.drewN 1)
  have hz1 : (w.drewN 1).heap.size = w.heap.size := rfl
  obtain ⟨w1, hw1⟩ : ∃ w1, w1 = w.drewN 1 := ⟨_, rfl⟩
  rw [← hw1] at B1 r1 q1 S1 hz1 ⊢
  clear hw1 b1 R0 R1 HS
  have hne : Nonempty (In (fun x => row x X = some #[.pointer (some ⟨G, O, none⟩)])) := ⟨⟨w1, r1⟩⟩
  have Q1 : ∀ x : In (fun x => row x X = some #[.pointer (some ⟨G, O, none⟩)]), x.val.cell? ⟨X, 0, none⟩ = some (.pointer (some ⟨G, O, none⟩)) := fun x => box_cell1 x.ok
  simp only [wpFl, pk, List.getElem?_cons_zero, List.getElem?_cons_succ]
  refine quiet_in ?_
  repeat (go_big_quiet_step (fail))
  refine wpQuiet_nil ?_
  clear Q1 hne
  have H2 := Lib.hid (takel_own n c 7 A f w1 (S1.out.more (by omega)) hn (by omega))
  clear S1
  go_wp2_with fail
  refine H2.out.mono ?_
  rintro e w2 (⟨hz, rfl, hb⟩ | ⟨hz, Av, cv, v', rfl, hl, hm, ho', hb, hbA⟩)
  · have HZ := Lib.hid hz
    have r2 := carry hb r1
    have q2 := Lib.hid (carry hb q1)
    have B2 := Lib.hid (onto B1.out (by omega) hb)
    obtain ⟨Y, hY⟩ : ∃ Y, Y = tllE n 7 f := ⟨_, rfl⟩
    rw [show ((tllE n 7 f : Nat) : Int) = (Y : Int) by rw [hY]]
    have HY := Lib.hid hY
    clear hz hb H2 r1 q1 hY B1
    go_wp2_with fail
    refine ⟨fun x => row x X = some #[.pointer (some ⟨G, O, none⟩)], r2, .inr ⟨r2, fun _ h => h⟩, ?_⟩
    show wpQuiet _ _ _ _ _ _
    refine quiet_in ?_
    have hne : Nonempty (In (fun x => row x X = some #[.pointer (some ⟨G, O, none⟩)])) := ⟨⟨_, r2⟩⟩
    repeat (go_big_quiet_step (fail))
    refine wpQuiet_nil ?_
    clear hne
    have hcell : w2.cell? ⟨G, O, none⟩ = some cs[O] := by rw [cell_row q2.out]; exact Array.getElem?_eq_getElem (by omega)
    have hfz := froz_row q2.out O
    go_wp2_with fail
    have r3 : row (w2.setCell ⟨G, O, none⟩ (.slice none 0 0)) X = some #[.pointer (some ⟨G, O, none⟩)] := by rw [row_setCell_other _ _ _ _ hX]; exact r2
    refine ⟨fun x => row x X = some #[.pointer (some ⟨G, O, none⟩)], r3, by first | exact ⟨r3, fun _ h => h⟩ | exact .inr ⟨r3, fun _ h => h⟩, ?_⟩
    show wpQuiet _ _ _ _ _ _
    refine quiet_in ?_
    have hne : Nonempty (In (fun x => row x X = some #[.pointer (some ⟨G, O, none⟩)])) := ⟨⟨_, r3⟩⟩
    repeat (go_big_quiet_step (fail))
    refine wpQuiet_nil ?_
    clear hne hcell hfz r2
    go_wp2_with fail
    exact bodyPost_ret (v := .tuple #[.slice none 0 0, .int .i64 Y]) (by simp [results, Try.results63, go_sem]) rfl (.inl ⟨HZ.out, by rw [← HY.out], ⟨w2, B2.out, rfl⟩⟩)
  · have HZ := Lib.hid hz
    have r2 := carry hb r1
    have q2 := Lib.hid (carry hb q1)
    have B2 := Lib.hid (onto B1.out (by omega) hb)
    have hG : G < w.heap.size := by have := row_lt q1; omega
    have L1 := Lib.hid hl
    have HM := Lib.hid hm
    have HBA := Lib.hid (show Av = none ∨ ∃ g, Av = some ⟨g, 0, none⟩ ∧ w.heap.size ≤ g by rw [← hz1]; exact hbA)
    have O2 := Lib.hid ((ho'.base (by omega : w.heap.size ≤ w1.heap.size)))
    clear hz hb H2 r1 q1 B1 hl hm hbA ho'
    obtain ⟨T, hT⟩ : ∃ T, T = tkV f := ⟨_, rfl⟩
    rw [← hT] at L1 O2 ⊢
    have HT := Lib.hid hT
    clear hT
    go_wp2_with fail
    refine ⟨fun x => row x X = some #[.pointer (some ⟨G, O, none⟩)], r2, .inr ⟨r2, fun _ h => h⟩, ?_⟩
    show wpQuiet _ _ _ _ _ _
    refine quiet_in ?_
    have hne : Nonempty (In (fun x => row x X = some #[.pointer (some ⟨G, O, none⟩)])) := ⟨⟨_, r2⟩⟩
    repeat (go_big_quiet_step (fail))
    refine wpQuiet_nil ?_
    clear hne
    have hcell : w2.cell? ⟨G, O, none⟩ = some cs[O] := by rw [cell_row q2.out]; exact Array.getElem?_eq_getElem (by omega)
    have hfz := froz_row q2.out O
    go_wp2_with fail
    have r3 : row (w2.setCell ⟨G, O, none⟩ (.slice Av T cv)) X = some #[.pointer (some ⟨G, O, none⟩)] := by rw [row_setCell_other _ _ _ _ hX]; exact r2
    refine ⟨fun x => row x X = some #[.pointer (some ⟨G, O, none⟩)], r3, by first | exact ⟨r3, fun _ h => h⟩ | exact .inr ⟨r3, fun _ h => h⟩, ?_⟩
    show wpQuiet _ _ _ _ _ _
    refine quiet_in ?_
    have hne : Nonempty (In (fun x => row x X = some #[.pointer (some ⟨G, O, none⟩)])) := ⟨⟨_, r3⟩⟩
    repeat (go_big_quiet_step (fail))
    refine wpQuiet_nil ?_
    clear hne hcell hfz r2
    go_wp2_with fail
    refine bodyPost_ret (v := .tuple #[v', .int .i64 0]) (by simp [results, Try.results63, go_sem]) rfl (.inr ⟨HZ.out, Av, cv, v', rfl, by rw [← HT.out]; exact ⟨w2, B2.out, rfl⟩, ?_, HM.out, HBA.out, by rw [← HT.out]; exact O2.out.setCell hG _⟩)
    rw [← HT.out]
    have hs3 : w2.heap.size = (w2.setCell ⟨G, O, none⟩ (.slice Av T cv)).heap.size := by simp [World.setCell]
    exact (L1.out.setCell HBA.out hG _).more (Nat.le_of_eq hs3)
end Go.Proofs.Ytfpkfbojckgcdaa.Oct
