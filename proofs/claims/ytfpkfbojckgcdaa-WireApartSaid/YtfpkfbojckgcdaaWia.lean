/- Contract: the reference's TakeCommand. -/
import Derived.Test.YtfpkfbojckgcdaaWiZ
namespace Go.Proofs.Ytfpkfbojckgcdaa.Oct
open Go.ChangeShapes Go.WideShapes Go.ChangeAt Go.RowKit
set_option linter.unusedVariables false

/-- the first j numbers, as a list of values -/
def puL (f : Bf) (j : Nat) : List Value := (List.range j).map fun i => .int .i64 (puX f i : Nat)
theorem puL_step (f : Bf) (j : Nat) : puL f j ++ [.int .i64 (puX f j : Nat)] = puL f (j + 1) := by unfold puL; rw [List.range_succ, List.map_append]; rfl
theorem puL_nth (f : Bf) (j i : Nat) (h : i < j) : nth (puL f j) i = .int .i64 (puX f i : Nat) := by unfold nth puL; simp [h]
/-- what the reference's TakeCommand knows on its way -/
structure RcI (n : Nat) (f : Bf) (w : World) (j : Nat) (v r : Value) (wr : World) : Prop where
  b : Below w.heap.size w wr
  ok : puE n f j = 0
  rb : row wr w.heap.size = some #[.int .i64 0, .int .i64 0, .int .i64 0, .int .i64 0, .int .i64 0, .slice none 0 0, .slice none 0 0]
  rz : row wr (w.heap.size + 1) = some #[.int .i64 0, .int .i64 0, .int .i64 0, .int .i64 0, .int .i64 0, .slice none 0 0, .slice none 0 0]
  x : ∃ A c, r = .slice A (n - puO f j) c ∧ Sl wr wr.heap.size A (n - puO f j) c (offF f (puO f j))
  l : wr.ownsRow (w.heap.size + 1 + 1) 3 1 v j (puL f j)
set_option maxRecDepth 20000 in
set_option maxHeartbeats 8000000 in
theorem rtakecom_any (n c : Nat) (A : Option Addr) (f : Bf) (w : World) (hs : Sl w w.heap.size A n c f) (hn : n ≤ 140737488355328) :
    Calls Try.prog 14 #[.slice A n c] w (tcP n f w) := by
  obtain ⟨w0, hw0⟩ : ∃ w0, w0 = ((w.alloc (.cells #[.int .i64 0, .int .i64 0, .int .i64 0, .int .i64 0, .int .i64 0, .slice none 0 0, .slice none 0 0] 24)).alloc (.cells #[.int .i64 0, .int .i64 0, .int .i64 0, .int .i64 0, .int .i64 0, .slice none 0 0, .slice none 0 0] 24)).alloc (.cells #[] 3) := ⟨_, rfl⟩
  have I0 := Lib.hid (show RcI n f w 0 (.slice (some ⟨w.heap.size + 1 + 1, 0, none⟩) 0 0) (.slice A n c) w0 from by
    have b0 : Below w.heap.size w w0 := by rw [hw0]; exact (((Below.refl _ _).alloc (by simp) _).alloc (by simp) _).alloc (by simp; omega) _
    refine ⟨b0, rfl, ?_, ?_, ⟨A, c, rfl, ?_⟩, ?_⟩
    · rw [hw0]; exact row_alloc (row_alloc (row_alloc_at _ _ _ _ rfl) _) _
    · rw [hw0]; exact row_alloc (row_alloc_at _ _ _ _ (by simp)) _
    · rw [show puO f 0 = 0 from rfl, Nat.sub_zero, offF_zero]
      exact (hs.below b0).more b0.size
    · have h := World.ownsRow_made (base := w.heap.size + 1 + 1) ((w.alloc (.cells #[.int .i64 0, .int .i64 0, .int .i64 0, .int .i64 0, .int .i64 0, .slice none 0 0, .slice none 0 0] 24)).alloc (.cells #[.int .i64 0, .int .i64 0, .int .i64 0, .int .i64 0, .int .i64 0, .slice none 0 0, .slice none 0 0] 24)) (e := 3) (size := 1) #[] 0 (by simp) (Nat.zero_le _) rfl
      rw [hw0, show puL f 0 = [] from rfl]
      simpa using h)
  have HS := Lib.hid hs
  clear hs
  go_enter Try.func14, Try.ntmps14
  go_wp2_with fail
  rw [← hw0]
  clear hw0
  go_loopw [5, 6, 7] (fun lv rv iv wr => ∃ j : Nat, j ≤ 5 ∧ iv = .int .i64 (j : Int) ∧ RcI n f w j lv rv wr) (fun _ _ iv _ => 5 - (intOf iv).toNat)
  case atStart => exact ⟨0, by omega, rfl, I0.out⟩
  case round =>
    clear I0
    obtain ⟨j, hj, rfl, hI⟩ := hrel
    obtain ⟨wo, rfl⟩ : ∃ wo : World, wo = wr := ⟨_, rfl⟩
    obtain ⟨Ar, cr, hrv, hsr⟩ := hI.x
    subst hrv
    have HI := Lib.hid hI
    have hwo := hI.b.size
    clear hI
    by_cases hlt : j < 5
    · have hd : decide ((j : Int) < 5) = true := by simp; omega
      have H2 := Lib.hid (rtake_num (n - puO f j) cr Ar (offF f (puO f j)) wo hsr (by omega))
      clear hsr
      go_wp2_with fail
      refine H2.out.mono ?_
      rintro e w3 (⟨hz, rfl, hb⟩ | ⟨hz, v3, rfl, ho3, hb3⟩)
      · have HK := Lib.hid (show ¬ tcK n f from fun h => hz (fi_each (fi_each h.1 0 (by omega)) j hlt))
        have HZ2 := Lib.hid hz
        have B3 := Lib.hid (onto HI.out.b hwo hb)
        have R3 := Lib.hid (carry hb HI.out.rb)
        have Z3 := Lib.hid (carry hb HI.out.rz)
        obtain ⟨Y, hY⟩ : ∃ Y, Y = tkE (n - puO f j) (offF f (puO f j)) := ⟨_, rfl⟩
        have hne : ((Y : Int) != 0) = true := by have := HZ2.out; rw [← hY] at this; simp; omega
        rw [← hY]
        clear hz hb H2 hY
        obtain ⟨c0, c1, c2, c3, c4, c5, c6⟩ := cells7 R3.out
        obtain ⟨d0, d1, d2, d3, d4, d5, d6⟩ := cells7 Z3.out
        have z0 := froz_row R3.out 0
        have z1 := froz_row R3.out 1
        have z2 := froz_row R3.out 2
        have z3 := froz_row R3.out 3
        have z4 := froz_row R3.out 4
        have z5 := froz_row R3.out 5
        have z6 := froz_row R3.out 6
        go_wp2_with fail
        rw [set7 R3.out]
        exact bodyPost_ret (v := .tuple #[comZ, .int .i64 80]) (res_ct Try.results14 _ _ w.heap.size _ _ rfl (row_setRow R3.out _) Try.underlying24 rfl (by kernel_rfl)) rfl (.inl ⟨HK.out, rfl, below_setRow B3.out (Nat.le_refl _) _⟩)
      · have hok : puE n f (j + 1) = 0 := (fi_step HI.out.ok).trans hz
        have L3 := Lib.hid (ownsRow_below HI.out.l hb3 (Nat.le_refl _))
        have B3 := Lib.hid (onto HI.out.b hwo hb3)
        have R3 := Lib.hid (carry hb3 HI.out.rb)
        have Z3 := Lib.hid (carry hb3 HI.out.rz)
        rw [Nat.sub_sub, offF_offF, show puO f j + tkL (offF f (puO f j)) = puO f (j + 1) from rfl] at ho3
        have O3 := Lib.hid ho3
        have HOK := Lib.hid hok
        have hw3 := hb3.size
        have hb3' : w.heap.size + 1 + 1 ≤ w3.heap.size := row_lt Z3.out
        obtain ⟨A3, c3, hv3, -, -, -⟩ := ho3.sl
        subst hv3
        obtain ⟨Y, hY⟩ : ∃ Y, Y = puX f j := ⟨_, rfl⟩
        rw [show tkV (offF f (puO f j)) = Y from hY.symm]
        have HY := Lib.hid hY
        clear H2 hz hb3 ho3 hok hY
        obtain ⟨M, hM⟩ : ∃ M, M = n - puO f (j + 1) := ⟨_, rfl⟩
        rw [← hM] at O3 ⊢
        have HM := Lib.hid hM
        clear hM
        go_wp2_with (at_builtin; refine wpl_appOne rfl (.tmp 33) (.tmp 35) rfl ints_u i64_info rfl (by decide) L3.out rfl (by omega) hb3' rfl rfl ?_; intro v5 w5 ho5 hg5)
        rw [HY.out, puL_step] at ho5
        have B3a : Below w.heap.size w (w3.alloc (.cells #[.int .i64 (Y : Int)] 3)) := B3.out.alloc (by omega) _
        have L3a : (w3.alloc (.cells #[.int .i64 (Y : Int)] 3)).ownsRow (w.heap.size + 1 + 1) 3 1 u5 j (puL f j) := L3.out.alloc _
        have B5 := ownsRow_after L3a hg5 B3a (by simp; omega) (by omega)
        have hne1 : u5.ownBlock ≠ some w.heap.size := fun e => by have := (World.ownsRow.lt L3a _ e).1; omega
        have hne2 : u5.ownBlock ≠ some (w.heap.size + 1) := fun e => by have := (World.ownsRow.lt L3a _ e).1; omega
        have R5 := grown_row hg5 (row_alloc R3.out _) hne1
        have Z5 := grown_row hg5 (row_alloc Z3.out _) hne2
        have O5 : Own w5 wo.heap.size 5 (.slice A3 M c3) M (offF f (puO f (j + 1))) := (O3.out.alloc _).other hg5 (fun k hk e => by
          have h1 := (O3.out.lt hk).1
          have h2 := (World.ownsRow.lt HI.out.l k e).2
          omega)
        obtain ⟨A5, c5, e5, hs5, -, -⟩ := O5.sl
        have I5 := Lib.hid (show RcI n f w (j + 1) v5 (.slice A3 M c3) w5 from ⟨B5, HOK.out, R5, Z5, ⟨A5, c5, by rw [← HM.out]; exact e5, by rw [← HM.out]; exact hs5⟩, ho5⟩)
        clear ho5 hg5 B3a L3a B5 O5 O3 L3 B3 R5 Z5 hs5 e5 hne1 hne2 R3 Z3
        go_roundw
        case rel => exact ⟨j + 1, by omega, rfl, I5.out⟩
        case measure => simp [intOf]; omega
    · have hd : decide ((j : Int) < 5) = false := by simp; omega
      have hjn : j = 5 := by omega
      subst hjn
      have H3 := Lib.hid (rtt_any n cr (puO f 5) Ar f wo hsr hn)
      clear hsr
      obtain ⟨m2, hm2⟩ : ∃ m, m = n - puO f 5 := ⟨_, rfl⟩
      rw [← hm2] at H3 ⊢
      clear hm2
      go_wp2_with fail
      refine H3.out.mono ?_
      clear H3
      rintro e w3 (⟨hz, rfl, hb⟩ | ⟨hz, At, kt, A3, k3, rfl, hst, hot, hs3, -, hb⟩)
      · have HK := Lib.hid (show ¬ tcK n f from fun h => hz (fi_each h.1 1 (by omega)))
        have HZ := Lib.hid hz
        have B3 := Lib.hid (onto HI.out.b hwo hb)
        have R3 := Lib.hid (carry hb HI.out.rb)
        have Z3 := Lib.hid (carry hb HI.out.rz)
        obtain ⟨Y, hY⟩ : ∃ Y, Y = ttE (n - puO f 5) 4096 (offF f (puO f 5)) := ⟨_, rfl⟩
        rw [show ((ttE (n - puO f 5) 4096 (offF f (puO f 5)) : Nat) : Int) = (Y : Int) by rw [hY]]
        have hne : ((Y : Int) != 0) = true := by have := HZ.out; rw [← hY] at this; simp; omega
        have H4 := Lib.hid (rtt_nil w3)
        clear hz hb hY
        go_wp2_with fail
        refine H4.out.mono ?_
        rintro e w4 ⟨rfl, hb⟩
        have B4 := Lib.hid (onto B3.out B3.out.size hb)
        have R4 := Lib.hid (carry hb R3.out)
        have Z4 := Lib.hid (carry hb Z3.out)
        clear hb H4
        obtain ⟨c0, c1, c2, c3, c4, c5, c6⟩ := cells7 R4.out
        obtain ⟨d0, d1, d2, d3, d4, d5, d6⟩ := cells7 Z4.out
        have z0 := froz_row R4.out 0
        have z1 := froz_row R4.out 1
        have z2 := froz_row R4.out 2
        have z3 := froz_row R4.out 3
        have z4 := froz_row R4.out 4
        have z5 := froz_row R4.out 5
        have z6 := froz_row R4.out 6
        go_wp2_with fail
        rw [set7 R4.out]
        exact bodyPost_ret (v := .tuple #[comZ, .int .i64 80]) (res_ct Try.results14 _ _ w.heap.size _ _ rfl (row_setRow R4.out _) Try.underlying24 rfl (by kernel_rfl)) rfl (.inl ⟨HK.out, rfl, below_setRow B4.out (Nat.le_refl _) _⟩)
      · have q1 := Lib.hid hz
        have B3 := Lib.hid (onto HI.out.b hwo hb)
        have R3 := Lib.hid (carry hb HI.out.rb)
        have Z3 := Lib.hid (carry hb HI.out.rz)
        have hlow := row_lt R3.out
        have HT := Lib.hid (And.intro hst (hot w.heap.size (row_lt HI.out.rb)))
        have L3 := Lib.hid (ownsRow_below HI.out.l hb (Nat.le_refl _))
        have H4 := Lib.hid (rtt_any n k3 (txO f (puO f 5)) A3 f w3 hs3 hn)
        have HP0 := Lib.hid HI.out.ok
        clear hz hb hs3 hst hot HI hwo hlow
        obtain ⟨T, hT⟩ : ∃ T, T = tkV (offF f (puO f 5)) := ⟨_, rfl⟩
        rw [← hT] at HT ⊢
        have XT := Lib.hid hT
        clear hT
        obtain ⟨m3, hm3⟩ : ∃ m, m = n - txO f (puO f 5) := ⟨_, rfl⟩
        rw [← hm3] at H4 ⊢
        have HM3 := Lib.hid hm3
        clear hm3
        go_wp2_with fail
        refine H4.out.mono ?_
        clear H4
        rintro e w4 (⟨hz, rfl, hb⟩ | ⟨hz, Ab, kb, A4, k4, rfl, hsb, hob, -, -, hb⟩)
        · have HK := Lib.hid (show ¬ tcK n f from fun h => hz (fi_each h.1 2 (by omega)))
          have HZ := Lib.hid hz
          have B4 := Lib.hid (onto B3.out B3.out.size hb)
          have R4 := Lib.hid (carry hb R3.out)
          have Z4 := Lib.hid (carry hb Z3.out)
          obtain ⟨Y, hY⟩ : ∃ Y, Y = ttE (n - txO f (puO f 5)) 4096 (offF f (txO f (puO f 5))) := ⟨_, rfl⟩
          rw [show ((ttE (n - txO f (puO f 5)) 4096 (offF f (txO f (puO f 5))) : Nat) : Int) = (Y : Int) by rw [hY]]
          have hne : ((Y : Int) != 0) = true := by have := HZ.out; rw [← hY] at this; simp; omega
          clear hz hb hY
          obtain ⟨c0, c1, c2, c3, c4, c5, c6⟩ := cells7 R4.out
          obtain ⟨d0, d1, d2, d3, d4, d5, d6⟩ := cells7 Z4.out
          have z0 := froz_row R4.out 0
          have z1 := froz_row R4.out 1
          have z2 := froz_row R4.out 2
          have z3 := froz_row R4.out 3
          have z4 := froz_row R4.out 4
          have z5 := froz_row R4.out 5
          have z6 := froz_row R4.out 6
          go_wp2_with fail
          rw [set7 R4.out]
          exact bodyPost_ret (v := .tuple #[comZ, .int .i64 80]) (res_ct Try.results14 _ _ w.heap.size _ _ rfl (row_setRow R4.out _) Try.underlying24 rfl (by kernel_rfl)) rfl (.inl ⟨HK.out, rfl, below_setRow B4.out (Nat.le_refl _) _⟩)
        · have hz' : ttE (n - tcO f 2) 4096 (offF f (tcO f 2)) = 0 := hz
          have HP := Lib.hid (show fiE (tcS n f) 3 = 0 from fi_zero fun j hj => by
            have : j = 0 ∨ j = 1 ∨ j = 2 := by omega
            rcases this with rfl | rfl | rfl
            · exact HP0.out
            · exact q1.out
            · exact hz')
          have B4 := Lib.hid (onto B3.out B3.out.size hb)
          have R4 := Lib.hid (carry hb R3.out)
          have Z4 := Lib.hid (carry hb Z3.out)
          have L4 := Lib.hid (ownsRow_below L3.out hb (Nat.le_refl _))
          have ST4 := Lib.hid ((HT.out.1.below hb).more hb.size)
          have SN4 := Lib.hid ((HS.out.below B4.out).more B4.out.size)
          have HL := Lib.hid (And.intro (show Sl w4 w4.heap.size Ab (tcU f) kb (tcG f) from hsb) (show Off w.heap.size (tcU f) Ab from hob w.heap.size (row_lt R3.out)))
          clear hz hz' hb hsb hob B3 R3 Z3 L3
          obtain ⟨U, hU⟩ : ∃ U, U = tcU f := ⟨_, rfl⟩
          rw [show tkV (offF f (txO f (puO f 5))) = U from hU.symm]
          rw [← hU] at HL
          have XU := Lib.hid hU
          clear hU
          go_wp2_with fail
          refine flow_seen [([0, 1, 2, 3, 4, 5, 6, 7, 8, 9, 10, 11, 12, 13, 14, 15, 16, 17], 18, false), ([], 19, true)] [] (by kernel_rfl) (by kernel_rfl) (fun _ _ _ _ _ h => h) fun Z => ?_
          have B5 := Lib.hid (onto B4.out B4.out.size Z.below)
          have R5 := Lib.hid (carry Z.below R4.out)
          have Z5 := Lib.hid (carry Z.below Z4.out)
          have L5 := ownsRow_below L4.out Z.below (Nat.le_refl _)
          have ST5 := Lib.hid ((ST4.out.below Z.below).more Z.below.size)
          have SN5 := Lib.hid ((SN4.out.below Z.below).more Z.below.size)
          have HL5 := Lib.hid (And.intro ((HL.out.1.below Z.below).more Z.below.size) HL.out.2)
          clear B4 R4 Z4 L4 ST4 SN4 HL
          obtain ⟨w5, hw5⟩ : ∃ w5, w5 = Z.val := ⟨_, rfl⟩
          rw [← hw5] at B5 R5 Z5 L5 ST5 SN5 HL5 ⊢
          clear hw5 Z
          obtain ⟨gl, cl, cur, hvl, hgl, hcl, hrl, hel⟩ := ownsRow_row L5 (by omega)
          subst hvl
          have q : ∀ x : After w5, (x.val.cell? ⟨gl, 0, none⟩ = some (.int .i64 (puX f 0 : Nat))) ∧ (x.val.cell? ⟨gl, 1, none⟩ = some (.int .i64 (puX f 1 : Nat))) ∧ (x.val.cell? ⟨gl, 2, none⟩ = some (.int .i64 (puX f 2 : Nat))) ∧ (x.val.cell? ⟨gl, 3, none⟩ = some (.int .i64 (puX f 3 : Nat))) ∧ (x.val.cell? ⟨gl, 4, none⟩ = some (.int .i64 (puX f 4 : Nat))) := fun x => by
            have r := After.row hrl x
            refine ⟨?_, ?_, ?_, ?_, ?_⟩
            · rw [cell_row r, hel 0 (by omega), puL_nth f 5 0 (by omega)]
            · rw [cell_row r, hel 1 (by omega), puL_nth f 5 1 (by omega)]
            · rw [cell_row r, hel 2 (by omega), puL_nth f 5 2 (by omega)]
            · rw [cell_row r, hel 3 (by omega), puL_nth f 5 3 (by omega)]
            · rw [cell_row r, hel 4 (by omega), puL_nth f 5 4 (by omega)]
          obtain ⟨x0, hx0⟩ : ∃ x, x = puX f 0 := ⟨_, rfl⟩
          obtain ⟨x1, hx1⟩ : ∃ x, x = puX f 1 := ⟨_, rfl⟩
          obtain ⟨x2, hx2⟩ : ∃ x, x = puX f 2 := ⟨_, rfl⟩
          obtain ⟨x3, hx3⟩ : ∃ x, x = puX f 3 := ⟨_, rfl⟩
          obtain ⟨x4, hx4⟩ : ∃ x, x = puX f 4 := ⟨_, rfl⟩
          rw [← hx0, ← hx1, ← hx2, ← hx3, ← hx4] at q
          have HX := Lib.hid (And.intro hx0 (And.intro hx1 (And.intro hx2 (And.intro hx3 (And.intro hx4 (And.intro XT.out XU.out))))))
          clear hx0 hx1 hx2 hx3 hx4 hgl hcl hrl hel L5 XT XU
          simp only [wpFs, pk, List.getElem?_cons_zero, List.getElem?_cons_succ]
          repeat (go_big_quiet_step (fail))
          refine wpQuiet_nil ?_
          clear q
          go_wp2_with fail
          refine ⟨.inr ((Below.refl w5.heap.size w5).alloc (Nat.le_refl _) _), ?_⟩
          show wpQuiet _ _ _ _ _ _
          refine wpQuiet_nil ?_
          go_wp2_with fail
          refine ⟨.inl trivial, ?_⟩
          show wpQuiet _ _ _ _ _ _
          refine wpQuiet_nil ?_
          have bx := (Below.refl w5.heap.size w5).alloc (Nat.le_refl _) (.cells #[.int .i64 (x0 : Int), .int .i64 (x1 : Int), .int .i64 (x2 : Int), .int .i64 (x3 : Int), .int .i64 (x4 : Int), .slice At T kt, .slice Ab U kb] 24)
          have hz6 : w5.heap.size ≤ (w5.alloc (.cells #[.int .i64 (x0 : Int), .int .i64 (x1 : Int), .int .i64 (x2 : Int), .int .i64 (x3 : Int), .int .i64 (x4 : Int), .slice At T kt, .slice Ab U kb] 24)).heap.size := by simp
          have r6 : row (w5.alloc (.cells #[.int .i64 (x0 : Int), .int .i64 (x1 : Int), .int .i64 (x2 : Int), .int .i64 (x3 : Int), .int .i64 (x4 : Int), .slice At T kt, .slice Ab U kb] 24)) w5.heap.size = some #[.int .i64 (x0 : Int), .int .i64 (x1 : Int), .int .i64 (x2 : Int), .int .i64 (x3 : Int), .int .i64 (x4 : Int), .slice At T kt, .slice Ab U kb] := row_alloc_at _ _ _ _ rfl
          have B6 := Lib.hid (onto B5.out B5.out.size bx)
          have R6 := Lib.hid (carry bx R5.out)
          have Z6 := Lib.hid (carry bx Z5.out)
          have ST6 := Lib.hid ((ST5.out.below bx).more hz6)
          have SN6 := Lib.hid ((SN5.out.below bx).more hz6)
          have HL6 := Lib.hid ((HL5.out.1.below bx).more hz6)
          obtain ⟨w6, hw6⟩ : ∃ w6, w6 = w5.alloc (.cells #[.int .i64 (x0 : Int), .int .i64 (x1 : Int), .int .i64 (x2 : Int), .int .i64 (x3 : Int), .int .i64 (x4 : Int), .slice At T kt, .slice Ab U kb] 24) := ⟨_, rfl⟩
          rw [← hw6] at r6 B6 R6 Z6 ST6 SN6 HL6 ⊢
          have X6 := Lib.hid r6
          have H6 := Lib.hid (rcommand_any (x0 : Int) (x1 : Int) (x2 : Int) (x3 : Int) (x4 : Int) T U kt kb At Ab (tcF f) (tcG f) w6 ST6.out HL6.out (fun j => by
            have hp := fi_each HP.out 0 (by omega)
            obtain ⟨e0, e1, e2, e3, e4, -, -⟩ := HX.out
            have b0 := puX_lt (j := 0) hp (by omega)
            have b1 := puX_lt (j := 1) hp (by omega)
            have b2 := puX_lt (j := 2) hp (by omega)
            have b3 := puX_lt (j := 3) hp (by omega)
            have b4 := puX_lt (j := 4) hp (by omega)
            rw [← e0] at b0
            rw [← e1] at b1
            rw [← e2] at b2
            rw [← e3] at b3
            rw [← e4] at b4
            unfold comN
            repeat' split
            all_goals omega))
          obtain ⟨c0, c1, c2, c3, c4, c5, c6⟩ := cells7 r6
          clear hw6 bx hz6 r6 B5 R5 Z5 ST5 SN5
          go_wp2_with fail
          refine H6.out.mono ?_
          clear H6 c0 c1 c2 c3 c4 c5 c6
          rintro e w7 (⟨hz, rfl, hb⟩ | ⟨hz, v7, rfl, ho, hb⟩)
          · have HK := Lib.hid (show ¬ tcK n f from fun h => hz (by
              obtain ⟨e0, e1, e2, e3, e4, eT, eU⟩ := HX.out
              rw [e0, e1, e2, e3, e4, eT, eU]
              exact h.2.2))
            have HZ := Lib.hid hz
            have B7 := Lib.hid (onto B6.out B6.out.size hb)
            have R7 := Lib.hid (carry hb R6.out)
            have Z7 := Lib.hid (carry hb Z6.out)
            obtain ⟨Y, hY⟩ : ∃ Y, Y = chkE (x0 : Int) (x1 : Int) (x2 : Int) (x3 : Int) (x4 : Int) T U := ⟨_, rfl⟩
            rw [show ((chkE (x0 : Int) (x1 : Int) (x2 : Int) (x3 : Int) (x4 : Int) T U : Nat) : Int) = (Y : Int) by rw [hY]]
            have hne : ((Y : Int) != 0) = true := by have := HZ.out; rw [← hY] at this; simp; omega
            clear hz hb hY
            obtain ⟨c0, c1, c2, c3, c4, c5, c6⟩ := cells7 R7.out
            obtain ⟨d0, d1, d2, d3, d4, d5, d6⟩ := cells7 Z7.out
            have z0 := froz_row R7.out 0
            have z1 := froz_row R7.out 1
            have z2 := froz_row R7.out 2
            have z3 := froz_row R7.out 3
            have z4 := froz_row R7.out 4
            have z5 := froz_row R7.out 5
            have z6 := froz_row R7.out 6
            go_wp2_with fail
            rw [set7 R7.out]
            exact bodyPost_ret (v := .tuple #[comZ, .int .i64 80]) (res_ct Try.results14 _ _ w.heap.size _ _ rfl (row_setRow R7.out _) Try.underlying24 rfl (by kernel_rfl)) rfl (.inl ⟨HK.out, rfl, below_setRow B7.out (Nat.le_refl _) _⟩)
          · have HE := Lib.hid (show chkE (puX f 0 : Nat) (puX f 1 : Nat) (puX f 2 : Nat) (puX f 3 : Nat) (puX f 4 : Nat) (tcT f) (tcU f) = 0 by
              obtain ⟨e0, e1, e2, e3, e4, eT, eU⟩ := HX.out
              rw [e0, e1, e2, e3, e4, eT, eU] at hz
              exact hz)
            have B7 := Lib.hid (onto B6.out B6.out.size hb)
            have R7 := Lib.hid (carry hb R6.out)
            have Z7 := Lib.hid (carry hb Z6.out)
            have X7 := Lib.hid (carry hb X6.out)
            have ST7 := Lib.hid ((ST6.out.below hb).more hb.size)
            have SN7 := Lib.hid ((SN6.out.below hb).more hb.size)
            have HL7 := Lib.hid ((HL6.out.below hb).more hb.size)
            obtain ⟨e1, e2, e3⟩ := once_com HP.out
            have ho2 : Own w7 w6.heap.size 5 v7 (tcO f 3) f := by
              obtain ⟨g0, g1, g2, g3, g4, gT, gU⟩ := HX.out
              rw [g0, g1, g2, g3, g4, gT, gU, show tkV (offF f (puO f 5)) = tcT f from rfl, e1] at ho
              exact ho.congr e2
            have cv1 := conv_own ho2
            have cv2 := conv_sl SN7.out
            clear hz ho hb B6 R6 Z6 X6 ST6 SN6 HL6 e1 e2 ho2
            obtain ⟨SX, hSX⟩ : ∃ SX, SX = strOf (tcO f 3) f := ⟨_, rfl⟩
            rw [← hSX] at cv1
            have HSX := Lib.hid hSX
            clear hSX
            by_cases hr : tcO f 3 = n
            · have HK := Lib.hid (show tcK n f from ⟨HP.out, by omega, HE.out⟩)
              rw [show strOf n f = SX by rw [HSX.out, hr]] at cv2
              clear hr e3
              obtain ⟨c0, c1, c2, c3, c4, c5, c6⟩ := cells7 R7.out
              obtain ⟨d0, d1, d2, d3, d4, d5, d6⟩ := cells7 X7.out
              have z0 := froz_row R7.out 0
              have z1 := froz_row R7.out 1
              have z2 := froz_row R7.out 2
              have z3 := froz_row R7.out 3
              have z4 := froz_row R7.out 4
              have z5 := froz_row R7.out 5
              have z6 := froz_row R7.out 6
              go_wp2_with fail
              rw [set7 R7.out]
              have hp : Put w.heap.size #[.int .i64 (x0 : Int), .int .i64 (x1 : Int), .int .i64 (x2 : Int), .int .i64 (x3 : Int), .int .i64 (x4 : Int), .slice At T kt, .slice Ab U kb] w7 (w7.setRow w.heap.size #[.int .i64 (x0 : Int), .int .i64 (x1 : Int), .int .i64 (x2 : Int), .int .i64 (x3 : Int), .int .i64 (x4 : Int), .slice At T kt, .slice Ab U kb]) := Put.of (Below.refl _ _) (row_lt R7.out) _
              obtain ⟨g0, g1, g2, g3, g4, gT, gU⟩ := HX.out
              refine bodyPost_ret (v := .tuple #[comV (x0 : Int) (x1 : Int) (x2 : Int) (x3 : Int) (x4 : Int) (.slice At T kt) (.slice Ab U kb), .int .i64 0]) (res_ct Try.results14 _ _ w.heap.size _ _ rfl (row_setRow R7.out _) Try.underlying24 rfl (by kernel_rfl)) rfl (.inr ⟨HK.out, At, kt, Ab, kb, by rw [g0, g1, g2, g3, g4, gT, gU]; rfl, ?_, ?_, below_setRow B7.out (Nat.le_refl _) _⟩)
              · have h := (hp.sl ST7.out (Nat.le_refl _) HT.out.2).more hp.size
                rw [gT] at h ⊢
                exact h
              · have h := (hp.sl HL7.out (Nat.le_refl _) HL5.out.2).more hp.size
                rw [gU] at h ⊢
                exact h
            · have HK := Lib.hid (show ¬ tcK n f from fun h => hr (by have := h.2.1; omega))
              obtain ⟨SY, hSY⟩ : ∃ SY, SY = strOf n f := ⟨_, rfl⟩
              rw [← hSY] at cv2
              have hne : (SX.toList == SY.toList) = false := by rw [HSX.out, hSY]; exact str_nelN hr
              clear hr e3 hSY
              obtain ⟨c0, c1, c2, c3, c4, c5, c6⟩ := cells7 R7.out
              obtain ⟨d0, d1, d2, d3, d4, d5, d6⟩ := cells7 Z7.out
              have z0 := froz_row R7.out 0
              have z1 := froz_row R7.out 1
              have z2 := froz_row R7.out 2
              have z3 := froz_row R7.out 3
              have z4 := froz_row R7.out 4
              have z5 := froz_row R7.out 5
              have z6 := froz_row R7.out 6
              go_wp2_with fail
              rw [set7 R7.out]
              exact bodyPost_ret (v := .tuple #[comZ, .int .i64 80]) (res_ct Try.results14 _ _ w.heap.size _ _ rfl (row_setRow R7.out _) Try.underlying24 rfl (by kernel_rfl)) rfl (.inl ⟨HK.out, rfl, below_setRow B7.out (Nat.le_refl _) _⟩)
end Go.Proofs.Ytfpkfbojckgcdaa.Oct
