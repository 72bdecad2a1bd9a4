/- Contracts of drbg's Source: bytes, Draw, State, Of, Clone, New. -/
import Derived.Test.YtjggnbncpjoooaaDoorDrA
import Derived.Test.YtjggnbncpjoooaaDoorMacA
namespace Go.Proofs.YtjggnbncpjoooaaDoor.Oct
open Go.ChangeShapes Go.WideShapes Go.ChangeAt Go.RowKit
set_option linter.unusedVariables false

/-- two results that lie in cells, and one that does not -/
theorem res_cct {P : Program} {fn : Func} {p q u : Tmp} {ty ty' : TypeId} (h : fn.results = #[.cell p ty, .cell q ty', .tmp u]) (tmps : Array Value) (w : World) (b b' : Nat) (c c' : Array Value) (d d' : TypeDesc)
    (hp : tmps.getD p undef = .pointer (some ⟨b, 0, none⟩)) (hr : row w b = some c) (hu : P.underlying ty = some d) (hd : d.isRow = true) (hi : (P.info? ty).map (·.size) = some c.size)
    (hp' : tmps.getD q undef = .pointer (some ⟨b', 0, none⟩)) (hr' : row w b' = some c') (hu' : P.underlying ty' = some d') (hd' : d'.isRow = true) (hi' : (P.info? ty').map (·.size) = some c'.size) :
    (results fn tmps).run P w = .ok (.tuple #[.agg c, .agg c', tmps.getD u undef]) w := by
  have key : ∀ (b : Nat) (c : Array Value) (ty : TypeId) (d : TypeDesc), row w b = some c → P.underlying ty = some d → d.isRow = true → (P.info? ty).map (·.size) = some c.size → (loadVar ty ⟨b, 0, none⟩).run P w = .ok (.agg c) w := by
    intro b c ty d hr hu hd hi
    obtain ⟨t', ht⟩ := row_is hr
    have hg : w.rangeAt b 0 (c.extract 0 (0 + c.size)).toList := World.rangeAt_of_block ht 0 c.size
    have hx := run_loadVar_mid (P := P) w b 0 ty _ d hg hu hd (by rw [hi]; simp)
    rw [Array.toArray_toList, Nat.zero_add, Array.extract_size] at hx
    exact hx
  have hp2 : tmps[p]?.getD undef = .pointer (some ⟨b, 0, none⟩) := by simpa using hp
  have hp3 : tmps[q]?.getD undef = .pointer (some ⟨b', 0, none⟩) := by simpa using hp'
  simp only [results, h]
  simp [Sem.run_bind, hp2, hp3, asAddr, key b c ty d hr hu hd hi, key b' c' ty' d' hr' hu' hd' hi']

/-- what is known on the way through bytes -/
structure BsInv (w : World) (B : Nat) (s : St) (c : Int) (n j : Nat) (wr : World) : Prop where
  p : Put B (srcC s.1 (vsF s j) c) w wr
  r : row wr w.heap.size = some (ba n (upto (32 * j) (drF s) fun _ => 0#8))
set_option maxHeartbeats 2000000 in
theorem dbytes_any (s : St) (c : Int) (B n : Nat) (w : World) (ht : Tab w) (hr : row w B = some (srcC s.1 s.2 c)) (hB : 0 < B) (hn : n ≤ 256) :
    Calls Tryd.prog 25 #[.pointer (some ⟨B, 0, none⟩), .int .i64 n] w fun e w' => e = .returned (.slice (some ⟨w.heap.size, 0, none⟩) n n) ∧ row w' w.heap.size = some (ba n (drF s)) ∧ Put B (srcC s.1 (vsF s (nV n)) c) w w' := by
  have HT := Lib.hid ht
  have HR := Lib.hid hr
  have hBz := row_lt hr
  have hmk := mk_sl n (by omega)
  have a1 := sum_sl_at B 32
  clear ht hr
  go_enter Tryd.func25, Tryd.ntmps25
  have E0 := Lib.hid (show BsInv w B s c n 0 (w.alloc (.cells (ba n fun _ => 0#8) 5)) from ⟨(Put.nil HR.out).calm ((Below.refl _ _).alloc (Nat.le_refl _) _), by rw [Nat.mul_zero, upto_zero]; exact row_alloc_at _ _ _ _ rfl⟩)
  go_wp2_with fail
  clear hmk
  go_loopw [6] (fun iv wr => ∃ j : Nat, 32 * j < n + 32 ∧ iv = .int .i64 ((min (32 * j) n : Nat) : Int) ∧ BsInv w B s c n j wr) (fun iv _ => n - (intOf iv).toNat)
  case atStart => exact ⟨0, by omega, by rw [Nat.mul_zero, Nat.zero_min]; rfl, E0.out⟩
  case round =>
    clear E0
    obtain ⟨j, hj, rfl, hE⟩ := hrel
    obtain ⟨wo, rfl⟩ : ∃ wo : World, wo = wr := ⟨_, rfl⟩
    have HE := Lib.hid hE
    clear hE
    obtain ⟨F, hF⟩ : ∃ F, F = min (32 * j) n := ⟨_, rfl⟩
    rw [← hF]
    have hsz : w.heap.size < wo.heap.size := row_lt HE.out.r
    have HF := Lib.hid hF
    by_cases hlt : F < n
    · have hd : decide ((F : Int) < (n : Int)) = true := by simp; omega
      have HFj := Lib.hid (show F = 32 * j by omega)
      clear hF
      have H1 := Lib.hid (dstep_any (s.1, vsF s j) c B wo (tab_put HT.out hB HE.out.p) (HE.out.p.row HR.out) hB)
      go_wp2_with fail
      refine H1.out.mono ?_
      rintro e w6 ⟨rfl, hp6⟩
      have P6 := Lib.hid (show Put B (srcC s.1 (vsF s (j + 1)) c) w w6 from HE.out.p.then HR.out hp6)
      have r6 := hp6.other (by omega) HE.out.r
      have hz6 := hp6.size
      have hfr := run_from sli_u u8_i (some (⟨w.heap.size, 0, none⟩ : Addr)) n n F (by omega)
      rw [show cutA (some (⟨w.heap.size, 0, none⟩ : Addr)) n F = some ⟨w.heap.size, F, none⟩ by unfold cutA; rw [if_neg (by omega)]; simp only [Option.map_some]; rw [add_mid, Nat.zero_add]] at hfr
      clear hp6 H1 HE
      go_wp2_with fail
      refine flow_region [([0, 1, 2, 3, 4, 5, 6, 7], 8, false)] [9, 10] (fun _ => True) (by kernel_rfl) (by kernel_rfl) (fun _ _ _ _ _ h => h) trivial ?_
      have b7 := below_drewN (Below.refl w6.heap.size w6) 1
      have hz7 : (w6.drewN 1).heap.size = w6.heap.size := rfl
      obtain ⟨w7, hw7⟩ : ∃ w7, w7 = w6.drewN 1 := ⟨_, rfl⟩
      rw [← hw7] at b7 hz7 ⊢
      clear hw7
      have r7 := carry b7 r6
      have P7 := Lib.hid (P6.out.calm b7)
      have HI := Lib.hid (src_slv (P7.out.row HR.out) w7.heap.size (by omega))
      clear b7 r6 P6
      obtain ⟨C, hC⟩ : ∃ C, C = min 32 (n - F) := ⟨_, rfl⟩
      have HC := Lib.hid hC
      have hV : ba n (putF (upto (32 * j) (drF s) fun _ => 0#8) F C (vsF s (j + 1))) = ba n (upto (32 * (j + 1)) (drF s) fun _ => 0#8) := ba_ext fun i hi => by
        have h1 := HFj.out
        unfold putF upto
        by_cases h2 : i < 32 * j
        · rw [if_neg (by omega), if_pos h2, if_pos (by omega)]
        · by_cases h3 : i < 32 * (j + 1)
          · rw [if_pos (by omega), if_pos h3]
            unfold drF
            rw [show i / 32 = j by omega, show i % 32 = i - F by omega]
          · rw [if_neg (by omega), if_neg h2, if_neg h3]
      have HV := Lib.hid hV
      have HF2 := Lib.hid (show ((F : Int) + (C : Int)) = ((min (32 * (j + 1)) n : Nat) : Int) by have := HFj.out; omega)
      have hw8 : IntKind.i64.wrap ((F : Int) + (C : Int)) = (F : Int) + (C : Int) := IntWalk.i64_in _ (by omega)
      simp only [wpFl, pk, List.getElem?_cons_zero, List.getElem?_cons_succ]
      clear hV hC
      repeat (go_big_quiet_step (fail))
      refine wpQuiet_nil ?_
      go_wp2_with (refine wpl_copyAt rfl (.tmp 17) (.tmp 21) 22 22 5 rfl sli_u u8_i r7 (show F + (n - F) ≤ n by omega) HI.out HC.out rfl rfl ?_)
      rw [HV.out]
      have E8 := Lib.hid (show BsInv w B s c n (j + 1) (w7.setRow w.heap.size (ba n (upto (32 * (j + 1)) (drF s) fun _ => 0#8))) from ⟨below_setRow P7.out (Nat.le_refl _) _, row_setRow r7 _⟩)
      obtain ⟨w8, hw8'⟩ : ∃ w8, w8 = w7.setRow w.heap.size (ba n (upto (32 * (j + 1)) (drF s) fun _ => 0#8)) := ⟨_, rfl⟩
      rw [← hw8'] at E8 ⊢
      clear hw8' r7
      refine ⟨fun _ => True, trivial, ?_⟩
      show wpQuiet _ _ _ _ _ _
      repeat (go_big_quiet_step (fail))
      refine wpQuiet_nil ?_
      rw [HF2.out]
      go_wp2_with fail
      go_roundw
      case rel => exact ⟨j + 1, by have := HFj.out; omega, rfl, E8.out⟩
      case measure =>
        have := HFj.out
        simp only [intOf]
        omega
    · have hd : decide ((F : Int) < (n : Int)) = false := by simp; omega
      have HX := Lib.hid (show ba n (upto (32 * j) (drF s) fun _ => 0#8) = ba n (drF s) from ba_ext fun i hi => by unfold upto; rw [if_pos (by omega)])
      have HJ := Lib.hid (show j = nV n by unfold nV; omega)
      clear hF
      go_wp2_with fail
      go_ret
      refine ⟨rfl, ?_, ?_⟩
      · rw [HE.out.r, HX.out]
      · rw [← HJ.out]; exact HE.out.p

set_option maxHeartbeats 1000000 in
theorem ddraw_arg (B n cc : Nat) (A : Option Addr) (x : Int) (w : World) (hx : x < 0 ∨ 256 < x) :
    Calls Tryd.prog 13 #[.pointer (some ⟨B, 0, none⟩), .int .i64 x, .slice A n cc] w fun e w' => e = .returned (.tuple #[.slice none 0 0, .int .i64 1]) ∧ w = w' := by
  by_cases h0 : x < 0
  · have hd : decide (x < 0) = true := by simp; omega
    go_enter Tryd.func13, Tryd.ntmps13
    go_wp2_with fail
    exact bodyPost_ret (v := .tuple #[.slice none 0 0, .int .i64 1]) (by simp [results, Tryd.results13, go_sem]) rfl ⟨rfl, rfl⟩
  · have hd : decide (x < 0) = false := by simp; omega
    have hd2 : decide (256 < x) = true := by simp; omega
    go_enter Tryd.func13, Tryd.ntmps13
    go_wp2_with fail
    exact bodyPost_ret (v := .tuple #[.slice none 0 0, .int .i64 1]) (by simp [results, Tryd.results13, go_sem]) rfl ⟨rfl, rfl⟩
set_option maxHeartbeats 1000000 in
theorem ddraw_seed (s : St) (B n m cc : Nat) (A : Option Addr) (c : Int) (w : World) (hr : row w B = some (srcC s.1 s.2 c)) (hn : n ≤ 256) (hc : 1048576 < c) :
    Calls Tryd.prog 13 #[.pointer (some ⟨B, 0, none⟩), .int .i64 n, .slice A m cc] w fun e w' => e = .returned (.tuple #[.slice none 0 0, .int .i64 70]) ∧ w = w' := by
  have hcl := src_cell hr
  have hd : decide ((n : Int) < 0) = false := by simp
  have hd2 : decide (256 < (n : Int)) = false := by simp; omega
  have hd3 : decide (1048576 < c) = true := by simp; omega
  clear hr
  go_enter Tryd.func13, Tryd.ntmps13
  go_wp2_with fail
  exact bodyPost_ret (v := .tuple #[.slice none 0 0, .int .i64 70]) (by simp [results, Tryd.results13, go_sem]) rfl ⟨rfl, rfl⟩
set_option maxHeartbeats 2000000 in
theorem ddraw_any (s : St) (B n m cc : Nat) (A : Option Addr) (b : Bf) (c : Int) (w : World) (ht : Tab w) (hr : row w B = some (srcC s.1 s.2 c)) (hB : 0 < B) (hs : Sl w w.heap.size A m cc b) (hm : m ≤ 140737488354000) (ho : Off B m A) (hn : n ≤ 256) (hc : c ≤ 1048576) (hc0 : -9223372036854775808 ≤ c) :
    Calls Tryd.prog 13 #[.pointer (some ⟨B, 0, none⟩), .int .i64 n, .slice A m cc] w fun e w' => ∃ g, e = .returned (.tuple #[.slice (some ⟨g, 0, none⟩) n n, .int .i64 0]) ∧ w.heap.size ≤ g ∧ row w' g = some (ba n (drwF s b m)) ∧ Put B (srcC (drwS s n b m).1 (drwS s n b m).2 (c + 1)) w w' := by
  have HT := Lib.hid ht
  have HR := Lib.hid hr
  have HS := Lib.hid hs
  have HO := Lib.hid ho
  have hcl := src_cell hr
  have hBz := row_lt hr
  have hd : decide ((n : Int) < 0) = false := by simp
  have hd2 : decide (256 < (n : Int)) = false := by simp; omega
  have hd3 : decide (1048576 < c) = false := by simp; omega
  clear hr ht hs ho
  -- behind the first update
  obtain ⟨t, ht⟩ : ∃ t : St, t = if m = 0 then s else updS s b m := ⟨_, rfl⟩
  have HTT := Lib.hid ht
  clear ht
  go_enter Tryd.func13, Tryd.ntmps13
  by_cases h0 : m = 0
  case' pos =>
    have hd4 : decide ((0 : Int) < (m : Int)) = false := by simp; omega
    have P0 := Lib.hid (show Put B (srcC t.1 t.2 c) w w by rw [HTT.out, if_pos h0]; exact Put.nil HR.out)
    have HD := Lib.hid h0
    go_wp2_with fail
    obtain ⟨w1, hw1⟩ : ∃ w1, w1 = w := ⟨_, rfl⟩
    have P1 := Lib.hid (show Put B (srcC t.1 t.2 c) w w1 by rw [hw1]; exact P0.out)
    rw [← hw1]
    clear P0 hw1
  case' neg =>
    have hd4 : decide ((0 : Int) < (m : Int)) = true := by simp; omega
    have HD := Lib.hid h0
    have H0 := Lib.hid (dupd_any s c B b m cc A w HT.out HR.out hB HS.out hm HO.out)
    go_wp2_with fail
    refine H0.out.mono ?_
    rintro e w1 ⟨rfl, hp1⟩
    have P1 := Lib.hid (show Put B (srcC t.1 t.2 c) w w1 by rw [HTT.out, if_neg h0]; exact hp1)
    clear H0 hp1
    go_wp2_with fail
  all_goals
    clear HD hd4 h0
    have r1 := P1.out.row HR.out
    have T1 := tab_put HT.out hB P1.out
    have hz1 := P1.out.size
    refine (dbytes_any t c B n w1 T1 r1 hB hn).mono ?_
    rintro e w2 ⟨rfl, hg2, hp2⟩
    have P2 := Lib.hid (P1.out.then HR.out hp2)
    have G2 := Lib.hid hg2
    have hz2 := hp2.size
    have hg2' := row_lt hg2
    clear r1 T1 hp2 hg2 P1 hd hd2 hd3 hcl
    have H3 := Lib.hid (dupd_any (t.1, vsF t (nV n)) c B b m cc A w2 (tab_put HT.out hB P2.out) (P2.out.row HR.out) hB ((P2.out.sl HS.out (Nat.le_refl _) HO.out).more P2.out.size) hm HO.out)
    go_wp2_with fail
    refine H3.out.mono ?_
    rintro e w3 ⟨rfl, hp3⟩
    have P3 := Lib.hid (P2.out.then HR.out hp3)
    have G3 := Lib.hid (hp3.other (by omega) G2.out)
    have hz3 := hp3.size
    have r3 := P3.out.row HR.out
    have hcl := src_cell r3
    have hfz := froz_row r3 64
    have hwr : IntKind.i64.wrap (c + 1) = c + 1 := IntWalk.i64_in _ (by omega)
    clear hp3 H3 P2 G2
    go_wp2_with fail
    rw [src_set r3]
    have P4 := Lib.hid (P3.out.then HR.out (Put.of (Below.refl _ _) (row_lt r3) (srcC (updS (t.1, vsF t (nV n)) b m).1 (updS (t.1, vsF t (nV n)) b m).2 (c + 1))))
    have G4 := Lib.hid (show row (w3.setRow B (srcC (updS (t.1, vsF t (nV n)) b m).1 (updS (t.1, vsF t (nV n)) b m).2 (c + 1))) w1.heap.size = some (ba n (drF t)) by rw [row_setRow_other _ _ _ _ (by omega)]; exact G3.out)
    refine bodyPost_ret (v := .tuple #[.slice (some ⟨w1.heap.size, 0, none⟩) n n, .int .i64 0]) (by simp [results, Tryd.results13, go_sem]) rfl ⟨w1.heap.size, rfl, hz1, ?_, ?_⟩
    · rw [G4.out]
      unfold drwF
      rw [← HTT.out]
    · unfold drwS
      rw [← HTT.out]
      exact P4.out
end Go.Proofs.YtjggnbncpjoooaaDoor.Oct
