/- The statement DrbgPlays: the law strongroomlaw07.DrbgPlays answers true for every input, and leaves its arguments as they were. Condition: the package variables that the row lists read at the call as the text of the program lays them; the card ties that. -/
import Derived.Test.YtjggnbncpjoooaaDoorRows
import Derived.Test.YtjggnbncpjoooaaDoorLib
import Derived.Test.YtjggnbncpjoooaaDoorDrP
import Derived.Test.YtjggnbncpjoooaaDoorTab
import Derived.Test.YtjggnbncpjoooaaDoorCards
import Derived.Test.YtjggnbncpjoooaaDoorTie
import Derived.SevenTiedAt
namespace Go.Proofs.YtjggnbncpjoooaaDoor.drbgPlays
open Go.ChangeShapes Go.WideShapes Go.ChangeAt Go.RowKit
open Go.Proofs.YtjggnbncpjoooaaDoor.Oct
set_option linter.unusedVariables false

theorem own : ownKnob Tryd.prog.godebug = none := by kernel_rfl
theorem laidOut : laidOutB Tryd.prog = true := by kernel_rfl

set_option maxRecDepth 20000 in
set_option maxHeartbeats 16000000 in
theorem walk (a0 : Nat → BitVec 8) (n0 c0 : Nat) (A0 : Option Addr) (n1 c1 : Nat) (A1 : Option Addr) (w : World) (hs0 : Sl w w.heap.size A0 n0 c0 a0) (hm0 : c0 ≤ maxLen) (hl1 : OpsSl w w.heap.size A1 n1 c1) (htab : Tab w) :
    Calls Tryd.prog 3 #[.slice A0 n0 c0, .slice A1 n1 c1] w fun e w' => e = .returned (.bool true) ∧ Below w.heap.size w w' := by
  have HT := Lib.hid htab
  have HS := Lib.hid hs0
  have HM := Lib.hid hm0
  have HL := Lib.hid hl1
  have hn : n0 ≤ c0 := hs0.le
  have hnc : n1 ≤ 9223372036854775807 := by have := hl1.le; have := hl1.big; unfold maxLen at this; omega
  have hpos := htab.pos
  clear htab hs0 hm0 hl1
  go_enter Tryd.func3, Tryd.ntmps3
  go_wp2_with fail
  refine (shown_any w HT.out).mono ?_
  rintro e w1 ⟨rfl, hb1⟩
  have B1 := Lib.hid hb1
  have z1 := hb1.size
  clear hb1
  go_wp2_with fail
  refine (few_any A0 n0 c0 hn HM.out w1).mono ?_
  rintro e w1' ⟨rfl, rfl⟩
  obtain ⟨N, hN⟩ : ∃ N, N = min n0 300 := ⟨_, rfl⟩
  have HN := Lib.hid hN
  have hN3 : N ≤ 300 := by omega
  have SS := Lib.hid (HS.out.upto N (by omega))
  rw [← hN]
  clear hN HS
  have HD := Lib.hid (dnew_any a0 N c0 A0 w1 (HT.out.below B1.out hpos) ((SS.out.below B1.out).more z1) (by omega))
  go_wp2_with fail
  refine HD.out.mono ?_
  rintro e w2 ⟨g, rfl, hg, rg, hb2⟩
  have B2 := Lib.hid (onto B1.out z1 hb2)
  have RG := Lib.hid rg
  have z2 := hb2.size
  clear hb2 rg HD B1
  go_wp2_with fail
  refine (few_any A0 n0 c0 hn HM.out w2).mono ?_
  rintro e w1' ⟨rfl, rfl⟩
  rw [← HN.out]
  have HD := Lib.hid (rnew_any a0 N c0 A0 w2 ((SS.out.below B2.out).more (by omega)) (by omega))
  go_wp2_with fail
  refine HD.out.mono ?_
  rintro e w3 ⟨h, AK, cK, rfl, hh, rh, hk, hb3⟩
  obtain ⟨S, hS⟩ : ∃ S : St, S = updS newS a0 N := ⟨_, rfl⟩
  rw [← hS] at rh RG
  have I3 := Lib.hid (show PlI w g h AK cK S 1 S 1 w3 from ⟨onto B2.out (by omega) hb3, by omega, by omega, carry hb3 RG.out, rh, hk⟩)
  have hgh : g < h := Nat.lt_of_lt_of_le (row_lt RG.out) hh
  clear rh hk hb3 HD B2 RG hS
  go_wp2_with fail
  go_loopw [6, 8] (fun sv iv wr => ∃ (i g' : Nat) (S' : St) (c : Int), i ≤ n1 ∧ i ≤ 15 ∧ sv = .pointer (some ⟨g', 0, none⟩) ∧ iv = .int .i64 i ∧ 0 ≤ c ∧ c ≤ 1048577 ∧ PlI w g' h AK cK S' c S' c wr) (fun _ iv _ => n1 - (intOf iv).toNat)
  case atStart => exact ⟨0, g, S, 1, by omega, by omega, rfl, rfl, by omega, by omega, I3.out⟩
  case round =>
    clear I3 hgh
    obtain ⟨i, g', S', c, hi, hi15, rfl, rfl, hc0, hc1, hI⟩ := hrel
    obtain ⟨wo, rfl⟩ : ∃ wo : World, wo = wr := ⟨_, rfl⟩
    have HI := Lib.hid hI
    clear hI
    by_cases hlt : i < n1 ∧ i < 15
    · have hd1 : decide ((i : Int) < (n1 : Int)) = true := by simp; omega
      have hd2 : decide ((i : Int) < 15) = true := by simp; omega
      obtain ⟨gl, ol, k, x, Ab, mb, cb, fb, hA1, hgl, q0, q1, q2, hsb, hmb, hwk, hwx⟩ := (HL.out.below HI.out.b).at_ i hlt.1
      subst hA1
      have Q0 := Lib.hid q0
      have Q1 := Lib.hid q1
      have Q2 := Lib.hid q2
      have SB := Lib.hid hsb
      have MB := Lib.hid hmb
      have WK := Lib.hid hwk
      have WX := Lib.hid hwx
      clear hsb hmb hwk hwx q0 q1
      have bA : Below wo.heap.size wo (wo.alloc (.cells #[] 5)) := (Below.refl _ _).alloc (Nat.le_refl _) _
      have hzo := HI.out.b.size
      have hgo : gl < wo.heap.size := by omega
      have hmb : mb ≤ cb := SB.out.le
      have BA := Lib.hid bA
      have q2' := (bA.cell (p := ⟨gl, ol + i * 3 + 2, none⟩) (by show gl < _; omega)).trans q2
      clear bA
      go_wp2_with fail
      refine (few_any Ab mb cb hmb MB.out _).mono ?_
      rintro e w1' ⟨rfl, rfl⟩
      obtain ⟨M, hM⟩ : ∃ M, M = min mb 300 := ⟨_, rfl⟩
      have HMM := Lib.hid hM
      have hM3 : M ≤ 300 := by omega
      have SM := Lib.hid (SB.out.upto M (by omega))
      rw [← hM]
      clear hM q2 q2' hgo
      have OE := Lib.hid (Own.empty wo wo.heap.size 5 nF (Nat.le_refl _))
      have SE := Lib.hid (SM.out.below (BA.out.mono hzo))
      have ZE := Lib.hid (show wo.heap.size ≤ (wo.alloc (.cells #[] 5)).heap.size by simp)
      have zg := row_lt HI.out.rg
      have zh := row_lt HI.out.rh
      have hgg := HI.out.g0
      have hhg := HI.out.h0
      go_wp2_with (at_builtin; refine wpl_appB rfl (.tmp 41) (.tmp 47) rfl sli_u u8_info OE.out SE.out (by omega) ZE.out rfl rfl ?_; intro v5 w5 ho5 hg5 ht5
                   have b5 := OE.out.after hg5 BA.out ZE.out (Nat.le_refl _)
                   have q0 := (b5.cell (p := ⟨gl, ol + i * 3, none⟩) (by show gl < _; omega)).trans Q0.out
                   have q1 := (b5.cell (p := ⟨gl, ol + i * 3 + 1, none⟩) (by show gl < _; omega)).trans Q1.out
                   have q2 := (b5.cell (p := ⟨gl, ol + i * 3 + 2, none⟩) (by show gl < _; omega)).trans Q2.out)
      rw [catF_zero, Nat.zero_add] at ho5
      obtain ⟨Ao, co, hvo, hslo, hco, -⟩ := ho5.sl
      subst hvo
      have B5 := Lib.hid b5
      have O5 := Lib.hid ho5
      have OS := Lib.hid hslo
      have I5 := Lib.hid (HI.out.calm b5)
      have z5 := b5.size
      have S5 := Lib.hid (SM.out.below (b5.mono hzo))
      clear hg5 ht5 OE SE ZE BA hslo b5 Q0 Q1 Q2 SM HI SB
      unfold maxLen at hco
      have KA := Lib.hid (kind_any k 4 WK.out (by omega) (by omega) w5)
      rw [show ((4 : Nat) : Int) = 4 from rfl] at KA
      refine KA.out.mono ?_
      rintro e w5' ⟨rfl, rfl⟩
      have hq4 : knd k 4 < 4 := knd_lt _ (by omega)
      obtain ⟨q, hq⟩ : ∃ q, q = knd k 4 := ⟨_, rfl⟩
      rw [← hq] at hq4 ⊢
      clear KA hq WK
      rcases (show q = 0 ∨ q = 1 ∨ q = 2 ∨ q = 3 by omega) with rfl | rfl | rfl | rfl
      case' inr.inr.inl =>
        go_wp2_with fail
        have O5w := Lib.hid O5.out.ownd
        have OFG := Lib.hid (O5.out.off (B := g') zg M)
        have HD := Lib.hid (dreseed_any S' c g' fb M co Ao w5 (HT.out.below I5.out.b hpos) I5.out.rg (by omega) OS.out (by omega) OFG.out)
        clear q0 q1 ho5
        refine HD.out.mono ?_
        rintro e w6 ⟨rfl, hp6⟩
        have I6 := Lib.hid (I5.out.putS hp6)
        have b6 := hp6.low (D := w.heap.size) hgg (by omega)
        have q3 := (b6.cell (p := ⟨gl, ol + i * 3 + 2, none⟩) hgl).trans q2
        have S6 := Lib.hid (S5.out.below b6)
        have O6 := Lib.hid (O5w.out.put hp6 zg)
        have z6 := hp6.size
        clear HD hp6 b6 q2 O5 OS I5 S5 O5w OFG
        go_wp2_with fail
        refine (few_any Ab mb cb hmb MB.out w6).mono ?_
        rintro e w1' ⟨rfl, rfl⟩
        rw [← HMM.out]
        have HD := Lib.hid (rreseed_any S' c h fb M cb cK Ab AK w6 I6.out.rh I6.out.k (S6.out.more (by omega)) (by omega) (S6.out.off hhg))
        clear q3
        go_wp2_with fail
        refine HD.out.mono ?_
        rintro e wX ⟨rfl, hp7⟩
        have IX := Lib.hid (I6.out.putY hp7)
        have OX := Lib.hid (O6.out.put hp7 zh)
        obtain ⟨S2, hS2⟩ : ∃ S2 : St, S2 = updS S' fb M := ⟨_, rfl⟩
        rw [← hS2] at IX
        obtain ⟨c2, hc2⟩ : ∃ c2 : Int, c2 = 1 := ⟨_, rfl⟩
        rw [← hc2] at IX
        obtain ⟨g2, hg2⟩ : ∃ g2, g2 = g' := ⟨_, rfl⟩
        rw [← hg2] at IX ⊢
        have C0 : 0 ≤ c2 := by omega
        have C1 : c2 ≤ 1048577 := by omega
        have G2 := Lib.hid (show 0 < M → ∀ a, Ao = some a → h < a.block ∧ a.block ≠ g2 from fun hn a ha => by have := OX.out.far hn a ha; omega)
        have zX : w5.heap.size ≤ wX.heap.size := by have := hp7.size; omega
        clear hp7 HD I6 S6 O6 hS2 hc2 hg2 z6
      case' inr.inr.inr =>
        have O5w := Lib.hid O5.out.ownd
        have F5 := Lib.hid (fun hn => O5w.out.far hn)
        have HD := Lib.hid (dclone_any S' c g' w5 I5.out.rg)
        clear q0 q1 q2 ho5
        go_wp2_with fail
        refine HD.out.mono ?_
        rintro e w6 ⟨g2, rfl, hg2, rg2, hb6⟩
        have I6 := Lib.hid (I5.out.clone hb6 hg2 rg2)
        have R6 := Lib.hid (carry hb6 I5.out.rg)
        have O6 := Lib.hid (O5w.out.below hb6)
        have z6 := hb6.size
        have hlit := aw_lit
        clear HD hb6 rg2 I5 O5w O5 OS S5
        go_wp2_with fail
        have b7 : Below w6.heap.size w6 (w6.alloc (.cells (ba 11 awF) 5 (11, 12))) := (Below.refl _ _).alloc (Nat.le_refl _) _
        have s7 := Sl.lit w6 (n := 11) (f := awF) rfl 5 (11, 12) (w6.heap.size + 1) (by omega)
        have hz7 : (w6.alloc (.cells (ba 11 awF) 5 (11, 12))).heap.size = w6.heap.size + 1 := by simp
        obtain ⟨w7, hw7⟩ : ∃ w7, w7 = w6.alloc (.cells (ba 11 awF) 5 (11, 12)) := ⟨_, rfl⟩
        rw [← hw7] at b7 s7 hz7 ⊢
        clear hw7 hlit
        have I7 := Lib.hid (I6.out.calm b7)
        have R7 := Lib.hid (carry b7 R6.out)
        have O7 := Lib.hid (O6.out.below b7)
        have S7 := Lib.hid (show Sl w7 w7.heap.size (some ⟨w6.heap.size, 0, none⟩) 11 11 awF by rw [hz7]; exact s7)
        refine (dreseed_any S' c g' awF 11 11 _ w7 (HT.out.below I7.out.b hpos) R7.out (by omega) S7.out (by omega) (fun _ a ha e => by cases ha; simp only at e; omega)).mono ?_
        rintro e wX ⟨rfl, hp8⟩
        have IX := Lib.hid (I7.out.old R7.out hp8 (by omega) hgg)
        have OX := Lib.hid (O7.out.put hp8 zg)
        obtain ⟨S2, hS2⟩ : ∃ S2 : St, S2 = S' := ⟨_, rfl⟩
        rw [← hS2] at IX
        obtain ⟨c2, hc2⟩ : ∃ c2 : Int, c2 = c := ⟨_, rfl⟩
        rw [← hc2] at IX
        have C0 : 0 ≤ c2 := by omega
        have C1 : c2 ≤ 1048577 := by omega
        have G2 := Lib.hid (show 0 < M → ∀ a, Ao = some a → h < a.block ∧ a.block ≠ g2 from fun hn a ha => by have := F5.out hn a ha; omega)
        have zX : w5.heap.size ≤ wX.heap.size := by have := hp8.size; omega
        clear hp8 I6 I7 R6 R7 O6 O7 S7 s7 b7 hS2 hc2 z6 hz7
      case' inl =>
        go_wp2_with fail
        have OFG := Lib.hid (O5.out.off (B := g') zg M)
        have O5w := Lib.hid O5.out.ownd
        obtain ⟨er, S2, c2, na, D, C0, C1, hna, HD⟩ := draw_both (x := x) HT.out I5.out hc0 hc1 OS.out OFG.out O5w.out zg zh S5.out hM3
        have F5 := Lib.hid (fun hn => O5w.out.far hn)
        have Q1 := Lib.hid q1
        have Q2 := Lib.hid q2
        have b5w := Lib.hid I5.out.b
        clear q0 q1 q2 ho5 OFG
        refine HD.mono ?_
        rintro e w6 ⟨va, ca, rfl, hi6, ha6, z6, HY⟩
        have I6 := Lib.hid hi6
        have A6 := Lib.hid ha6
        have HYY := Lib.hid HY
        clear HD hi6 ha6 HY I5 OS O5w O5
        go_wp2_with fail
        refine flow_seen [([0, 1, 2, 3, 4, 5, 6, 7, 8, 9, 10], 11, false), ([], 12, true)] [13, 14, 15, 16, 17] (by kernel_rfl) (by kernel_rfl) (fun _ _ _ _ _ h => h) fun X => ?_
        have I7 := Lib.hid (I6.out.calm X.below)
        have HR := Lib.hid (HYY.out X.val X.below)
        have z7 := X.below.size
        obtain ⟨w7, hw7⟩ : ∃ w7, w7 = X.val := ⟨_, rfl⟩
        rw [← hw7] at I7 HR z7 ⊢
        clear hw7 X HYY I6 A6
        have q1 : ∀ x' : After w7, x'.val.cell? ⟨gl, ol + i * 3 + 1, none⟩ = some (.int .i64 x) := fun x' => ((I7.out.calm x'.below).b.cell (p := ⟨gl, ol + i * 3 + 1, none⟩) hgl).trans ((b5w.out.cell (p := ⟨gl, ol + i * 3 + 1, none⟩) hgl).symm.trans Q1.out)
        have q2 : ∀ x' : After w7, x'.val.cell? ⟨gl, ol + i * 3 + 2, none⟩ = some (.slice Ab mb cb) := fun x' => ((I7.out.calm x'.below).b.cell (p := ⟨gl, ol + i * 3 + 2, none⟩) hgl).trans ((b5w.out.cell (p := ⟨gl, ol + i * 3 + 2, none⟩) hgl).symm.trans Q2.out)
        simp only [wpFs, pk, List.getElem?_cons_zero, List.getElem?_cons_succ]
        repeat (go_big_quiet_step (fail))
        refine wpQuiet_nil ?_
        clear q1 q2
        go_wp2_with fail
        refine (few_any Ab mb cb hmb MB.out w7).mono ?_
        rintro e w7' ⟨rfl, rfl⟩
        rw [← HMM.out]
        go_wp2_with fail
        refine ⟨.inr (Below.refl _ _), ?_⟩
        show wpQuiet _ _ _ _ _ _
        refine wpQuiet_nil ?_
        go_wp2_with fail
        refine HR.out.mono ?_
        rintro e w8 ⟨A9, c9, rfl, hs8, hi8, ha8, hd8, ho8, z8⟩
        have I8 := Lib.hid hi8
        have A8 := Lib.hid ha8
        have O8 := Lib.hid ho8
        obtain ⟨SD, hSD⟩ : ∃ SD, SD = strOf na D := ⟨_, rfl⟩
        have cv1 := run_str (P := Tryd.prog) sli_u u8_u str_u hd8
        have cv2 := run_str (P := Tryd.prog) sli_u u8_u str_u hs8
        rw [← hSD] at cv1 cv2
        clear hSD hs8 hi8 ha8 hd8 ho8 HR I7
        go_wp2_with fail
        refine ⟨.inl trivial, ?_⟩
        show wpQuiet _ _ _ _ _ _
        repeat (go_big_quiet_step (fail))
        refine wpQuiet_nil ?_
        go_wp2_with fail
        clear cv1 cv2
        go_loopw [14] (fun kv wr => ∃ k3 : Nat, k3 ≤ na ∧ kv = .int .i64 k3 ∧ Scr va na w8 wr) (fun kv _ => na - (intOf kv).toNat)
        case' atStart => exact ⟨0, by omega, rfl, .inl rfl⟩
        case' round =>
          obtain ⟨k3, hk3, rfl, hs3⟩ := hrel
          obtain ⟨wX, rfl⟩ : ∃ wX : World, wX = wr := ⟨_, rfl⟩
          by_cases hk : k3 < na
          case' pos =>
            have hd3 : decide ((k3 : Int) < (na : Int)) = true := by simp; omega
            obtain ⟨go, cur, hAo, hgo, hrow, hsz, hnext⟩ := hs3.at_ A8.out (by omega)
            have hin : k3 < cur.size := by omega
            have hcell : wX.cell? ⟨go, k3, none⟩ = some cur[k3] := by rw [cell_row hrow]; exact Array.getElem?_eq_getElem hin
            have hfz := froz_row hrow k3
            have hst := Lib.hid (setCell_row hrow k3 (.int .u8 0))
            have hnx := Lib.hid (hnext (cur.setIfInBounds k3 (.int .u8 0)) (by rw [Array.size_setIfInBounds]; exact hsz))
            subst hAo
            clear hs3 hnext hrow hsz hgo
            go_wp2_with fail
            go_roundw
            case rel => exact ⟨k3 + 1, by omega, by go_num, by rw [hst.out]; exact hnx.out⟩
            case measure => simp [intOf]; omega
          case' neg =>
            have hd3 : decide ((k3 : Int) < (na : Int)) = false := by simp; omega
            have IX := Lib.hid (I8.out.scr hs3 (fun hn a ha => by have := A8.out.far hn a ha; omega))
            have OX := Lib.hid (O8.out.scr hs3 (fun hn hn2 a a2 ha ha2 => by have := A8.out.far hn2 a2 ha2; have := F5.out hn a ha; omega))
            have zX : w5.heap.size ≤ wX.heap.size := by have := hs3.size; omega
            have G2 := Lib.hid (show 0 < M → ∀ a, Ao = some a → h < a.block ∧ a.block ≠ g' from fun hn a ha => by have := F5.out hn a ha; omega)
            clear hs3 I8 O8 A8
            obtain ⟨g2, hg2⟩ : ∃ g2, g2 = g' := ⟨_, rfl⟩
            rw [← hg2] at IX G2 ⊢
            clear hg2
      case' inr.inl =>
        go_wp2_with fail
        have OFG := Lib.hid (O5.out.off (B := g') zg M)
        have O5w := Lib.hid O5.out.ownd
        obtain ⟨er, S2, c2, na, D, C0, C1, hna, HD⟩ := draw_both (x := x) HT.out I5.out hc0 hc1 OS.out OFG.out O5w.out zg zh S5.out hM3
        have F5 := Lib.hid (fun hn => O5w.out.far hn)
        have Q1 := Lib.hid q1
        have Q2 := Lib.hid q2
        have b5w := Lib.hid I5.out.b
        clear q0 q1 q2 ho5 OFG
        refine HD.mono ?_
        rintro e w6 ⟨va, ca, rfl, hi6, ha6, z6, HY⟩
        have I6 := Lib.hid hi6
        have A6 := Lib.hid ha6
        have HYY := Lib.hid HY
        clear HD hi6 ha6 HY I5 OS O5w O5
        go_wp2_with fail
        refine flow_seen [([0, 1, 2, 3, 4, 5, 6, 7, 8, 9, 10], 11, false), ([], 12, true)] [13, 14, 15, 16, 17] (by kernel_rfl) (by kernel_rfl) (fun _ _ _ _ _ h => h) fun X => ?_
        have I7 := Lib.hid (I6.out.calm X.below)
        have HR := Lib.hid (HYY.out X.val X.below)
        have z7 := X.below.size
        obtain ⟨w7, hw7⟩ : ∃ w7, w7 = X.val := ⟨_, rfl⟩
        rw [← hw7] at I7 HR z7 ⊢
        clear hw7 X HYY I6 A6
        have q1 : ∀ x' : After w7, x'.val.cell? ⟨gl, ol + i * 3 + 1, none⟩ = some (.int .i64 x) := fun x' => ((I7.out.calm x'.below).b.cell (p := ⟨gl, ol + i * 3 + 1, none⟩) hgl).trans ((b5w.out.cell (p := ⟨gl, ol + i * 3 + 1, none⟩) hgl).symm.trans Q1.out)
        have q2 : ∀ x' : After w7, x'.val.cell? ⟨gl, ol + i * 3 + 2, none⟩ = some (.slice Ab mb cb) := fun x' => ((I7.out.calm x'.below).b.cell (p := ⟨gl, ol + i * 3 + 2, none⟩) hgl).trans ((b5w.out.cell (p := ⟨gl, ol + i * 3 + 2, none⟩) hgl).symm.trans Q2.out)
        simp only [wpFs, pk, List.getElem?_cons_zero, List.getElem?_cons_succ]
        repeat (go_big_quiet_step (fail))
        refine wpQuiet_nil ?_
        clear q1 q2
        go_wp2_with fail
        refine (few_any Ab mb cb hmb MB.out w7).mono ?_
        rintro e w7' ⟨rfl, rfl⟩
        rw [← HMM.out]
        go_wp2_with fail
        refine ⟨.inr (Below.refl _ _), ?_⟩
        show wpQuiet _ _ _ _ _ _
        refine wpQuiet_nil ?_
        go_wp2_with fail
        refine HR.out.mono ?_
        rintro e w8 ⟨A9, c9, rfl, hs8, hi8, ha8, hd8, ho8, z8⟩
        have I8 := Lib.hid hi8
        have A8 := Lib.hid ha8
        have O8 := Lib.hid ho8
        obtain ⟨SD, hSD⟩ : ∃ SD, SD = strOf na D := ⟨_, rfl⟩
        have cv1 := run_str (P := Tryd.prog) sli_u u8_u str_u hd8
        have cv2 := run_str (P := Tryd.prog) sli_u u8_u str_u hs8
        rw [← hSD] at cv1 cv2
        clear hSD hs8 hi8 ha8 hd8 ho8 HR I7
        go_wp2_with fail
        refine ⟨.inl trivial, ?_⟩
        show wpQuiet _ _ _ _ _ _
        repeat (go_big_quiet_step (fail))
        refine wpQuiet_nil ?_
        go_wp2_with fail
        clear cv1 cv2
        go_loopw [14] (fun kv wr => ∃ k3 : Nat, k3 ≤ na ∧ kv = .int .i64 k3 ∧ Scr va na w8 wr) (fun kv _ => na - (intOf kv).toNat)
        case' atStart => exact ⟨0, by omega, rfl, .inl rfl⟩
        case' round =>
          obtain ⟨k3, hk3, rfl, hs3⟩ := hrel
          obtain ⟨wX, rfl⟩ : ∃ wX : World, wX = wr := ⟨_, rfl⟩
          by_cases hk : k3 < na
          case' pos =>
            have hd3 : decide ((k3 : Int) < (na : Int)) = true := by simp; omega
            obtain ⟨go, cur, hAo, hgo, hrow, hsz, hnext⟩ := hs3.at_ A8.out (by omega)
            have hin : k3 < cur.size := by omega
            have hcell : wX.cell? ⟨go, k3, none⟩ = some cur[k3] := by rw [cell_row hrow]; exact Array.getElem?_eq_getElem hin
            have hfz := froz_row hrow k3
            have hst := Lib.hid (setCell_row hrow k3 (.int .u8 0))
            have hnx := Lib.hid (hnext (cur.setIfInBounds k3 (.int .u8 0)) (by rw [Array.size_setIfInBounds]; exact hsz))
            subst hAo
            clear hs3 hnext hrow hsz hgo
            go_wp2_with fail
            go_roundw
            case rel => exact ⟨k3 + 1, by omega, by go_num, by rw [hst.out]; exact hnx.out⟩
            case measure => simp [intOf]; omega
          case' neg =>
            have hd3 : decide ((k3 : Int) < (na : Int)) = false := by simp; omega
            have IX := Lib.hid (I8.out.scr hs3 (fun hn a ha => by have := A8.out.far hn a ha; omega))
            have OX := Lib.hid (O8.out.scr hs3 (fun hn hn2 a a2 ha ha2 => by have := A8.out.far hn2 a2 ha2; have := F5.out hn a ha; omega))
            have zX : w5.heap.size ≤ wX.heap.size := by have := hs3.size; omega
            have G2 := Lib.hid (show 0 < M → ∀ a, Ao = some a → h < a.block ∧ a.block ≠ g' from fun hn a ha => by have := F5.out hn a ha; omega)
            clear hs3 I8 O8 A8
            obtain ⟨g2, hg2⟩ : ∃ g2, g2 = g' := ⟨_, rfl⟩
            rw [← hg2] at IX G2 ⊢
            clear hg2
      all_goals
        go_wp2_with fail
        go_loopw [16] (fun kv wr => ∃ k3 : Nat, k3 ≤ M ∧ kv = .int .i64 k3 ∧ Scr Ao M wX wr) (fun kv _ => M - (intOf kv).toNat)
        case' atStart => exact ⟨0, by omega, rfl, .inl rfl⟩
        case' round =>
          obtain ⟨k3, hk3, rfl, hs3⟩ := hrel
          obtain ⟨w9, rfl⟩ : ∃ w9 : World, w9 = wr := ⟨_, rfl⟩
          have HS3 := Lib.hid hs3
          by_cases hk : k3 < M
          · have hd3 : decide ((k3 : Int) < (M : Int)) = true := by simp; omega
            obtain ⟨go, cur, hAo, hgo, hrow, hsz, hnext⟩ := hs3.at_ OX.out (by omega)
            have hin : k3 < cur.size := by omega
            have hcell : w9.cell? ⟨go, k3, none⟩ = some cur[k3] := by rw [cell_row hrow]; exact Array.getElem?_eq_getElem hin
            have hfz := froz_row hrow k3
            have hst := Lib.hid (setCell_row hrow k3 (.int .u8 99))
            have hnx := Lib.hid (hnext (cur.setIfInBounds k3 (.int .u8 99)) (by rw [Array.size_setIfInBounds]; exact hsz))
            subst hAo
            clear hs3 hnext hrow hsz hgo
            go_wp2_with fail
            go_roundw
            case rel => exact ⟨k3 + 1, by omega, by go_num, by rw [hst.out]; exact hnx.out⟩
            case measure => simp [intOf]; omega
          · have hd3 : decide ((k3 : Int) < (M : Int)) = false := by simp; omega
            have I9 := Lib.hid (IX.out.scr hs3 G2.out)
            have HLK := Lib.hid (like_any S2 c2 _ g2 h w9 I9.out.rg I9.out.rh)
            clear hs3 HS3 IX OX G2
            go_wp2_with fail
            refine HLK.out.mono ?_
            rintro e w10 ⟨rfl, hb10⟩
            have I10 := Lib.hid (I9.out.calm hb10)
            clear hb10 HLK I9
            go_wp2_with fail
            go_roundw
            case rel => exact ⟨i + 1, g2, S2, c2, by omega, by omega, rfl, by go_num, C0, C1, I10.out⟩
            case measure => simp [intOf]; omega
    · have hd1 : (decide ((i : Int) < (n1 : Int)) && decide ((i : Int) < 15)) = false := by simp; omega
      go_wp2_with fail
      all_goals
        go_ret
        exact ⟨rfl, HI.out.b⟩

set_option maxRecDepth 100000 in
theorem lifted (os : Os) (started : os.Started) (H : Type) (enc : TypeId × Value → H) :
    ReturnsInHanded {} Tryd.checked os 3 .any (fun w args => (Rows.drbgPlaysSpec.pre enc Tryd.prog Tryd.f3 [] false w args ∧ laidMetH Tryd.prog laidL w) ∧ sizedMet enc Tryd.prog Tryd.f3 (OpenSpec.ofChange Rows.drbgPlaysSpec) false w args) (Rows.drbgPlaysSpec.post enc Tryd.prog Tryd.f3 false true false false) := by
  refine returnsInHanded_of_change_and (C := Tryd.checked) (X := fun w _ => laidMetH Tryd.prog laidL w) (fun _ _ _ hh h => h.of_heap hh) own started (by kernel_rfl) Tryd.func3
    (ChangeSpec.witness_shaped (enc := enc) (C := Tryd.checked) (os := os) (X := fun w _ => laidMetH Tryd.prog laidL w) false (World.doorLaid Tryd.prog 14 os) #[.slice none 0 0, .slice none 0 0] 8 rfl (World.shaped_of_RefB (by kernel_rfl) (by kernel_rfl)) (by kernel_rfl) (by kernel_rfl) (by kernel_rfl) (door_met os _)) ?_
  intro W base args ds gs before hval0 hW _ _ hL _
  have hval : ∀ (j : Nat) t v, Tryd.f3.params[j]? = some t → args[j]? = some v → Value.okWide Tryd.prog W .any base t v := hval0
  have hW' := hW
  obtain ⟨p, q, hA0, hV, rfl, hfz, hnd⟩ := hW
  have hA : DataW.TrodAll enc Tryd.prog W 0 (fun _ => true) true Tryd.f3.params.toList args.toList ds p := hA0
  rw [Tryd.params3] at hA hval
  obtain ⟨v0, vs0, d0, ds0, p0, q0, hargs, rfl, rfl, h0, r0⟩ := trodAll_cons hA
  obtain ⟨v1, vs1, d1, ds1, p1, q1, rfl, rfl, rfl, h1, r1⟩ := trodAll_cons r0
  obtain ⟨rfl, rfl, rfl⟩ := trodAll_nil r1
  obtain rfl : args = #[v0, v1] := by cases args; simp_all
  obtain ⟨rfl, rfl⟩ := trodVars_none hV
  have k0 := h0
  have lt0 : ∀ x ∈ p0, x.block < W.heap.size := by obtain ⟨m, hm⟩ := k0; exact DataW.trod_lt m _ _ _ hm
  obtain ⟨A0, n0, c0, a0, rfl, hs0, hm0⟩ := open_sl Tryd.underlying22 Tryd.underlying5 (by kernel_rfl) (hval 0 22 v0 rfl rfl) h0
  have k1 := h1
  have lt1 : ∀ x ∈ p1, x.block < W.heap.size := by obtain ⟨m, hm⟩ := k1; exact DataW.trod_lt m _ _ _ hm
  obtain ⟨A1, n1, c1, rfl, hl1⟩ := open_ops (hval 1 23 v1 rfl rfl) h1
  clear hA0 hval0
  refine (walk a0 n0 c0 A0 n1 c1 A1 W hs0 hm0 hl1 (tab_of hL)).mono fun e W' ⟨he, bel⟩ => ?_
  subst he
  exact ⟨_, rfl, _, _, _, [], _, [], hW', trodAll_mk1 (shut_bool Tryd.underlying4 _), (trodAll_cons_mk (Below.trod laidOut (by kernel_rfl) (of_decide_eq_true (by kernel_rfl)) k0 bel lt0) (trodAll_cons_mk (Below.trod laidOut (by kernel_rfl) (of_decide_eq_true (by kernel_rfl)) k1 bel lt1) trodAll_mk0)), rfl, bel.frame _, fun h => by cases h⟩

theorem over : Rows.drbgPlaysRow.holds Tryd.pinned (OpenSpec.ofChange Rows.drbgPlaysSpec) :=
  OpenClaim.holds_of_wide 3 Tryd.f3 rfl rfl rfl rfl rfl rfl rfl ⟨rfl, rfl, rfl, rfl, rfl⟩ rfl rfl rfl rfl rfl (by kernel_rfl) Tryd.func3 (by kernel_rfl)
    (of_decide_eq_true (by kernel_rfl)) (by unfold Func.isWrapper; first | (rw [if_pos (by decide +kernel)]; kernel_rfl) | (rw [if_neg (by decide +kernel)]; exact ⟨rfl, rfl⟩))
    (fun os started H enc _ => lifted os started H enc)

theorem proved : Rows.DrbgPlaysCardSaid :=
  Claim7.holds_tied_plain_at .later [] [.data] true (true, "4642ee307c21727693058ea21c92daa3e951da6297322ad112cfe872a294e37d") false
    over (fun _ h => by cases h) (by kernel_rfl) (fun _ h => by cases h) drbgPlays_row_tie rfl ⟨rfl, rfl⟩ (by kernel_rfl) rfl
    (fun f fn hf hfn => by
      obtain rfl : f = 3 := Option.some.inj ((show Tryd.prog.funcNamed "strongroom/strongroomlaw07.DrbgPlays" = some 3 by kernel_rfl).symm.trans hf) |>.symm
      obtain rfl : fn = Tryd.f3 := (Option.some.inj (Tryd.func3.symm.trans hfn)).symm
      exact ⟨by kernel_rfl, fun j t ht => by
        rw [Tryd.params3] at ht
        have hm : t ∈ [22, 23] := by simpa using Array.mem_of_getElem? ht
        have hall : ([22, 23].all fun u => !Tryd.prog.wantsStandIn u) = true := by kernel_rfl
        exact (show Tryd.prog.wantsStandIn t = false by simpa using List.all_eq_true.1 hall t hm)⟩)
    (by kernel_rfl)
#print axioms proved
end Go.Proofs.YtjggnbncpjoooaaDoor.drbgPlays
