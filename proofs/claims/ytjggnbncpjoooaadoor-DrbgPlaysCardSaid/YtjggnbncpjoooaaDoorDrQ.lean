/- Contracts of the reference's Source: Reseed, New, Draw. -/
import Derived.Test.YtjggnbncpjoooaaDoorDrR
namespace Go.Proofs.YtjggnbncpjoooaaDoor.Oct
open Go.ChangeShapes Go.WideShapes Go.ChangeAt Go.RowKit
set_option linter.unusedVariables false

set_option maxHeartbeats 1000000 in
theorem rreseed_any (s : St) (c : Int) (B : Nat) (b : Bf) (n cc cK : Nat) (A AK : Option Addr) (w : World) (hr : row w B = some (rscC (.slice AK 64 cK) s.1 s.2 c)) (hK : SlG w B AK 64 cK kV) (hs : Sl w w.heap.size A n cc b) (hn : n ≤ 70000) (ho : Off B n A) :
    Calls Tryd.prog 16 #[.pointer (some ⟨B, 0, none⟩), .slice A n cc] w fun e w' => e = .returned (.tuple #[]) ∧ Put B (rscC (.slice AK 64 cK) (updS s b n).1 (updS s b n).2 1) w w' := by
  have HR := Lib.hid hr
  have H0 := Lib.hid (rupd_any s c B b n cc cK A AK w hr hK hs hn ho)
  clear hr hK hs ho
  go_enter Tryd.func16, Tryd.ntmps16
  go_wp2_with fail
  refine H0.out.mono ?_
  rintro e w1 ⟨rfl, hp1⟩
  have P1 := Lib.hid hp1
  have r1 := hp1.row HR.out
  have hc := rsc_cell r1
  have hf := froz_row r1 73
  clear H0 hp1
  go_wp2_with fail
  go_end0
  refine ⟨rfl, ?_⟩
  rw [rsc_set r1]
  exact P1.out.then HR.out (Put.of (Below.refl _ _) (row_lt r1) _)

set_option maxHeartbeats 1000000 in
theorem rnew_any (b : Bf) (n cc : Nat) (A : Option Addr) (w : World) (hs : Sl w w.heap.size A n cc b) (hn : n ≤ 70000) :
    Calls Tryd.prog 11 #[.slice A n cc] w fun e w' => ∃ g AK cK, e = .returned (.pointer (some ⟨g, 0, none⟩)) ∧ w.heap.size ≤ g ∧ row w' g = some (rscC (.slice AK 64 cK) (updS newS b n).1 (updS newS b n).2 1) ∧ SlG w' g AK 64 cK kV ∧ Below w.heap.size w w' := by
  have HS := Lib.hid hs
  clear hs
  go_enter Tryd.func11, Tryd.ntmps11
  go_wp2_with fail
  refine (make_any _).mono ?_
  rintro e w1 ⟨AK, cK, rfl, hK, hb1⟩
  have B1 := Lib.hid hb1
  have K1 := Lib.hid hK
  have z1 := hb1.size
  clear hK hb1
  go_wp2_with fail
  go_loopw [4] (fun iv wr => ∃ k : Nat, k ≤ 32 ∧ iv = .int .i64 k ∧ wr = w1.alloc (.cells (rscC (.slice AK 64 cK) (fun _ => 0#8) (upto k (fun _ => 1#8) fun _ => 0#8) 1) 57)) (fun iv _ => 32 - (intOf iv).toNat)
  case atStart => exact ⟨0, by omega, rfl, by rw [upto_zero]⟩
  case round =>
    obtain ⟨k, hk, rfl, rfl⟩ := hrel
    have r0 : row (w1.alloc (.cells (rscC (.slice AK 64 cK) (fun _ => 0#8) (upto k (fun _ => 1#8) fun _ => 0#8) 1) 57)) w1.heap.size = some _ := row_alloc_at _ _ _ _ rfl
    by_cases hlk : k < 32
    · have hd : decide ((k : Int) < 32) = true := by simp; omega
      have hc := rsc_cellv r0 k hlk
      have hf := froz_row r0 (41 + k)
      have hst := rsc_setv (t := .slice AK 64 cK) (k := fun _ => 0#8) (v := upto k (fun _ => 1#8) fun _ => 0#8) (c := 1) k hlk 1#8
      rw [show upd (upto k (fun _ => 1#8) fun _ => 0#8) k 1#8 = upto (k + 1) (fun _ => 1#8) fun _ => 0#8 from upto_step k (fun _ => 1#8) fun _ => 0#8, show I 1#8 = 1 from rfl] at hst
      have HST := Lib.hid hst
      clear hst r0
      go_wp2_with fail
      go_roundw
      case rel => exact ⟨k + 1, by omega, by go_num, by rw [HST.out]⟩
      case measure => simp [intOf]; omega
    · obtain rfl : k = 32 := by omega
      have hd : decide (((32 : Nat) : Int) < 32) = false := by decide
      have HV := Lib.hid (show rscC (.slice AK 64 cK) (fun _ => 0#8) (upto 32 (fun _ => 1#8) fun _ => 0#8) 1 = rscC (.slice AK 64 cK) newS.1 newS.2 1 by unfold rscC newS; rw [upto_all])
      rw [HV.out] at r0 ⊢
      have b2 : Below w1.heap.size w1 (w1.alloc (.cells (rscC (.slice AK 64 cK) newS.1 newS.2 1) 57)) := (Below.refl _ _).alloc (Nat.le_refl _) _
      obtain ⟨w2, hw2⟩ : ∃ w2, w2 = w1.alloc (.cells (rscC (.slice AK 64 cK) newS.1 newS.2 1) 57) := ⟨_, rfl⟩
      rw [← hw2] at r0 b2 ⊢
      clear hw2
      have R0 := Lib.hid r0
      have hsz := row_lt r0
      have B2 := Lib.hid (onto B1.out z1 b2)
      have K2 := Lib.hid (K1.out.below b2)
      have S2 := Lib.hid (HS.out.below B2.out)
      have H1 := Lib.hid (rupd_any newS 1 w1.heap.size b n cc cK A AK w2 r0 K2.out (S2.out.more (by omega)) hn (S2.out.off z1))
      clear r0 b2
      go_wp2_with fail
      refine H1.out.mono ?_
      rintro e w3 ⟨rfl, hp3⟩
      have R3 := Lib.hid (hp3.row R0.out)
      have K3 := Lib.hid (slG_put K2.out hp3 (Nat.le_refl _) hsz)
      have B3 := Lib.hid (B2.out.trans (hp3.low z1 (by omega)))
      clear hp3 H1
      go_wp2_with fail
      go_ret
      exact ⟨_, _, _, rfl, z1, R3.out, K3.out, B3.out⟩

set_option maxHeartbeats 1000000 in
theorem rdraw_arg (B n cc : Nat) (A : Option Addr) (x : Int) (w : World) (hx : x < 0 ∨ 256 < x) :
    Calls Tryd.prog 14 #[.pointer (some ⟨B, 0, none⟩), .int .i64 x, .slice A n cc] w fun e w' => e = .returned (.tuple #[.slice none 0 0, .int .i64 1]) ∧ w = w' := by
  by_cases h0 : x < 0
  · have hd : decide (x < 0) = true := by simp; omega
    go_enter Tryd.func14, Tryd.ntmps14
    go_wp2_with fail
    exact bodyPost_ret (v := .tuple #[.slice none 0 0, .int .i64 1]) (by simp [results, Tryd.results14, go_sem]) rfl ⟨rfl, rfl⟩
  · have hd : decide (x < 0) = false := by simp; omega
    have hd2 : decide (256 < x) = true := by simp; omega
    go_enter Tryd.func14, Tryd.ntmps14
    go_wp2_with fail
    exact bodyPost_ret (v := .tuple #[.slice none 0 0, .int .i64 1]) (by simp [results, Tryd.results14, go_sem]) rfl ⟨rfl, rfl⟩
set_option maxHeartbeats 1000000 in
theorem rdraw_seed (s : St) (B n m cc : Nat) (A : Option Addr) (T : Value) (c : Int) (w : World) (hr : row w B = some (rscC T s.1 s.2 c)) (hn : n ≤ 256) (hc : 1048576 < c) :
    Calls Tryd.prog 14 #[.pointer (some ⟨B, 0, none⟩), .int .i64 n, .slice A m cc] w fun e w' => e = .returned (.tuple #[.slice none 0 0, .int .i64 70]) ∧ w = w' := by
  have hcl := rsc_cell hr
  have hd : decide ((n : Int) < 0) = false := by simp
  have hd2 : decide (256 < (n : Int)) = false := by simp; omega
  have hd3 : decide (1048576 < c) = true := by simp; omega
  clear hr
  go_enter Tryd.func14, Tryd.ntmps14
  go_wp2_with fail
  exact bodyPost_ret (v := .tuple #[.slice none 0 0, .int .i64 70]) (by simp [results, Tryd.results14, go_sem]) rfl ⟨rfl, rfl⟩

theorem Own.off {w : World} {base B n c : Nat} {u : TypeId} {A : Option Addr} {f : Bf} (h : Own w base u (.slice A n c) n f) (hB : B < base) (k : Nat) : Off B k A := fun _ a ha e => by
  obtain ⟨A', c', e2, _, _, hA⟩ := h.sl
  cases e2
  rcases hA with rfl | ⟨g, rfl, hg⟩
  · cases ha
  · obtain rfl := Option.some.inj ha
    simp only at e
    omega
theorem Put.calm' {B D : Nat} {c : Array Value} {w w' w2 : World} (h : Put B c w w') (h2 : Below D w' w2) (hD : w.heap.size ≤ D) : Put B c w w2 := Below.trans h (h2.mono hD)
set_option maxRecDepth 20000 in
set_option maxHeartbeats 4000000 in
theorem rdraw_any (s : St) (B n m cc cK : Nat) (A AK : Option Addr) (b : Bf) (c : Int) (w : World) (hr : row w B = some (rscC (.slice AK 64 cK) s.1 s.2 c)) (hK : SlG w B AK 64 cK kV) (hs : Sl w w.heap.size A m cc b) (hm : m ≤ 70000) (ho : Off B m A) (hn : n ≤ 256) (hc : c ≤ 1048576) (hc0 : -9223372036854775808 ≤ c) :
    Calls Tryd.prog 14 #[.pointer (some ⟨B, 0, none⟩), .int .i64 n, .slice A m cc] w fun e w' => ∃ A9 c9, e = .returned (.tuple #[.slice A9 n c9, .int .i64 0]) ∧ Sl w' w'.heap.size A9 n c9 (drwF s b m) ∧ c9 ≤ maxLen ∧ Put B (rscC (.slice AK 64 cK) (drwS s n b m).1 (drwS s n b m).2 (c + 1)) w w' := by
  have HR := Lib.hid hr
  have HK := Lib.hid hK
  have HS := Lib.hid hs
  have HO := Lib.hid ho
  have hcl := rsc_cell hr
  have hBz := row_lt hr
  have hd : decide ((n : Int) < 0) = false := by simp
  have hd2 : decide (256 < (n : Int)) = false := by simp; omega
  have hd3 : decide (1048576 < c) = false := by simp; omega
  clear hr hK hs ho
  obtain ⟨t, ht⟩ : ∃ t : St, t = if m = 0 then s else updS s b m := ⟨_, rfl⟩
  have HTT := Lib.hid ht
  clear ht
  go_enter Tryd.func14, Tryd.ntmps14
  by_cases h0 : m = 0
  case' pos =>
    have hd4 : decide ((0 : Int) < (m : Int)) = false := by simp; omega
    have P0 := Lib.hid (show Put B (rscC (.slice AK 64 cK) t.1 t.2 c) w w by rw [HTT.out, if_pos h0]; exact Put.nil HR.out)
    have HD := Lib.hid h0
    go_wp2_with fail
    obtain ⟨w1, hw1⟩ : ∃ w1, w1 = w := ⟨_, rfl⟩
    have P1 := Lib.hid (show Put B (rscC (.slice AK 64 cK) t.1 t.2 c) w w1 by rw [hw1]; exact P0.out)
    rw [← hw1]
    clear P0 hw1
  case' neg =>
    have hd4 : decide ((0 : Int) < (m : Int)) = true := by simp; omega
    have HD := Lib.hid h0
    have H0 := Lib.hid (rupd_any s c B b m cc cK A AK w HR.out HK.out HS.out hm HO.out)
    go_wp2_with fail
    refine H0.out.mono ?_
    rintro e w1 ⟨rfl, hp1⟩
    have P1 := Lib.hid (show Put B (rscC (.slice AK 64 cK) t.1 t.2 c) w w1 by rw [HTT.out, if_neg h0]; exact hp1)
    clear H0 hp1
    go_wp2_with fail
  all_goals
    clear HD hd4 h0 hd hd2 hd3 hcl
    have z1 := P1.out.size
    have J0 := Lib.hid (show Put B (rscC (.slice AK 64 cK) t.1 (vsF t 0) c) w (w1.alloc (.cells #[] 5)) from P1.out.calm ((Below.refl _ _).alloc (Nat.le_refl _) _))
    have O0 := Lib.hid (show Own (w1.alloc (.cells #[] 5)) w1.heap.size 5 (.slice (some ⟨w1.heap.size, 0, none⟩) 0 0) (32 * 0) (drF t) from Own.empty w1 w1.heap.size 5 _ (Nat.le_refl _))
    have Z0 := Lib.hid (show w1.heap.size ≤ (w1.alloc (.cells #[] 5)).heap.size by simp)
    clear P1
    go_loopw [8] (fun ov wr => ∃ j : Nat, 32 * j < n + 32 ∧ Own wr w1.heap.size 5 ov (32 * j) (drF t) ∧ Put B (rscC (.slice AK 64 cK) t.1 (vsF t j) c) w wr ∧ w1.heap.size ≤ wr.heap.size) (fun ov _ => n + 32 - slN ov)
    case' atStart => exact ⟨0, by omega, O0.out, J0.out, Z0.out⟩
    case' round =>
      clear J0 O0 Z0
      obtain ⟨j, hj, ho, hJ, hz⟩ := hrel
      obtain ⟨wo, rfl⟩ : ∃ wo : World, wo = wr := ⟨_, rfl⟩
      obtain ⟨Ao, co, hvo, hslo, hco, -⟩ := ho.sl
      subst hvo
      have HOW := Lib.hid ho
      have HSO := Lib.hid hslo
      have HJ := Lib.hid hJ
      have hoc := hslo.le
      unfold maxLen at hco
      clear ho hslo hJ
      obtain ⟨F, hF⟩ : ∃ F, F = 32 * j := ⟨_, rfl⟩
      rw [← hF] at HOW HSO hoc ⊢
      have HF := Lib.hid hF
      by_cases hlt : F < n
      · have hd : decide ((F : Int) < (n : Int)) = true := by simp; omega
        have hFl : F ≤ 256 := by omega
        have a1 := sum_sl_at B 9
        have a2 := sum_sl_at B 41
        clear hF
        go_wp2_with fail
        refine flow_seen [([0, 1, 2, 3, 4, 5, 6, 7, 8, 9, 10, 11, 12], 13, false), ([14, 15], 16, true)] [] (by kernel_rfl) (by kernel_rfl) (fun _ _ _ _ _ h => h) fun X => ?_
        have P21 := Lib.hid (HJ.out.calm X.below)
        have O21 := Lib.hid (HOW.out.below X.below (Nat.le_refl _))
        have z21 := X.below.size
        clear HJ HOW HSO
        obtain ⟨y1, hy1⟩ : ∃ y1, y1 = X.val := ⟨_, rfl⟩
        rw [← hy1] at P21 O21 z21 ⊢
        clear hy1 X
        have r21 := P21.out.row HR.out
        have R21 := Lib.hid r21
        have q0 := After.row r21
        clear r21
        simp only [wpFs, pk, List.getElem?_cons_zero, List.getElem?_cons_succ]
        repeat (go_big_quiet_step (fail))
        refine wpQuiet_nil ?_
        clear q0
        have hyz := row_lt R21.out
        have K21 := Lib.hid ((slG_put HK.out P21.out (Nat.le_refl _) hBz).more (show B ≤ y1.heap.size by omega))
        go_wp2_with fail
        refine (rsums_any t.1 (vsF t j) 32 32 32 32 cK _ _ AK y1 (rsc_slk R21.out _ hyz) (rsc_slv R21.out _ hyz) (by omega) (by omega) K21.out).mono ?_
        rintro e y2 ⟨rfl, hb2⟩
        obtain ⟨S, hS⟩ : ∃ S, S = vsF t (j + 1) := ⟨_, rfl⟩
        rw [show macF t.1 32 (vsF t j) 32 = S by rw [hS]; rfl]
        have HSS := Lib.hid hS
        clear hS
        go_wp2_with fail
        refine ⟨.inr hb2, ?_⟩
        have r22 := carry hb2 R21.out
        have B22 := Lib.hid hb2
        have O22 := Lib.hid (O21.out.below hb2 (Nat.le_refl _))
        have z22 := hb2.size
        clear hb2 K21 R21 O21
        have q0 := After.row r22
        show wpQuiet _ _ _ _ _ _
        repeat (go_big_quiet_step (fail))
        refine wpQuiet_nil ?_
        clear q0
        go_wp2_with fail
        refine ⟨.inl trivial, ?_⟩
        show wpQuiet _ _ _ _ _ _
        refine wpQuiet_nil ?_
        have P23 := Lib.hid (P21.out.then HR.out (Put.of B22.out hyz (rscC (.slice AK 64 cK) t.1 S c)))
        have O23 := Lib.hid (O22.out.setRow B (fun e => by have := (O22.out.lt e).1; omega) (rscC (.slice AK 64 cK) t.1 S c))
        have z23 : (y2.setRow B (rscC (.slice AK 64 cK) t.1 S c)).heap.size = y2.heap.size := by simp
        obtain ⟨y3, hy3⟩ : ∃ y3, y3 = y2.setRow B (rscC (.slice AK 64 cK) t.1 S c) := ⟨_, rfl⟩
        rw [← hy3] at P23 O23 z23 ⊢
        clear hy3 r22 B22 P21 O22
        have N23 := Lib.hid (rsc_slv (P23.out.row HR.out) y3.heap.size (by omega))
        have HB23 := Lib.hid (show w1.heap.size ≤ y3.heap.size by omega)
        go_wp2_with (at_builtin; refine wpl_appB rfl (.tmp 47) (.tmp 51) rfl sli_u u8_info O23.out N23.out (by omega) HB23.out rfl rfl ?_; intro v8 w8 ho8 hg8 ht8)
        have hz8 := hg8.size
        have J8 := Lib.hid (show Put B (rscC (.slice AK 64 cK) t.1 (vsF t (j + 1)) c) w w8 by rw [← HSS.out]; exact P23.out.calm' (O23.out.after hg8 (Below.refl w1.heap.size _) HB23.out (Nat.le_refl _)) z1)
        have O8 := Lib.hid (show Own w8 w1.heap.size 5 v8 (32 * (j + 1)) (drF t) by
          rw [show 32 * (j + 1) = F + 32 by have := HF.out; omega]
          refine ho8.congr fun i hi => ?_
          have hFe := HF.out
          unfold catF
          by_cases h : i < F
          · rw [if_pos h]
          · rw [if_neg h, HSS.out]
            unfold drF
            rw [show i / 32 = j by omega, show i % 32 = i - F by omega])
        obtain ⟨A13, c13, hv13, -, -, -⟩ := O8.out.sl
        have HV13 := Lib.hid hv13
        clear ho8 hg8 ht8 hv13 O23 N23 P23
        go_roundw
        case rel => exact ⟨j + 1, by have := HF.out; omega, O8.out, J8.out, by omega⟩
        case measure =>
          rw [HV13.out]
          have := HF.out
          simp only [slN]
          omega
      · have hd : decide ((F : Int) < (n : Int)) = false := by simp; omega
        have HJN := Lib.hid (show j = nV n by have := HF.out; unfold nV; omega)
        have hup := run_upto sli_u u8_i Ao F co n (by omega)
        have P5 := Lib.hid (show Put B (rscC (.slice AK 64 cK) t.1 (vsF t (nV n)) c) w wo by rw [← HJN.out]; exact HJ.out)
        have H3 := Lib.hid (rupd_any (t.1, vsF t (nV n)) c B b m cc cK A AK wo (P5.out.row HR.out) (slG_put HK.out P5.out (Nat.le_refl _) hBz) ((P5.out.sl HS.out (Nat.le_refl _) HO.out).more (by omega)) hm HO.out)
        clear hF HJ
        go_wp2_with fail
        refine H3.out.mono ?_
        rintro e w3 ⟨rfl, hp3⟩
        have P6 := Lib.hid (P5.out.then HR.out hp3)
        have r6 := P6.out.row HR.out
        have OF := Lib.hid (HOW.out.off (B := B) (by omega) n)
        have S6 := Lib.hid ((hp3.sl (HSO.out.upto n (by omega)) (Nat.le_refl _) OF.out).more hp3.size)
        have hcl := rsc_cell r6
        have hfz := froz_row r6 73
        have hwr : IntKind.i64.wrap (c + 1) = c + 1 := IntWalk.i64_in _ (by omega)
        clear hp3 H3 P5
        go_wp2_with fail
        rw [rsc_set r6]
        have P7 := Lib.hid (P6.out.then HR.out (Put.of (Below.refl _ _) (row_lt r6) (rscC (.slice AK 64 cK) (updS (t.1, vsF t (nV n)) b m).1 (updS (t.1, vsF t (nV n)) b m).2 (c + 1))))
        have S7 := Lib.hid ((Put.of (Below.refl _ _) (row_lt r6) (rscC (.slice AK 64 cK) (updS (t.1, vsF t (nV n)) b m).1 (updS (t.1, vsF t (nV n)) b m).2 (c + 1))).sl S6.out (Nat.le_refl _) OF.out)
        refine bodyPost_ret (v := .tuple #[.slice Ao n co, .int .i64 0]) (by simp [results, Tryd.results14, go_sem]) rfl ⟨Ao, co, rfl, ?_, by unfold maxLen; omega, ?_⟩
        · have e : drwF s b m = drF t := by unfold drwF; rw [← HTT.out]
          rw [e]
          simpa using S7.out
        · unfold drwS
          rw [← HTT.out]
          exact P7.out
end Go.Proofs.YtjggnbncpjoooaaDoor.Oct
