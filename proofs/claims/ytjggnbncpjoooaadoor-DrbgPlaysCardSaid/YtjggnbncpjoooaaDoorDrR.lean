/- Contracts of the reference's Source: update, Reseed, New, Draw. -/
import Derived.Test.YtjggnbncpjoooaaDoorTyDr
import Derived.Test.YtjggnbncpjoooaaDoorDrMath
import Derived.Test.YtjggnbncpjoooaaDoorMacR
import Derived.Test.YtjggnbncpjoooaaDoorTyBs
namespace Go.Proofs.YtjggnbncpjoooaaDoor.Oct
open Go.ChangeShapes Go.WideShapes Go.ChangeAt Go.RowKit
set_option linter.unusedVariables false

/-- the states on the way through update -/
def stJ (s : St) (b : Bf) (n : Nat) : Nat → St
  | 0 => s
  | j + 1 => mixS (stJ s b n j) (BitVec.ofNat 8 j) b n
theorem upd_stJ0 (s : St) (b : Bf) : updS s b 0 = stJ s b 0 1 := by unfold updS; rw [if_pos rfl]; rfl
theorem upd_stJ (s : St) (b : Bf) {n : Nat} (hn : 0 < n) : updS s b n = stJ s b n 2 := by unfold updS; rw [if_neg (by omega)]; rfl
theorem slG_put {B D n c : Nat} {A : Option Addr} {V : Nat → Value} {x : Array Value} {w w' : World} (h : SlG w D A n c V) (hp : Put B x w w') (hD : D ≤ B) (hB : B < w.heap.size) : SlG w' D A n c V := h.below (hp.low hD (by omega))

/-- block B holds a Source of this table and count, whatever its key and V -/
def RC (B : Nat) (t : Value) (c : Int) (y : World) : Prop := ∃ k v : Bf, row y B = some (rscC t k v c)
theorem RC.of {B : Nat} {t : Value} {c : Int} {y : World} {k v : Bf} (h : row y B = some (rscC t k v c)) : RC B t c y := ⟨k, v, h⟩
theorem RC.alloc {B : Nat} {t : Value} {c : Int} {y : World} (h : RC B t c y) (z : Obj) : RC B t c (y.alloc z) := by obtain ⟨k, v, h⟩ := h; exact ⟨k, v, row_alloc h z⟩

set_option maxRecDepth 20000 in
set_option maxHeartbeats 4000000 in
theorem rupd_any (s : St) (c : Int) (B : Nat) (b : Bf) (n cc cK : Nat) (A AK : Option Addr) (w : World) (hr : row w B = some (rscC (.slice AK 64 cK) s.1 s.2 c)) (hK : SlG w B AK 64 cK kV) (hs : Sl w w.heap.size A n cc b) (hn : n ≤ 70000) (ho : Off B n A) :
    Calls Tryd.prog 23 #[.pointer (some ⟨B, 0, none⟩), .slice A n cc] w fun e w' => e = .returned (.tuple #[]) ∧ Put B (rscC (.slice AK 64 cK) (updS s b n).1 (updS s b n).2 c) w w' := by
  have HR := Lib.hid hr
  have HK := Lib.hid hK
  have HS := Lib.hid hs
  have HO := Lib.hid ho
  have hBz := row_lt hr
  clear hr hK hs ho
  go_enter Tryd.func23, Tryd.ntmps23
  go_wp2_with fail
  go_loopw [4] (fun iv wr => ∃ j : Nat, j ≤ 2 ∧ (j = 2 → 0 < n) ∧ iv = .int .i64 j ∧ Put B (rscC (.slice AK 64 cK) (stJ s b n j).1 (stJ s b n j).2 c) w wr) (fun iv _ => 2 - (intOf iv).toNat)
  case atStart => exact ⟨0, by omega, by omega, rfl, Put.nil HR.out⟩
  case round =>
    obtain ⟨j, hj, hj2, rfl, hp⟩ := hrel
    have HJ2 := Lib.hid (show 1 < j → 0 < n from fun h => hj2 (by omega))
    clear hj2
    obtain ⟨wo, rfl⟩ : ∃ wo : World, wo = wr := ⟨_, rfl⟩
    have HP := Lib.hid hp
    clear hp
    have hzo := HP.out.size
    by_cases hlt : j < 2
    · have hd : decide ((j : Int) < 2) = true := by simp; omega
      by_cases hend : j = 1 ∧ n = 0
      · obtain ⟨rfl, rfl⟩ := hend
        go_wp2_with fail
        refine bodyPost_ret (v := .tuple #[]) (by simp [results, Tryd.results23, go_sem]) rfl ⟨rfl, ?_⟩
        rw [upd_stJ0]
        exact HP.out
      · have R0 := Lib.hid (HP.out.row HR.out)
        have K0 := Lib.hid (slG_put HK.out HP.out (Nat.le_refl _) hBz)
        have S0 := Lib.hid (HP.out.sl HS.out (Nat.le_refl _) HO.out)
        have a1 := sum_sl_at B 9
        have a2 := sum_sl_at B 41
        obtain ⟨T, hT⟩ : ∃ T : St, T = stJ s b n j := ⟨_, rfl⟩
        rw [← hT] at R0
        have HTT := Lib.hid hT
        clear hT
        have HCV := Lib.hid (show ((j : Int) % 256) = I (BitVec.ofNat 8 j) from I_ofN j)
        rcases Nat.eq_zero_or_pos j with h0 | h1
        case' inl =>
          have hd1 : ((j : Int) == 1) = false := by simp; omega
          clear h0
        case' inr =>
          have hd1 : ((j : Int) == 1) = true := by simp; omega
          have hd2 : ((n : Int) == 0) = false := by simp; omega
          clear h1
        all_goals
          go_wp2_with fail
          refine flow_many [.inl [0, 1, 2, 3, 4, 5, 6, 7, 8, 10, 11, 12, 13, 15, 16, 19], pS 9, pS 17, pU 9, pE 14, pU 17, pE 18, pE 20, pE 21, .inl [22, 23], pE 24] (RC B (.slice AK 64 cK) c) [B] (by kernel_rfl) (by kernel_rfl) (fun _ _ _ _ _ h => h) (fun _ _ _ _ _ h => h) (fun y z h => h.alloc z) (RC.of (by rw [row_drewN]; exact R0.out)) (fun k hk => by simp at hk; omega) ?_
          have bw := below_drewN (Below.refl wo.heap.size wo) 1
          have hz1 : (wo.drewN 1).heap.size = wo.heap.size := rfl
          obtain ⟨W1, hW1⟩ : ∃ W1, W1 = wo.drewN 1 := ⟨_, rfl⟩
          rw [← hW1] at bw hz1 ⊢
          clear hW1
          have BW := Lib.hid bw
          clear bw
          have hq : ∀ x : In (RC B (.slice AK 64 cK) c), ldR Tryd.prog 54 9 x.val B 0 (row x.val B) = .ok (.agg (tbA (.slice AK 64 cK) iF)) x.val := fun x => by obtain ⟨k, v, h⟩ := x.ok; rw [h]; exact rsc_ldt _ _ _ _ _ _ _ _
          have hne : Nonempty (In (RC B (.slice AK 64 cK) c)) := ⟨⟨wo, RC.of R0.out⟩⟩
          have hcv := HCV.out
          refine wpM_q ?_
          simp only [pk, List.getElem?_cons_zero, List.getElem?_cons_succ]
          repeat (go_big_quiet_step (fail))
          refine wpQuiet_nil ?_
          clear hq hcv a1 a2
          have HCE := Lib.hid (show (j : Int) = I (BitVec.ofNat 8 j) by rw [← HCV.out]; omega)
          clear hne HCV hd1
          refine wpM_s (fun p => .slice (some ⟨p, 0, none⟩) 0 0) (.cells #[] 5) _ rfl rfl (fun w => ex_bs0 _ rfl w) ?_
          refine wpM_s (fun p => .slice (some ⟨p, 0, none⟩) 1 1) (.cells #[.int .u8 (j : Int)] 5) _ rfl rfl (fun w => ex_bs1 _ (.tmp 32) rfl _ rfl w) ?_
          refine wpM_u _ _ _ 25 (.tail _ (.head _)) rfl rfl (fun x0 hx0 p hp1' hp2 hp3 hp4 => ?_)
          refine wpM_e _ rfl (fun x hx => ?_)
          have hs0 := x0.below.size
          have hsx := x.below.size
          have B1 := Lib.hid (onto (onto BW.out (by omega) x0.below) (by omega) x.below)
          have O1 := Lib.hid (show Own x.val wo.heap.size 5 (.slice (some ⟨p, 0, none⟩) 0 0) 0 nF from own_new (by rw [x.below.block p hp2]; exact hp4) hp1')
          have rv1 := carry B1.out R0.out
          have L1 := Lib.hid (rsc_slv rv1 x.val.heap.size (row_lt rv1))
          clear hx0 hx hp3 hp4 BW rv1
          obtain ⟨X1, hX1⟩ : ∃ X1, X1 = x.val := ⟨_, rfl⟩
          rw [← hX1] at hsx B1 O1 L1 ⊢
          clear hX1
          go_wp2_with (at_builtin; refine wpl_appB rfl (.tmp 25) (.tmp 29) rfl sli_u u8_info O1.out L1.out (by omega) (by omega) rfl rfl ?_; intro v2 w2 ho2 hg2 ht2)
          rw [catF_zero, Nat.zero_add] at ho2
          have hs2 := hg2.size
          have B2 := Lib.hid (O1.out.after hg2 B1.out (by omega) (Nat.le_refl _))
          have O2 := Lib.hid ho2
          refine same_class (C := RC B (.slice AK 64 cK) c) (B :: v2.ownBlock.toList) ((Frm.app hg2).more (fun k hk => by simp [Value.ownBlock] at hk; simp [hk])) (hot_cons (by simp) (by omega) (hot_app ho2 ht2 (fun k hk => by simp [Value.ownBlock] at hk; simp [hk]))) (RC.of (carry B2.out R0.out)) (fun y z h => h.alloc z) ?_
          clear ho2 hg2 ht2 O1 L1 B1
          -- the round's number
          refine wpM_u _ _ _ 33 (.head _) rfl rfl (fun x0 hx0 p hp1' hp2 hp3 hp4 => ?_)
          refine wpM_e _ rfl (fun x hx => ?_)
          have hs0 := x0.below.size
          have hsx := x.below.size
          have B5 := Lib.hid (onto (onto B2.out (by omega) x0.below) (by omega) x.below)
          have O5 := Lib.hid (O2.out.below (onto x0.below x0.below.size x.below) (Nat.le_refl _))
          have N5 := Lib.hid (sl_new (x := x.val) (p := p) (u := 5) (v := BitVec.ofNat 8 j) (by rw [x.below.block p hp2, hp4, HCE.out]))
          have P3 := Lib.hid hp3
          clear hx0 hx hp4 B2 O2 hp3
          obtain ⟨X5, hX5⟩ : ∃ X5, X5 = x.val := ⟨_, rfl⟩
          rw [← hX5] at hsx B5 O5 N5 ⊢
          clear hX5
          go_wp2_with (at_builtin; refine wpl_appB rfl (.tmp 30) (.tmp 33) rfl sli_u u8_info O5.out N5.out (by omega) (by omega) rfl rfl ?_; intro v6 w6 ho6 hg6 ht6)
          have hs6 := hg6.size
          have B6 := Lib.hid (O5.out.after hg6 B5.out (by omega) (Nat.le_refl _))
          have O6 := Lib.hid ho6
          refine same_class (C := RC B (.slice AK 64 cK) c) (B :: v6.ownBlock.toList) ((Frm.app hg6).more (fun k hk => .tail _ (.tail _ hk))) (hot_cons (.tail _ (.head _)) (by omega) (hot_app ho6 ht6 (fun k hk => .tail _ (.tail _ (show k ∈ v2.ownBlock.toList by simpa using hk))))) (RC.of (carry B6.out R0.out)) (fun y z h => h.alloc z) ?_
          clear ho6 hg6 ht6 O5 N5 B5
          -- the bytes
          refine wpM_e _ rfl (fun x hx => ?_)
          have hsx9 := x.below.size
          have B9 := Lib.hid (onto B6.out (by omega) x.below)
          have O9 := Lib.hid (O6.out.below x.below (Nat.le_refl _))
          have I9 := Lib.hid (S0.out.below (B9.out.mono hzo))
          clear hx B6 O6
          obtain ⟨X9, hX9⟩ : ∃ X9, X9 = x.val := ⟨_, rfl⟩
          rw [← hX9] at hsx9 B9 O9 I9 ⊢
          clear hX9
          go_wp2_with (at_builtin; refine wpl_appB rfl (.tmp 34) (.tmp 35) rfl sli_u u8_info O9.out I9.out (by omega) (by omega) rfl rfl ?_; intro v10 w10 ho10 hg10 ht10)
          have hs10 := hg10.size
          have B10 := Lib.hid (O9.out.after hg10 B9.out (by omega) (Nat.le_refl _))
          have O10 := Lib.hid (show Own w10 wo.heap.size 5 v10 (32 + 1 + n) (mixT T (BitVec.ofNat 8 j) b) from ho10)
          refine same_class (C := RC B (.slice AK 64 cK) c) (B :: v10.ownBlock.toList) ((Frm.app hg10).more (fun k hk => .tail _ hk)) (hot_cons (.head _) (by omega) (hot_app ho10 ht10 (fun k hk => List.mem_cons_of_mem _ (by simpa using hk)))) (RC.of (carry B10.out R0.out)) (fun y z h => h.alloc z) ?_
          clear ho10 hg10 ht10 O9 I9 B9
          -- the sum
          refine wpM_e _ rfl (fun x hx => ?_)
          have hsx11 := x.below.size
          have B11 := Lib.hid (onto B10.out (by omega) x.below)
          have O11 := Lib.hid (O10.out.below x.below (Nat.le_refl _))
          have rk11 := carry B11.out R0.out
          have K11 := Lib.hid (rsc_slk rk11 x.val.heap.size (row_lt rk11))
          have T11 := Lib.hid ((K0.out.below (B11.out.mono (by omega))).more (show B ≤ x.val.heap.size by omega))
          clear hx B10 O10 rk11
          obtain ⟨X11, hX11⟩ : ∃ X11, X11 = x.val := ⟨_, rfl⟩
          rw [← hX11] at hsx11 B11 O11 K11 T11 ⊢
          clear hX11
          obtain ⟨A12, c12, hv12, hsl12, -, -⟩ := O11.out.sl
          obtain ⟨H12, hH12⟩ : ∃ H12, H12 = v10.ownBlock.toList := ⟨_, rfl⟩
          rw [← hH12] at ⊢
          rw [hv12]
          have L12 := Lib.hid hsl12
          clear hsl12 O11 hv12 hH12
          go_wp2_with fail
          refine (rsums_any T.1 _ 32 _ 32 c12 cK _ A12 AK X11 K11.out L12.out (by omega) (by omega) T11.out).mono ?_
          rintro e w12 ⟨rfl, hb12⟩
          obtain ⟨KN, hKN⟩ : ∃ KN, KN = macF T.1 32 (mixT T (BitVec.ofNat 8 j) b) (32 + 1 + n) := ⟨_, rfl⟩
          rw [← hKN]
          have HKN := Lib.hid hKN
          have hs12 := hb12.size
          have B12 := Lib.hid (onto B11.out (by omega) hb12)
          have FR12 := Lib.hid (Frm.of (hot := B :: H12) hb12)
          have HH12 := Lib.hid (hot_cons (q := B) (l := []) (hot := B :: H12) (x := X11) (w'' := w12) (.head _) (by omega) hot_none)
          clear hb12 hKN B11 K11 T11 L12
          go_wp2_with fail
          refine same_class (C := RC B (.slice AK 64 cK) c) [B] FR12.out HH12.out (RC.of (carry B12.out R0.out)) (fun y z h => h.alloc z) ?_
          clear FR12 HH12
          have hne : Nonempty (In (RC B (.slice AK 64 cK) c)) := ⟨⟨wo, RC.of R0.out⟩⟩
          refine wpM_q ?_
          simp only [pk, List.getElem?_cons_zero, List.getElem?_cons_succ]
          repeat (go_big_quiet_step (fail))
          refine wpQuiet_nil ?_
          clear hne
          refine wpM_e _ rfl (fun x hx => ?_)
          have B13 := Lib.hid (onto B12.out (by omega) x.below)
          have rp := carry B13.out R0.out
          clear hx B12
          obtain ⟨X13, hX13⟩ : ∃ X13, X13 = x.val := ⟨_, rfl⟩
          rw [← hX13] at rp B13 ⊢
          clear hX13
          have z13 := B13.out.size
          go_wp2_with fail
          have P14 := Lib.hid (show Put B (rscC (.slice AK 64 cK) KN T.2 c) w (X13.setRow B (rscC (.slice AK 64 cK) KN T.2 c)) from HP.out.then HR.out (Put.of B13.out (by omega) _))
          refine same_class (C := RC B (.slice AK 64 cK) c) [] (Frm.row X13 _ (by simp)) hot_none (RC.of (row_setRow rp _)) (fun y z h => h.alloc z) ?_
          clear rp B13
          refine wpM_nil (fun x => ?_)
          have P20 := Lib.hid (P14.out.calm x.below)
          clear P14 K0 S0 R0
          obtain ⟨y0, hy0⟩ : ∃ y0, y0 = x.val := ⟨_, rfl⟩
          rw [← hy0] at P20 ⊢
          clear hy0
          clear hs0 hs2 hs6 hs10 hs12 hsx hsx9 hsx11 hp2 P3 hz1 z13
          have a1 := sum_sl_at B 9
          have a2 := sum_sl_at B 41
          go_wp2_with fail
          refine flow_seen [([0, 1, 2, 3, 4, 5, 6, 7, 8, 9, 10, 11, 12], 13, false), ([14, 15], 16, true)] [] (by kernel_rfl) (by kernel_rfl) (fun _ _ _ _ _ h => h) fun X => ?_
          have P21 := Lib.hid (P20.out.calm X.below)
          clear P20
          obtain ⟨y1, hy1⟩ : ∃ y1, y1 = X.val := ⟨_, rfl⟩
          rw [← hy1] at P21 ⊢
          clear hy1 X
          have r21 := P21.out.row HR.out
          have R21 := Lib.hid r21
          have q0 := After.row r21
          clear r21
          simp only [wpFs, pk, List.getElem?_cons_zero, List.getElem?_cons_succ]
          repeat (go_big_quiet_step (fail))
          refine wpQuiet_nil ?_
          clear q0
          have K21 := Lib.hid ((slG_put HK.out P21.out (Nat.le_refl _) hBz).more (show B ≤ y1.heap.size by have := row_lt R21.out; omega))
          have hyz := row_lt R21.out
          go_wp2_with fail
          refine (rsums_any KN T.2 32 32 32 32 cK _ _ AK y1 (rsc_slk R21.out _ hyz) (rsc_slv R21.out _ hyz) (by omega) (by omega) K21.out).mono ?_
          rintro e y2 ⟨rfl, hb2⟩
          go_wp2_with fail
          refine ⟨.inr hb2, ?_⟩
          have r22 := carry hb2 R21.out
          have B22 := Lib.hid hb2
          clear hb2 K21 R21
          have q0 := After.row r22
          show wpQuiet _ _ _ _ _ _
          repeat (go_big_quiet_step (fail))
          refine wpQuiet_nil ?_
          clear q0
          go_wp2_with fail
          refine ⟨.inl trivial, ?_⟩
          show wpQuiet _ _ _ _ _ _
          refine wpQuiet_nil ?_
          have P23 := Lib.hid (P21.out.then HR.out (Put.of B22.out hyz (rscC (.slice AK 64 cK) KN (macF KN 32 T.2 32) c)))
          have HE := Lib.hid (show stJ s b n (j + 1) = (KN, macF KN 32 T.2 32) by rw [HKN.out, HTT.out]; rfl)
          clear r22 B22 P21
          go_wp2_with fail
          go_roundw
          case rel => exact ⟨j + 1, by omega, by omega, by go_num, by rw [HE.out]; exact P23.out⟩
          case measure => simp [intOf]; omega
    · obtain rfl : j = 2 := by omega
      have hd : decide (((2 : Nat) : Int) < 2) = false := by decide
      go_wp2_with fail
      go_end0
      refine ⟨rfl, ?_⟩
      rw [upd_stJ s b (HJ2.out (by omega))]
      exact HP.out
end Go.Proofs.YtjggnbncpjoooaaDoor.Oct
