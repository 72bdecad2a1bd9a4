/- Contract of mac.Expand. -/
import Derived.Test.YtbncangoaldmiaaDoorMacA
namespace Go.Proofs.YtbncangoaldmiaaDoor.Oct
open Go.ChangeShapes Go.WideShapes Go.ChangeAt Go.RowKit
set_option linter.unusedVariables false

theorem mk_sl (n : Nat) (hn : n ≤ 140737488355328) (w : World) : (Instr.makeSlice 22 (.int .i64 (n : Int)) (.int .i64 (n : Int))).run Tryd.prog w = .ok (.slice (some ⟨w.heap.size, 0, none⟩) n n) (w.alloc (.cells (ba n fun _ => 0#8) 5)) := by
  obtain ⟨iu, hiu, z0, z1, z2⟩ := info_parts (P := Tryd.prog) u8_info
  rw [run_make w 22 5 iu (.int .u8 0) sli_u hiu z0 .i64 .i64 n n (by omega) (Int.le_refl _) (by rw [z2]; omega) (by omega), Int.toNat_natCast, z1, made_ba]
theorem run_copyAt {P : Program} {w : World} {dT sT ty u : TypeId} (hu : P.underlying dT = some (.slice u)) (hz : (P.info? u).map (·.size) = some 1) {g o L N dc : Nat} {f : Bf} (hr : row w g = some (ba N f)) (hoL : o + L ≤ N)
    {B n c : Nat} {A : Option Addr} {b : Bf} (hs : Sl w B A n c b) {m : Nat} (hm : m = min n L) :
    (Builtin.copy_ #[dT, sT] ty #[.slice (some ⟨g, o, none⟩) L dc, .slice A n c]).run P w = .ok (goInt m) (w.setRow g (ba N (putF f o m b))) := by
  by_cases h0 : m = 0
  · have e : ba N (putF f o m b) = ba N f := ba_ext fun k _ => by unfold putF; rw [if_neg (by omega)]
    rw [e, setRow_self hr, h0]
    exact run_copy_none w dT sT ty u _ _ L dc n c hu hz (by show min n L = 0; omega)
  · obtain ⟨a, p, rfl, _, hc⟩ := hs.at_ (by omega)
    obtain ⟨t, hg⟩ := row_is hr
    have hl : (ba m b).toList.length = m := by rw [Array.length_toList, ba_size]
    have h := run_copy_row (P := P) w dT sT ty u g o L dc ⟨a, p, none⟩ n c (ba N f) t (ba m b).toList hu hz hg (by rw [hl]; exact hm)
      (fun j v hv => by
        rw [Array.getElem?_toList] at hv
        by_cases hj : j < m
        · rw [ba_get m b j hj] at hv
          rw [add_mid, hc j (by omega), hv]
        · rw [ba_none m b j hj] at hv; cases hv)
      (by rw [hl, ba_size]; omega) (fun v hv => (Array.all_eq_true_iff_forall_mem.1 (ba_one m b)) v (by simpa using hv))
    rw [hl] at h
    rw [h]
    congr 2
    apply Array.ext_getElem?
    intro k
    rw [List.getElem?_toArray]
    by_cases hk : k < N
    · rw [ba_get _ _ _ hk]
      unfold putF
      by_cases h1 : k < o
      · rw [if_neg (by omega), List.append_assoc, List.getElem?_append_left (by simp [ba_size]; omega), List.getElem?_take, if_pos h1, Array.getElem?_toList, ba_get _ _ _ hk]
      · by_cases h2 : k < o + m
        · rw [if_pos ⟨by omega, h2⟩, List.append_assoc, List.getElem?_append_right (by simp [ba_size]; omega), List.getElem?_append_left (by simp [ba_size]; omega), Array.getElem?_toList]
          have : k - (List.take o (ba N f).toList).length = k - o := by simp [ba_size]; omega
          rw [this, ba_get _ _ _ (by omega)]
        · rw [if_neg (by omega), List.getElem?_append_right (by simp [ba_size]; omega), List.getElem?_drop, Array.getElem?_toList]
          have : o + m + (k - (List.take o (ba N f).toList ++ (ba m b).toList).length) = k := by simp [ba_size]; omega
          rw [this, ba_get _ _ _ hk]
    · rw [ba_none _ _ _ hk, List.getElem?_eq_none]
      simp [ba_size]; omega
theorem wpl_copyAt {P : Program} {w : World} {ops : Array Oper} {rest : List Oper} {o : Oper} {a : Act} {Q : Exit → Act → World → Prop} (hgd : o.guard = none) (d s : Operand) (dT sT u : TypeId)
    (ho : o.op = .call { callee := .builtin .copy, args := #[d, s], argTypes := #[dT, sT] }) (hu : P.underlying dT = some (.slice u)) (hz : (P.info? u).map (·.size) = some 1)
    {g p L N dc : Nat} {f : Bf} (hr : row w g = some (ba N f)) (hoL : p + L ≤ N) {B n c : Nat} {A : Option Addr} {b : Bf} (hs : Sl w B A n c b) {m : Nat} (hm : m = min n L)
    (hd : a.eval d = .slice (some ⟨g, p, none⟩) L dc) (hv : a.eval s = .slice A n c)
    (h : wpList P ops Q rest (a.put o.dst (.int .i64 (m : Int))) (w.setRow g (ba N (putF f p m b)))) : wpList P ops Q (o :: rest) a w := by
  refine wpList_plain hgd fun K hK => ?_
  have hrun := run_copyAt (ty := o.type) (sT := sT) hu hz hr hoL hs hm (dc := dc)
  unfold Oper.wp
  simp only [execOp, ho, resolve, invoke, builtin, Sem.run_bind, Sem.run_pure, Result.andThen_ok, List.map_toArray, List.map_cons, List.map_nil, hd, hv, hrun]
  exact hK _ _ h

theorem mexp_bad (A A' : Option Addr) (n m c c' : Nat) (x : Int) (w : World) (hx : x < 0 ∨ 8160 < x) :
    Calls Tryd.prog 15 #[.slice A n c, .slice A' m c', .int .i64 x] w fun e w' => e = .returned (.tuple #[.slice none 0 0, .int .i64 1]) ∧ w = w' := by
  by_cases h0 : x < 0
  · have hd : decide (x < 0) = true := by simp; omega
    go_enter Tryd.func15, Tryd.ntmps15
    go_wp2_with fail
    exact bodyPost_ret (v := .tuple #[.slice none 0 0, .int .i64 1]) (by simp [results, Tryd.results15, go_sem]) rfl ⟨rfl, rfl⟩
  · have hd : decide (x < 0) = false := by simp; omega
    have hd2 : decide (8160 < x) = true := by simp; omega
    go_enter Tryd.func15, Tryd.ntmps15
    go_wp2_with fail
    exact bodyPost_ret (v := .tuple #[.slice none 0 0, .int .i64 1]) (by simp [results, Tryd.results15, go_sem]) rfl ⟨rfl, rfl⟩
theorem I_next (j : Nat) : (I (BitVec.ofNat 8 j) + 1) % 256 = I (BitVec.ofNat 8 (j + 1)) := by
  unfold I
  rw [BitVec.toNat_ofNat, BitVec.toNat_ofNat]
  omega
/-- what is known of the world on the way: the row that is filled -/
structure ExInv (w : World) (k : Bf) (n : Nat) (b : Bf) (m L j : Nat) (wr : World) : Prop where
  below : Below w.heap.size w wr
  r : row wr w.heap.size = some (ba L (upto (32 * j) (expF k n b m) fun _ => 0#8))
set_option maxHeartbeats 2000000 in
theorem mexp_any (k b : Bf) (n m c c' : Nat) (A A' : Option Addr) (L : Nat) (w : World) (ht : Tab w) (hs : Sl w w.heap.size A n c k) (hs' : Sl w w.heap.size A' m c' b) (hn : n ≤ 140737488355328) (hm : m ≤ 140737488350000) (hL : L ≤ 8160) :
    Calls Tryd.prog 15 #[.slice A n c, .slice A' m c', .int .i64 L] w fun e w' => e = .returned (.tuple #[.slice (some ⟨w.heap.size, 0, none⟩) L L, .int .i64 0]) ∧ row w' w.heap.size = some (ba L (expF k n b m)) ∧ Below w.heap.size w w' := by
  have hd0 : decide ((L : Int) < 0) = false := by simp
  have hd1 : decide ((8160 : Int) < (L : Int)) = false := by simp; omega
  have hmk := mk_sl L (by omega)
  have HT := Lib.hid ht
  have HS := Lib.hid hs
  have HS' := Lib.hid hs'
  clear ht hs hs'
  go_enter Tryd.func15, Tryd.ntmps15
  have E0 := Lib.hid (show ExInv w k n b m L 0 (w.alloc (.cells (ba L fun _ => 0#8) 5)) from ⟨(Below.refl _ _).alloc (by simp) _, by rw [Nat.mul_zero, upto_zero]; exact row_alloc_at _ _ _ _ rfl⟩)
  go_wp2_with fail
  clear hmk hd0 hd1
  go_loopw [9, 10, 11] (fun sv iv nv wr => ∃ j : Nat, 32 * j < L + 32 ∧ iv = .int .i64 ((min (32 * j) L : Nat) : Int) ∧ nv = .int .u8 (I (BitVec.ofNat 8 (j + 1))) ∧ (∃ Al cl, sv = .slice Al (lstL j) cl ∧ Sl wr wr.heap.size Al (lstL j) cl (expT k n b m j)) ∧ ExInv w k n b m L j wr) (fun _ iv _ _ => L - (intOf iv).toNat)
  case atStart => exact ⟨0, by omega, by rw [Nat.mul_zero, Nat.zero_min]; rfl, rfl, ⟨none, 0, rfl, Sl.nothing _ _ _ _ _⟩, E0.out⟩
  case round =>
    clear E0
    obtain ⟨j, hj, rfl, rfl, ⟨Al, cl, rfl, hl⟩, hE⟩ := hrel
    obtain ⟨wo, rfl⟩ : ∃ wo : World, wo = wr := ⟨_, rfl⟩
    have HL := Lib.hid hl
    have HE := Lib.hid hE
    clear hl hE
    obtain ⟨F, hF⟩ : ∃ F, F = min (32 * j) L := ⟨_, rfl⟩
    rw [← hF]
    have hlen : lstL j ≤ 32 := by unfold lstL; split <;> omega
    have hsz : w.heap.size < wo.heap.size := row_lt HE.out.r
    have HF := Lib.hid hF
    by_cases hlt : F < L
    · have hd : decide ((F : Int) < (L : Int)) = true := by simp; omega
      have HFj := Lib.hid (show F = 32 * j by omega)
      clear hF
      go_wp2_with fail
      obtain ⟨w2, hw2⟩ : ∃ w2, w2 = (wo.alloc (.cells #[.int .u8 (I (BitVec.ofNat 8 (j + 1)))] 5)).alloc (.cells #[.slice Al (lstL j) cl, .slice A' m c', .slice (some ⟨wo.heap.size, 0, none⟩) 1 1] 22) := ⟨_, rfl⟩
      have b2 : Below wo.heap.size wo w2 := by rw [hw2]; exact ((Below.refl _ _).alloc (by simp) _).alloc (by simp) _
      have rC : row w2 (wo.heap.size + 1) = some #[.slice Al (lstL j) cl, .slice A' m c', .slice (some ⟨wo.heap.size, 0, none⟩) 1 1] := by rw [hw2]; exact row_alloc_at _ _ _ _ (by simp)
      have s1 : Sl w2 w2.heap.size (some ⟨wo.heap.size, 0, none⟩) 1 1 (fun _ => BitVec.ofNat 8 (j + 1)) := by
        rw [hw2]
        exact ((Sl.one wo 5 (BitVec.ofNat 8 (j + 1)) (wo.heap.size + 1) (by omega)).below ((Below.refl _ _).alloc (by simp) _)).more (by simp)
      have hz2 : w2.heap.size = wo.heap.size + 2 := by rw [hw2]; simp
      rw [← hw2]
      clear hw2
      have B2 := Lib.hid (onto HE.out.below (by omega) b2)
      refine (concat3_any _ _ w2 rC ((HL.out.below b2).more (by omega)) ((HS'.out.below B2.out).more (by omega)) s1 (by omega)).mono ?_
      rintro e w3 ⟨v, rfl, ho, hb3⟩
      obtain ⟨Am, cm, hv, hsl, -, -⟩ := ho.sl
      subst hv
      have HM := Lib.hid hsl
      have B3 := Lib.hid (onto B2.out (by omega) hb3)
      have b3 := onto b2 (by omega) hb3
      have b3' := Lib.hid b3
      have hs3 : wo.heap.size + 2 ≤ w3.heap.size := by have := hb3.size; omega
      clear ho hsl hb3 s1 rC b2 B2 hz2 b3 HL
      go_wp2_with fail
      refine (msum_any k _ n _ c cm A Am w3 (HT.out.below B3.out HT.out.pos) ((HS.out.below B3.out).more (by omega)) HM.out hn (by omega)).mono ?_
      rintro e w4 ⟨rfl, hb4⟩
      obtain ⟨S, hS⟩ : ∃ S, S = expT k n b m (j + 1) := ⟨_, rfl⟩
      rw [show macF k n (catF (lstL j + m) (catF (lstL j) (expT k n b m j) b) fun _ => BitVec.ofNat 8 (j + 1)) (lstL j + m + 1) = S by rw [hS]; rfl]
      have HSS := Lib.hid hS
      have hs4 : w3.heap.size ≤ w4.heap.size := hb4.size
      have b4 := onto b3'.out (by omega) hb4
      obtain ⟨w6, hw6⟩ : ∃ w6, w6 = w4.alloc (.cells (ba 32 S) 26) := ⟨_, rfl⟩
      have b6 : Below wo.heap.size wo w6 := by rw [hw6]; exact b4.alloc (by omega) _
      have rS : row w6 w4.heap.size = some (ba 32 S) := by rw [hw6]; exact row_alloc_at _ _ _ _ rfl
      have hz6 : w6.heap.size = w4.heap.size + 1 := by rw [hw6]; simp
      have r6 := carry b6 HE.out.r
      have B6 := Lib.hid (onto HE.out.below (by omega) b6)
      have RS := Lib.hid rS
      have a1 := sum_sl_all w4.heap.size
      have hfr := run_from sli_u u8_i (some (⟨w.heap.size, 0, none⟩ : Addr)) L L F (by omega)
      rw [show cutA (some (⟨w.heap.size, 0, none⟩ : Addr)) L F = some ⟨w.heap.size, F, none⟩ by unfold cutA; rw [if_neg (by omega)]; simp only [Option.map_some]; rw [add_mid, Nat.zero_add]] at hfr
      clear hb4 b4 b3' hS HM B3 HE rS
      go_wp2_with fail
      rw [← hw6]
      clear hw6
      refine flow_region [([0, 1, 2, 3, 4], 5, false)] [6, 7] (fun _ => True) (by kernel_rfl) (by kernel_rfl) (fun _ _ _ _ _ h => h) trivial ?_
      have b7 := below_drewN b6 1
      have r7 : row (w6.drewN 1) w.heap.size = some (ba L (upto (32 * j) (expF k n b m) fun _ => 0#8)) := by rw [row_drewN]; exact r6
      have rS7 : row (w6.drewN 1) w4.heap.size = some (ba 32 S) := by rw [row_drewN]; exact RS.out
      have hz7 : (w6.drewN 1).heap.size = w4.heap.size + 1 := by rw [← hz6]; rfl
      have B7' := below_drewN B6.out 1
      obtain ⟨w7, hw7⟩ : ∃ w7, w7 = w6.drewN 1 := ⟨_, rfl⟩
      rw [← hw7] at b7 r7 rS7 hz7 B7' ⊢
      clear hw7 b6 r6 hz6 B6 RS
      have B7 := Lib.hid B7'
      have HI := Lib.hid (Sl.of_row rS7 w7.heap.size (by omega))
      have RS7 := Lib.hid rS7
      clear B7'
      obtain ⟨C, hC⟩ : ∃ C, C = min 32 (L - F) := ⟨_, rfl⟩
      have HC := Lib.hid hC
      have hV : ba L (putF (upto (32 * j) (expF k n b m) fun _ => 0#8) F C S) = ba L (upto (32 * (j + 1)) (expF k n b m) fun _ => 0#8) := ba_ext fun i hi => by
        have h1 := HFj.out
        unfold putF upto
        by_cases h2 : i < 32 * j
        · rw [if_neg (by omega), if_pos h2, if_pos (by omega)]
        · by_cases h3 : i < 32 * (j + 1)
          · rw [if_pos (by omega), if_pos h3, HSS.out]
            unfold expF
            rw [show i / 32 = j by omega, show i % 32 = i - F by omega]
          · rw [if_neg (by omega), if_neg h2, if_neg h3]
      have HV := Lib.hid hV
      have hF2 : ((F : Int) + (C : Int)) = ((min (32 * (j + 1)) L : Nat) : Int) := by have := HFj.out; omega
      have HF2 := Lib.hid hF2
      have hw8 : IntKind.i64.wrap ((F : Int) + (C : Int)) = (F : Int) + (C : Int) := IntWalk.i64_in _ (by omega)
      simp only [wpFl, pk, List.getElem?_cons_zero, List.getElem?_cons_succ]
      clear hV hC hF2 rS7
      repeat (go_big_quiet_step (fail))
      refine wpQuiet_nil ?_
      go_wp2_with (refine wpl_copyAt rfl (.tmp 37) (.tmp 38) 22 22 5 rfl sli_u u8_i r7 (show F + (L - F) ≤ L by omega) HI.out HC.out rfl rfl ?_)
      rw [HV.out]
      obtain ⟨w8, hw8'⟩ : ∃ w8, w8 = w7.setRow w.heap.size (ba L (upto (32 * (j + 1)) (expF k n b m) fun _ => 0#8)) := ⟨_, rfl⟩
      have E8 := Lib.hid (show ExInv w k n b m L (j + 1) w8 by rw [hw8']; exact ⟨below_setRow B7.out (Nat.le_refl _) _, row_setRow r7 _⟩)
      have hg8 : w4.heap.size < w8.heap.size := by rw [hw8']; exact Nat.lt_of_lt_of_eq (by omega : w4.heap.size < w7.heap.size) (by simp)
      have S8 := Lib.hid (show Sl w8 w8.heap.size (some ⟨w4.heap.size, 0, none⟩) 32 32 S from Sl.of_row (by rw [hw8', row_setRow_other _ _ _ _ (by omega)]; exact RS7.out) _ hg8)
      rw [← hw8']
      clear hw8' r7
      refine ⟨fun _ => True, trivial, ?_⟩
      show wpQuiet _ _ _ _ _ _
      repeat (go_big_quiet_step (fail))
      refine wpQuiet_nil ?_
      rw [HF2.out]
      go_wp2_with fail
      go_roundw
      case rel => exact ⟨j + 1, by have := HFj.out; omega, rfl, by rw [I_next], ⟨_, _, rfl, by rw [← HSS.out]; exact S8.out⟩, E8.out⟩
      case measure =>
        have := HFj.out
        simp only [intOf]
        omega
    · have hd : decide ((F : Int) < (L : Int)) = false := by simp; omega
      have HX := Lib.hid (show ba L (upto (32 * j) (expF k n b m) fun _ => 0#8) = ba L (expF k n b m) from ba_ext fun i hi => by unfold upto; rw [if_pos (by omega)])
      clear hF
      go_wp2_with fail
      refine bodyPost_ret (v := .tuple #[.slice (some ⟨w.heap.size, 0, none⟩) L L, .int .i64 0]) (by simp [results, Tryd.results15, go_sem]) rfl ⟨rfl, ?_, HE.out.below⟩
      rw [HE.out.r, HX.out]
end Go.Proofs.YtbncangoaldmiaaDoor.Oct
