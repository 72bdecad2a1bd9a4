/- GHASH: the plain mathematics, and the contracts of block.Hash and the reference's. -/
import Derived.Test.YtokhldihfbaeoaaBlkE
import Derived.Test.YtokhldihfbaeoaaSl
import Derived.Test.YtokhldihfbaeoaaTySl
namespace Go.Proofs.Ytokhldihfbaeoaa.Oct
open Go.ChangeShapes Go.WideShapes Go.ChangeAt Go.RowKit

/-- sixteen bytes from place o on, noughts behind the n-th -/
def grp (b : Bf) (n o : Nat) : Bf := fun i => if o + i < n then b (o + i) else 0#8
def hshT (h b : Bf) (n : Nat) : Nat → Bf
  | 0 => nF
  | j + 1 => gmF (xorF (hshT h b n j) (grp b n (16 * j))) h
def hshF (h b : Bf) (n : Nat) : Bf := hshT h b n ((n + 15) / 16)
theorem grp_ba (b : Bf) (n j m : Nat) (hm : m = min (n - 16 * j) 16) : ba 16 (putF (fun _ => 0#8) 0 m (offF b (16 * j))) = ba 16 (grp b n (16 * j)) := ba_ext fun i hi => by
  unfold putF grp offF
  by_cases h : 16 * j + i < n
  · rw [if_pos h, if_pos (by omega), Nat.sub_zero]
  · rw [if_neg h, if_neg (by omega)]
theorem hshT_xor (h b c : Bf) (n : Nat) : ∀ j, hshT h (xorF b c) n j = xorF (hshT h b n j) (hshT h c n j) := by
  intro j
  induction j with
  | zero => funext i; simp [hshT, xorF, nF]
  | succ j ih =>
    simp only [hshT]
    rw [ih, ← gmF_xor']
    congr 1
    funext i
    unfold xorF grp
    by_cases hi : 16 * j + i < n
    · simp only [hi, if_true]
      rw [BitVec.xor_assoc, BitVec.xor_assoc]
      congr 1
      rw [← BitVec.xor_assoc, ← BitVec.xor_assoc, BitVec.xor_comm (hshT h c n j i)]
    · simp only [hi, if_false]
      simp
theorem hshF_xor (h b c : Bf) (n : Nat) : hshF h (xorF b c) n = xorF (hshF h b n) (hshF h c n) := hshT_xor h b c n _
theorem hshT_congr {h b b' : Bf} {n n' : Nat} : ∀ q, (∀ j, j < q → ∀ i, i < 16 → grp b n (16 * j) i = grp b' n' (16 * j) i) → hshT h b n q = hshT h b' n' q := by
  intro q
  induction q with
  | zero => intro _; rfl
  | succ q ih =>
    intro hg
    simp only [hshT]
    rw [ih fun j hj => hg j (by omega)]
    exact gmF_congr (fun k hk => by unfold xorF; rw [hg q (by omega) k hk]) (fun _ _ => rfl)
/-- the first N bytes, noughts behind -/
def padF (a : Bf) (N : Nat) : Bf := fun i => if i < N then a i else 0#8
/-- noughts behind the last bytes change nothing -/
theorem hsh_pad (h a : Bf) (N m : Nat) (hm : N ≤ m) (hm' : m ≤ 16 * ((N + 15) / 16)) : hshF h (padF a N) m = hshF h a N := by
  unfold hshF
  rw [show (m + 15) / 16 = (N + 15) / 16 by omega]
  refine hshT_congr _ fun j hj i hi => ?_
  unfold grp padF
  by_cases h1 : 16 * j + i < N
  · have h2 : 16 * j + i < m := by omega
    simp [h1, h2]
  · simp [h1]
/-- a block more is a step more -/
theorem hsh_more (h F a : Bf) (m : Nat) (hm : m % 16 = 0) (c : Bf) (hc : ∀ i, i < m + 16 → c i = if i < m then F i else a (i - m)) : hshF h c (m + 16) = gmF (xorF (hshF h F m) a) h := by
  unfold hshF
  rw [show (m + 16 + 15) / 16 = m / 16 + 1 by omega, show (m + 15) / 16 = m / 16 by omega]
  simp only [hshT]
  have e : hshT h c (m + 16) (m / 16) = hshT h F m (m / 16) := hshT_congr _ fun j hj i hi => by
    unfold grp
    rw [if_pos (by omega), if_pos (by omega), hc _ (by omega), if_pos (by omega)]
  rw [e]
  refine gmF_congr (fun k hk => ?_) (fun _ _ => rfl)
  unfold xorF grp
  rw [if_pos (by omega), hc _ (by omega), if_neg (by omega), show 16 * (m / 16) + k - m = k by omega]
def slLen : Value → Nat
  | .slice _ n _ => n
  | _ => 0

/-- what is known of the world on the way through Hash: y lies in the third block -/
structure HsInv (w : World) (f y : Bf) (wr : World) : Prop where
  below : Below w.heap.size w wr
  size : w.heap.size + 3 ≤ wr.heap.size
  r0 : row wr w.heap.size = some (ba 16 f)
  r1 : row wr (w.heap.size + 1) = some (ba 16 fun _ => 0#8)
  r2 : row wr (w.heap.size + 1 + 1) = some (ba 16 y)
theorem HsInv.call {w : World} {f y : Bf} {wr w' : World} (h : HsInv w f y wr) (hb : Below wr.heap.size wr w') : HsInv w f y w' :=
  ⟨onto h.below (by have := h.size; omega) hb, Nat.le_trans h.size hb.size, carry hb h.r0, carry hb h.r1, carry hb h.r2⟩
theorem HsInv.put {w : World} {f y : Bf} {wr : World} (h : HsInv w f y wr) (y' : Bf) : HsInv w f y' (wr.setRow (w.heap.size + 1 + 1) (ba 16 y')) :=
  ⟨below_setRow h.below (by omega) _, by simpa using h.size, by rw [row_setRow_other _ _ _ _ (by omega)]; exact h.r0, by rw [row_setRow_other _ _ _ _ (by omega)]; exact h.r1, row_setRow h.r2 _⟩

set_option maxRecDepth 20000 in
set_option maxHeartbeats 4000000 in
theorem bhash_any (f b : Bf) (n c : Nat) (A : Option Addr) (w : World) (hs : Sl w w.heap.size A n c b) :
    Calls Try.prog 32 #[.agg (ba 16 f), .slice A n c] w fun e w' => e = .returned (.agg (ba 16 (hshF f b n))) ∧ Below w.heap.size w w' := by
  have X0 : HsInv w f nF (((w.alloc (.cells (ba 16 f) 35)).alloc (.cells (ba 16 fun _ => 0#8) 35)).alloc (.cells (ba 16 fun _ => 0#8) 35)) :=
    ⟨(((Below.refl _ _).alloc (by simp) _).alloc (by simp) _).alloc (by simp; omega) _, by simp, by simp [go_sem], by simp [go_sem], by simp [go_sem]; rfl⟩
  have HX0 := Lib.hid X0
  have HS := Lib.hid hs
  clear X0 hs
  go_enter Try.func32, Try.ntmps32
  go_wp2
  go_loopw [1] (fun v wr => ∃ j : Nat, ∃ A' : Option Addr, ∃ c' : Nat, j ≤ (n + 15) / 16 ∧ v = .slice A' (n - 16 * j) c' ∧ Sl wr w.heap.size A' (n - 16 * j) c' (offF b (16 * j)) ∧ HsInv w f (hshT f b n j) wr) (fun v _ => slLen v)
  case atStart => exact ⟨0, A, c, by omega, rfl, by rw [Nat.mul_zero, offF_zero]; exact HS.out.below HX0.out.below, HX0.out⟩
  case round =>
    clear HX0 HS
    obtain ⟨j, A', c', hj, rfl, hs, hI⟩ := hrel
    obtain ⟨wo, rfl⟩ : ∃ wo : World, wo = wr := ⟨_, rfl⟩
    obtain ⟨r, hr⟩ : ∃ r, r = n - 16 * j := ⟨_, rfl⟩
    rw [← hr]
    rw [← hr] at hs
    have HR := Lib.hid hr
    have HS := Lib.hid hs
    have HI := Lib.hid hI
    clear hr hs hI
    rcases Nat.eq_zero_or_pos r with rfl | hpos
    · have r1 := HI.out.r1
      have r2 := HI.out.r2
      have HV := Lib.hid (show hshT f b n j = hshF f b n by unfold hshF; congr 1; have := HR.out; omega)
      rw [HV.out] at r2
      have hd : decide ((0 : Int) < 0) = false := by decide
      go_wp2_with fail
      refine bodyPost_ret (v := .agg (ba 16 (hshF f b n))) (res_row rfl _ _ (w.heap.size + 1) _ _ _ rfl (row_setRow r1 _) blk_u (by rw [ba_size]; exact blk_i)) rfl ⟨rfl, ?_⟩
      exact below_setRow HI.out.below (by omega) _
    · have hd : decide ((0 : Int) < (r : Int)) = true := by simp; omega
      obtain ⟨m, hm⟩ : ∃ m, m = min r 16 := ⟨_, rfl⟩
      have HM := Lib.hid hm
      have hfrom := run_from sli_u u8_i A' r c' m (by omega)
      have H2 := Lib.hid (HI.out.call ((Below.refl _ _).alloc (Nat.le_refl _) (.cells (ba 16 (grp b n (16 * j))) 35)))
      have HC := Lib.hid (HS.out.from_ m (by omega))
      clear hm
      go_wp2_with (refine wpl_copy rfl (.tmp 11) (.tmp 12) 26 26 5 rfl sli_u u8_i (row_alloc_at _ _ _ _ rfl) (HS.out.below ((Below.refl _ _).alloc (by have := HI.out.size; omega) _)) HM.out rfl rfl ?_)
      rw [grp_ba b n j m (by rw [HM.out, HR.out])]
      have rg : row (wo.alloc (.cells (ba 16 (grp b n (16 * j))) 35)) wo.heap.size = some (ba 16 (grp b n (16 * j))) := row_alloc_at _ _ _ _ rfl
      have HC2 := Lib.hid (HC.out.below ((Below.refl w.heap.size wo).alloc (by have := HI.out.size; omega) (.cells (ba 16 (grp b n (16 * j))) 35)))
      clear HC HS
      generalize wo.alloc (.cells (ba 16 (grp b n (16 * j))) 35) = w1 at H2 rg HC2 ⊢
      have q0 := After.row H2.out.r0
      have q2 := After.row H2.out.r2
      have qg := After.row rg
      clear rg hd
      obtain ⟨y, hy⟩ : ∃ y, y = hshT f b n j := ⟨_, rfl⟩
      obtain ⟨x, hx⟩ : ∃ x, x = grp b n (16 * j) := ⟨_, rfl⟩
      rw [← hy] at q2
      rw [← hx] at qg
      have HY := Lib.hid hy
      have HXX := Lib.hid hx
      clear hy hx
      refine seen_tail 0 5 (by kernel_rfl) (by kernel_rfl) (fun _ _ _ _ _ h => h) ?_
      simp only [List.take_succ_cons, List.take_zero, List.drop_succ_cons, List.drop_zero]
      repeat (go_big_quiet_step ((first | (go_at_call 21; refine After.call _ (bxor_any y x _)) | (go_at_call 45; refine After.call _ (bmul_any (xorF y x) f _)))))
      refine wpQuiet_nil ?_
      rintro _ ⟨z, rfl⟩
      have H3 := Lib.hid ((H2.out.call z.below).put (hshT f b n (j + 1)))
      have HC3 := Lib.hid (HC2.out.below (by have := H2.out.size; exact (z.below.mono (by omega))))
      have HV := Lib.hid (show gmF (xorF y x) f = hshT f b n (j + 1) by rw [HY.out, HXX.out]; rfl)
      clear q0 qg
      go_wp2_with fail
      have e16 : r - m = n - 16 * (j + 1) := by have := HR.out; have := HM.out; omega
      have HE := Lib.hid e16
      have HF := Lib.hid (HC3.out.congr (b' := offF b (16 * (j + 1))) fun i hi => by
        have := HR.out; have := HM.out
        unfold offF; congr 1; omega)
      have HJ := Lib.hid (show j + 1 ≤ (n + 15) / 16 by have := HR.out; omega)
      have hmp : 0 < m := by have := HM.out; omega
      clear e16 hfrom q2
      go_roundw
      case rel =>
        rw [HE.out] at HF ⊢
        rw [HV.out]
        exact ⟨j + 1, _, _, HJ.out, rfl, HF.out.below (below_setRow (Below.refl _ _) (by omega) _), H3.out⟩
      case measure => simp only [slLen]; omega

theorem upto_grp (b : Bf) (n o k : Nat) (h : ¬ (k < 16 ∧ o + k < n)) : ba 16 (upto k (grp b n o) nF) = ba 16 (grp b n o) := ba_ext fun i hi => by
  unfold upto
  by_cases hk : i < k
  · rw [if_pos hk]
  · rw [if_neg hk]; unfold grp nF; rw [if_neg (by omega)]
set_option maxRecDepth 20000 in
set_option maxHeartbeats 4000000 in
theorem rbhash_any (f b : Bf) (n c : Nat) (A : Option Addr) (w : World) (hs : Sl w w.heap.size A n c b) (hn : n ≤ 140737488355328) :
    Calls Try.prog 36 #[.agg (ba 16 f), .slice A n c] w fun e w' => e = .returned (.agg (ba 16 (hshF f b n))) ∧ Below w.heap.size w w' := by
  have X0 : HsInv w f nF (((w.alloc (.cells (ba 16 f) 35)).alloc (.cells (ba 16 fun _ => 0#8) 35)).alloc (.cells (ba 16 fun _ => 0#8) 35)) :=
    ⟨(((Below.refl _ _).alloc (by simp) _).alloc (by simp) _).alloc (by simp; omega) _, by simp, by simp [go_sem], by simp [go_sem], by simp [go_sem]; rfl⟩
  have HX0 := Lib.hid X0
  have HS := Lib.hid hs
  clear X0 hs
  go_enter Try.func36, Try.ntmps36
  go_wp2
  go_loopw [6, 8] (fun v _ wr => ∃ j i : Nat, i = 16 * j ∧ j ≤ (n + 15) / 16 ∧ v = .int .i64 i ∧ HsInv w f (hshT f b n j) wr) (fun v _ _ => n + 15 - (intOf v).toNat)
  case atStart => exact ⟨0, 0, rfl, by omega, rfl, HX0.out⟩
  case round =>
    clear HX0
    obtain ⟨j, i, hi, hj, rfl, hI⟩ := hrel
    obtain ⟨wo, rfl⟩ : ∃ wo : World, wo = wr := ⟨_, rfl⟩
    have HI := Lib.hid hI
    have HIJ := Lib.hid hi
    have hib : i ≤ n + 15 := by omega
    clear hi hI
    by_cases hlt : i < n
    · have hd : decide ((i : Int) < (n : Int)) = true := by simp; omega
      have H2 := Lib.hid (HI.out.call ((Below.refl _ _).alloc (Nat.le_refl _) (.cells (ba 16 (grp b n i)) 35)))
      go_wp2_with fail
      go_loopw [8] (fun v wr => ∃ k : Nat, k ≤ 16 ∧ v = .int .i64 k ∧ wr = wo.alloc (.cells (ba 16 (upto k (grp b n i) nF)) 35)) (fun v _ => 16 - (intOf v).toNat)
      case atStart => exact ⟨0, by omega, rfl, by rw [upto_zero]; rfl⟩
      case round =>
        obtain ⟨k, hk, rfl, rfl⟩ := hrel
        by_cases hin : k < 16 ∧ i + k < n
        · obtain ⟨hk16, hikn⟩ := hin
          have d1 : decide ((k : Int) < 16) = true := by simp; omega
          have d2 : decide ((i : Int) + (k : Int) < (n : Int)) = true := by simp; omega
          obtain ⟨g, o, hA, hg, hcell⟩ := HS.out.at_ (by omega)
          subst hA
          have hc := hcell (i + k) hikn
          rw [← HI.out.below.cell (p := ⟨g, o + (i + k), none⟩) hg] at hc
          have hgw : g < wo.heap.size := by have := HI.out.size; omega
          have HST := Lib.hid (show upd (upto k (grp b n i) nF) k (b (i + k)) = upto (k + 1) (grp b n i) nF by
            rw [← upto_step]; congr 1; unfold grp; rw [if_pos hikn])
          clear hcell
          go_wp2_with fail
          go_roundw
          case rel => exact ⟨k + 1, by omega, by go_num, by rw [HST.out]⟩
          case measure => simp [intOf]; omega
        · have HV := Lib.hid (upto_grp b n i k hin)
          have hcases : (decide ((k : Int) < 16) = false) ∨ (decide ((k : Int) < 16) = true ∧ decide ((i : Int) + (k : Int) < (n : Int)) = false) := by
            simp only [decide_eq_false_iff_not, decide_eq_true_eq]; omega
          clear hin
          rcases hcases with d1 | ⟨d1, d2⟩
          all_goals
            go_wp2_with fail
            rw [HV.out]
            have rg : row (wo.alloc (.cells (ba 16 (grp b n i)) 35)) wo.heap.size = some (ba 16 (grp b n i)) := row_alloc_at _ _ _ _ rfl
            have H5 := H2
            clear H2 HI
            generalize hw1 : wo.alloc (.cells (ba 16 (grp b n i)) 35) = w1 at H5 rg ⊢
            clear hw1
            have q0 := After.row H5.out.r0
            have q2 := After.row H5.out.r2
            have qg := After.row rg
            clear rg
            obtain ⟨y, hy⟩ : ∃ y, y = hshT f b n j := ⟨_, rfl⟩
            obtain ⟨x, hx⟩ : ∃ x, x = grp b n i := ⟨_, rfl⟩
            rw [← hy] at q2
            rw [← hx] at qg
            have HY := Lib.hid hy
            have HXX := Lib.hid hx
            clear hy hx
            refine seen_tail 0 5 (by kernel_rfl) (by kernel_rfl) (fun _ _ _ _ _ h => h) ?_
            simp only [List.take_succ_cons, List.take_zero, List.drop_succ_cons, List.drop_zero]
            repeat (go_big_quiet_step ((first | (go_at_call 35; refine After.call _ (rbxor_any y x _)) | (go_at_call 46; refine After.call _ (rbmul_any (xorF y x) f _)))))
            refine wpQuiet_nil ?_
            rintro _ ⟨z, rfl⟩
            have H3 := Lib.hid ((H5.out.call z.below).put (hshT f b n (j + 1)))
            have HV2 := Lib.hid (show gmF (xorF y x) f = hshT f b n (j + 1) by rw [HY.out, HXX.out, HIJ.out]; rfl)
            clear q0 qg
            go_wp2_with fail
            go_roundw
            case rel => exact ⟨j + 1, i + 16, by rw [HIJ.out]; omega, by have := HIJ.out; omega, by go_num, by rw [HV2.out]; exact H3.out⟩
            case measure => simp [intOf]; omega
    · have hd : decide ((i : Int) < (n : Int)) = false := by simp; omega
      have r1 := HI.out.r1
      have r2 := HI.out.r2
      have HV := Lib.hid (show hshT f b n j = hshF f b n by unfold hshF; congr 1; have := HIJ.out; omega)
      rw [HV.out] at r2
      go_wp2_with fail
      refine bodyPost_ret (v := .agg (ba 16 (hshF f b n))) (res_row rfl _ _ (w.heap.size + 1) _ _ _ rfl (row_setRow r1 _) blk_u (by rw [ba_size]; exact blk_i)) rfl ⟨rfl, ?_⟩
      exact below_setRow HI.out.below (by omega) _
end Go.Proofs.Ytokhldihfbaeoaa.Oct
