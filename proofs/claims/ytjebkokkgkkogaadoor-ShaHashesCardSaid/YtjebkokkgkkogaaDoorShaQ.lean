/- Contracts of the reference's Sum and Hash. -/
import Derived.Test.YtjebkokkgkkogaaDoorShaL
import Derived.Test.YtjebkokkgkkogaaDoorShaE
import Derived.Test.YtjebkokkgkkogaaDoorShaM
namespace Go.Proofs.YtjebkokkgkkogaaDoor.Oct
open Go.ChangeShapes Go.WideShapes Go.ChangeAt Go.RowKit
set_option linter.unusedVariables false

theorem len_byte (N s : Nat) : (8 * (N : Int)) / (2 : Int) ^ (8 * s) % 256 = I (BitVec.ofNat 8 (8 * N / 256 ^ s)) := by
  rw [← I_ofN]
  congr 1
  rw [Int.natCast_ediv, Int.natCast_mul, show (256 : Nat) ^ s = 2 ^ (8 * s) by rw [Nat.pow_mul], Int.natCast_pow]
  rfl
theorem run_lh {P : Program} {t u : TypeId} (ht : P.underlying t = some (.slice u)) (hz : (P.info? u).map (·.size) = some 1) (A : Option Addr) (n c k m : Nat) (x y : Int) (hx : x = (k : Int)) (hy : y = ((k + m : Nat) : Int)) (hk : k + m ≤ c) (w : World) : (Instr.slice t (.slice A n c) (some (.int .i64 x)) (some (.int .i64 y)) none).run P w = .ok (.slice (cutA A c k) m (c - k)) w := by
  subst hx; subst hy
  have he : P.elem t = u := by simp [Program.elem, ht]
  rw [run_slice_lh w t A n c (by rw [he]; exact ht) .i64 .i64 (k : Int) ((k + m : Nat) : Int) (by omega) (by omega) (by omega), he, run_size1 hz, Result.andThen_ok]
  simp only [sliced, cutA, Int.toNat_natCast, Nat.add_sub_cancel_left, Nat.mul_one]
/-- what is known of the world in Sum: the table and the result's cell, from block B on only what is named is written -/
structure SmInv (w : World) (v : Value) (wr : World) : Prop where
  below : Below w.heap.size w wr
  rt : row wr w.heap.size = some (tbA v iF)
  r0 : row wr (w.heap.size + 1) = some (ba 32 fun _ => 0#8)
theorem SmInv.call {w : World} {v : Value} {wr w' : World} (h : SmInv w v wr) (hb : Below wr.heap.size wr w') : SmInv w v w' :=
  ⟨onto h.below (by have := row_lt h.r0; omega) hb, carry hb h.rt, carry hb h.r0⟩
theorem SmInv.onto' {w : World} {v : Value} {w2 wr : World} (h : SmInv w v w2) (hb : Below w2.heap.size w2 wr) : SmInv w v wr := h.call hb

set_option maxRecDepth 20000 in
set_option maxHeartbeats 4000000 in
theorem rsum_any (b : Bf) (N c0 cK : Nat) (A0 AK : Option Addr) (w : World) (hs : Sl w w.heap.size A0 N c0 b) (hN : N ≤ 90000) (hK : SlG w w.heap.size AK 64 cK kV) :
    Calls Tryd.prog 17 #[.agg (tbA (.slice AK 64 cK) iF), .slice A0 N c0] w fun e w' => e = .returned (.agg (ba 32 (shaF kF iF b N))) ∧ Below w.heap.size w w' := by
  have hzl : ((w.alloc (.cells (tbA (.slice AK 64 cK) iF) 39)).alloc (.cells (ba 32 fun _ => 0#8) 25)).heap.size = w.heap.size + 1 + 1 := by simp
  have I0 : SmInv w (.slice AK 64 cK) ((w.alloc (.cells (tbA (.slice AK 64 cK) iF) 39)).alloc (.cells (ba 32 fun _ => 0#8) 25)) :=
    ⟨((Below.refl _ _).alloc (by simp) _).alloc (by simp) _, by rw [row_alloc_past _ _ _ (by simp)]; exact row_alloc_at _ _ _ _ rfl, row_alloc_at _ _ _ _ (by simp)⟩
  have HOE0 := Own.empty ((w.alloc (.cells (tbA (.slice AK 64 cK) iF) 39)).alloc (.cells (ba 32 fun _ => 0#8) 25)) _ 5 nF (Nat.le_refl _)
  rw [hzl] at HOE0
  have HOE := Lib.hid HOE0
  have HSA := Lib.hid ((hs.below I0.below).below ((Below.refl w.heap.size _).alloc (by rw [hzl]; omega) (.cells #[] 5)))
  have HS1 := Lib.hid (hs.below I0.below)
  have HI0 := Lib.hid I0
  have HKS := Lib.hid (hK.below I0.below)
  have HZ := Lib.hid hzl
  clear I0 hs hK HOE0 hzl
  go_enter Tryd.func17, Tryd.ntmps17
  go_wp2_with (at_builtin; first | (refine wpl_appB rfl (.tmp 11) (.tmp 12) rfl sli_u u8_info HOE.out HSA.out (by omega) (by simp <;> omega) rfl rfl ?_; intro v' w2 ho hg ht; rw [catF_zero, Nat.zero_add] at ho; unfold Own at ho; rw [msg_head] at ho; have B2 := Lib.hid (HOE.out.after hg ((Below.refl _ _).alloc (Nat.le_refl _) _) (by simp) (Nat.le_of_eq HZ.out)); have HO2 := Lib.hid ho; clear ho hg ht) | (refine wpl_appOne rfl (.tmp 13) (.tmp 14) rfl sli_u u8_info rfl (by decide) HO2.out rfl (by omega) (by have := B2.out.size; have := HZ.out; omega) rfl rfl ?_; intro v2 w3 ho3 hg3))
  rw [show (Value.int .u8 128) = .int .u8 (I (msg b N N)) by rw [msg_mark]; rfl] at ho3 hg3
  rw [msg_more] at ho3
  obtain ⟨w1, hw1⟩ : ∃ w1, w1 = (w.alloc (.cells (tbA (.slice AK 64 cK) iF) 39)).alloc (.cells (ba 32 fun _ => 0#8) 25) := ⟨_, rfl⟩
  rw [← hw1] at B2 HZ HI0 HS1 HKS
  rw [← HZ.out] at HO2 ho3
  clear hw1 HOE HSA
  have B3 := Lib.hid (ownsRow_after (HO2.out.alloc (.cells #[.int .u8 (I (msg b N N))] 5)) hg3 (B2.out.alloc B2.out.size _) (by have := B2.out.size; simp; omega) (Nat.le_refl _))
  have HO3 := Lib.hid ho3
  clear ho3 hg3 HO2 B2
  have hnb := nbk_bd N
  go_loopw [5] (fun mv wr => ∃ k : Nat, N + 1 ≤ k ∧ k ≤ 64 * nbk N - 8 ∧ wr.ownsRow w1.heap.size 5 1 mv k (ba k (msg b N)).toList ∧ Below w1.heap.size w1 wr) (fun mv _ => 64 * nbk N - slN mv)
  case atStart => exact ⟨N + 1, by omega, by omega, HO3.out, B3.out⟩
  case round =>
    clear HO3 B3
    obtain ⟨k, hk1, hk2, hO, hB⟩ := hrel
    obtain ⟨A, c, hv, hsl, -⟩ := msg_sl hO
    subst hv
    have HO := Lib.hid hO
    have HB := Lib.hid hB
    have HSL := Lib.hid hsl
    clear hO hB hsl
    by_cases h56 : k % 64 = 56
    · have hq : (k : Int) % 64 = 56 := by omega
      have HKK := Lib.hid (show k = 64 * nbk N - 8 by omega)
      go_wp2_with fail
      have HO5 := Lib.hid (show wr.ownsRow w1.heap.size 5 1 (.slice A k c) (64 * nbk N - 8) (ba (64 * nbk N - 8) (msg b N)).toList by have h := HO.out; rw [HKK.out] at h ⊢; exact h)
      clear HSL HO hq h56
      go_loopw [5, 6] (fun mv iv wr => ∃ i : Nat, i ≤ 8 ∧ iv = .int .i64 ((i : Int) - 1) ∧ wr.ownsRow w1.heap.size 5 1 mv (64 * nbk N - i) (ba (64 * nbk N - i) (msg b N)).toList ∧ Below w1.heap.size w1 wr) (fun _ iv _ => (intOf iv + 1).toNat)
      case atStart => exact ⟨8, by omega, rfl, HO5.out, HB.out⟩
      case round =>
        clear HO5 HB
        obtain ⟨i, hi, rfl, hO, hB⟩ := hrel
        obtain ⟨A, c, hv, hsl, -⟩ := msg_sl hO
        subst hv
        have HO := Lib.hid hO
        have HB := Lib.hid hB
        have HSL := Lib.hid hsl
        clear hO hB hsl
        rcases i with _ | s
        · have hd : decide ((0 : Int) ≤ -1) = false := by decide
          rw [show ((0 : Nat) : Int) - 1 = (-1 : Int) from rfl]
          rw [Nat.sub_zero] at HO HSL ⊢
          obtain ⟨L, hL⟩ : ∃ L, L = 64 * nbk N := ⟨_, rfl⟩
          rw [← hL] at HO HSL ⊢
          have hI := HI0.out.call HB.out
          have rt := hI.rt
          have HJ := Lib.hid hI
          have HK5 := Lib.hid (((HKS.out.more (by have := HZ.out; omega : w.heap.size ≤ w1.heap.size)).below HB.out).more HB.out.size)
          have J0 := Lib.hid (show Below wr.heap.size wr (wr.alloc (.cells (wa 8 iF) 29)) ∧ row (wr.alloc (.cells (wa 8 iF) 29)) wr.heap.size = some (wa 8 (hst kF iF (msg b N) 0)) from ⟨(Below.refl _ _).alloc (Nat.le_refl _) _, row_alloc_at _ _ _ _ rfl⟩)
          have HLL := Lib.hid hL
          have hLb : L ≤ 91000 := by omega
          have hws : w.heap.size + 1 < wr.heap.size := row_lt hI.r0
          clear hI hL hd HO
          go_wp2_with fail
          clear rt
          obtain ⟨w6, hw6⟩ : ∃ w6, w6 = wr.alloc (.cells (wa 8 iF) 29) := ⟨_, rfl⟩
          rw [← hw6] at J0 ⊢
          clear hw6
          obtain ⟨w5, hw5⟩ : ∃ w5, w5 = wr := ⟨_, rfl⟩
          rw [← hw5] at J0 HJ HK5 HSL HB hws ⊢
          clear hw5
          go_loopw [8] (fun iv wq => ∃ j i : Nat, i = 64 * j ∧ i ≤ L ∧ iv = .int .i64 i ∧ Below w5.heap.size w5 wq ∧ row wq w5.heap.size = some (wa 8 (hst kF iF (msg b N) j))) (fun iv _ => L - (intOf iv).toNat)
          case atStart => exact ⟨0, 0, rfl, by omega, rfl, J0.out.1, J0.out.2⟩
          case round =>
            clear J0
            obtain ⟨j, i, hij, hiL, rfl, hb5, rp⟩ := hrel
            obtain ⟨wq, rfl⟩ : ∃ wq : World, wq = wr := ⟨_, rfl⟩
            have HIJ := Lib.hid hij
            have HB5 := Lib.hid hb5
            have hJq := HJ.out.call hb5
            have HJq := Lib.hid hJq
            obtain ⟨S, hS⟩ : ∃ S, S = hst kF iF (msg b N) j := ⟨_, rfl⟩
            rw [← hS] at rp
            have HSS := Lib.hid hS
            have hps : w5.heap.size < wq.heap.size := row_lt rp
            clear hS hij
            by_cases hlt2 : i < L
            · have hd : decide ((i : Int) < (L : Int)) = true := by simp; omega
              have hiL2 : i + 64 ≤ L := by have := HLL.out; have := HIJ.out; omega
              have hlh := run_lh sli_u u8_i A L c i 64 (i : Int) ((i : Int) + 64) rfl (by omega) (by have := HSL.out.le; omega)
              have kt : wq.cell? ⟨w.heap.size, 0, none⟩ = some (.slice AK 64 cK) := by rw [cell_row hJq.rt, tb_get0]
              have HSX := Lib.hid (((HSL.out.below hb5).from_ i (by omega)).upto 64 (by omega))
              clear hJq hb5
              go_wp2_with fail
              refine quiet_tail 8 (by kernel_rfl) (by kernel_rfl) (fun _ _ _ _ _ h => h) ?_
              simp only [List.take_succ_cons, List.take_zero, List.drop_succ_cons, List.drop_zero]
              repeat (go_big_quiet_step (fail))
              refine wpQuiet_nil ?_
              rintro _ ⟨nq, rfl⟩
              clear hlh kt
              go_wp2_with fail
              refine (presses_any S (offF (msg b N) i) (c - i) 0 cK _ _ 64 _ ((HSX.out.drewN nq).more (by simp; omega)) (Nat.le_refl _) (((HK5.out.below HB5.out).drewN nq).more (by simp; omega))).mono ?_
              rintro e w7 ⟨rfl, hb7⟩
              have hbx := (below_drewN (Below.refl wq.heap.size wq) nq).trans hb7
              have rp7 := carry hb7 (by rw [row_drewN]; exact rp)
              have b7 := Lib.hid (below_setRow (onto HB5.out HB5.out.size hbx) (Nat.le_refl _) (wa 8 (hst kF iF (msg b N) (j + 1))))
              have r7 := Lib.hid (row_setRow rp7 (wa 8 (hst kF iF (msg b N) (j + 1))))
              have HV := Lib.hid (show prF kF S (offF (msg b N) i) = hst kF iF (msg b N) (j + 1) by rw [HSS.out, HIJ.out]; rfl)
              clear hb7 hbx rp
              go_wp2_with fail
              rw [HV.out]
              go_roundw
              case rel => exact ⟨j + 1, i + 64, by have := HIJ.out; omega, hiL2, by go_num, b7.out, r7.out⟩
              case measure => simp [intOf]; omega
            · have hd : decide ((i : Int) < (L : Int)) = false := by simp; omega
              have hjn : j = nbk N := by have := HLL.out; have := HIJ.out; omega
              have RP := Lib.hid rp
              clear rp hJq hb5
              go_wp2_with fail
              go_loopw [10] (fun kv wz => ∃ k : Nat, k ≤ 32 ∧ kv = .int .i64 k ∧ wz = wq.alloc (.cells (ba 32 (upto k (outF S) fun _ => 0#8)) 25)) (fun kv _ => 32 - (intOf kv).toNat)
              case atStart => exact ⟨0, by omega, rfl, by rw [upto_zero]⟩
              case round =>
                obtain ⟨k, hk, rfl, rfl⟩ := hrel
                by_cases hlk : k < 32
                · have hdk : decide ((k : Int) < 32) = true := by simp; omega
                  have hc : wq.cell? ⟨w5.heap.size, k / 4, none⟩ = some (.int .u32 (M (S (k / 4)))) := by rw [cell_row RP.out, wa_get _ _ _ (by omega)]
                  obtain ⟨s0, hs0⟩ : ∃ s0, s0 = 24 - 8 * (k % 4) := ⟨_, rfl⟩
                  have hs1 : (24 : Int) - 8 * ((k : Int) % 4) = (s0 : Int) := by omega
                  have hby : M (S (k / 4) >>> s0) % 256 = I (outF S k) := by
                    unfold outF
                    rw [← hs0]
                    unfold M I
                    rw [BitVec.toNat_setWidth]
                    omega
                  have hk4 : k / 4 < 8 := by omega
                  have HST := Lib.hid (upto_step k (outF S) fun _ => 0#8)
                  clear hs0
                  go_wp2_with fail
                  go_roundw
                  case rel => exact ⟨k + 1, by omega, by go_num, by rw [HST.out]⟩
                  case measure => simp [intOf]; omega
                · obtain rfl : k = 32 := by omega
                  rw [upto_all]
                  obtain ⟨D, hD⟩ : ∃ D, D = outF S := ⟨_, rfl⟩
                  rw [← hD]
                  have HD := Lib.hid (show D = shaF kF iF b N by rw [hD, HSS.out, hjn]; rfl)
                  have r0 := row_alloc HJq.out.r0 (.cells (ba 32 D) 25)
                  have B9 := Lib.hid (HJq.out.below.alloc (by omega) (.cells (ba 32 D) 25))
                  clear hD hps
                  have hws2 : w.heap.size + 1 < wq.heap.size := row_lt HJq.out.r0
                  go_wp2_with fail
                  refine bodyPost_ret (v := .agg (ba 32 D)) (res_row rfl _ _ (w.heap.size + 1) _ _ _ rfl (row_alloc (row_setRow HJq.out.r0 (ba 32 D)) _) sum_u (by rw [ba_size]; exact sum_i)) rfl ⟨by rw [HD.out], ?_⟩
                  exact (below_setRow HJq.out.below (by omega) _).alloc (by simp; omega) _
        · rw [show ((s + 1 : Nat) : Int) - 1 = (s : Int) by omega]
          have hd : decide ((0 : Int) ≤ (s : Int)) = true := by simp
          have hkb : 64 * nbk N - (s + 1) ≤ 91000 := by omega
          have hk1 : 64 * nbk N - (s + 1) + 1 = 64 * nbk N - s := by omega
          have hml := Lib.hid (msg_len b N s (by omega))
          obtain ⟨K, hK⟩ : ∃ K, K = 64 * nbk N - (s + 1) := ⟨_, rfl⟩
          rw [← hK] at HO HSL hkb hk1 hml ⊢
          clear hK
          have hs8 : s ≤ 7 := by omega
          go_wp2_with (at_builtin; refine wpl_appOne rfl (.tmp 27) (.tmp 35) rfl sli_u u8_info rfl (by decide) HO.out rfl (by omega) HB.out.size rfl rfl ?_; intro v4 w4 ho4 hg4)
          rw [len_byte, ← hml.out] at ho4 hg4
          rw [msg_more] at ho4
          have B4 := Lib.hid (ownsRow_after (HO.out.alloc (.cells #[.int .u8 (I (msg b N K))] 5)) hg4 (HB.out.alloc HB.out.size _) (by have := HB.out.size; simp; omega) (Nat.le_refl _))
          rw [hk1] at ho4
          have HO4 := Lib.hid ho4
          obtain ⟨A', c', hv', -, -⟩ := msg_sl ho4
          subst hv'
          clear ho4 hg4
          go_wp2_with fail
          go_roundw
          case rel => exact ⟨s, by omega, rfl, HO4.out, B4.out⟩
          case measure => simp [intOf]
    · have hq : ¬ (k : Int) % 64 = 56 := by omega
      go_wp2_with (at_builtin; refine wpl_appOne rfl (.tmp 20) (.tmp 21) rfl sli_u u8_info rfl (by decide) HO.out rfl (by omega) HB.out.size rfl rfl ?_; intro v4 w4 ho4 hg4)
      rw [show (Value.int .u8 0) = .int .u8 (I (msg b N k)) by rw [msg_zero b N k (by omega) (by omega)]; rfl] at ho4 hg4
      rw [msg_more] at ho4
      have B4 := Lib.hid (ownsRow_after (HO.out.alloc (.cells #[.int .u8 (I (msg b N k))] 5)) hg4 (HB.out.alloc HB.out.size _) (by have := HB.out.size; simp; omega) (Nat.le_refl _))
      have HO4 := Lib.hid ho4
      obtain ⟨A', c', hv', -, -⟩ := msg_sl ho4
      subst hv'
      clear ho4 hg4
      go_wp2_with fail
      go_roundw
      case rel => exact ⟨k + 1, by omega, by omega, HO4.out, B4.out⟩
      case measure => simp only [slN]; omega

set_option maxRecDepth 20000 in
set_option maxHeartbeats 2000000 in
theorem rhash_any (b : Bf) (n c : Nat) (A : Option Addr) (w : World) (hs : Sl w w.heap.size A n c b) (hn : n ≤ 90000) :
    Calls Tryd.prog 9 #[.slice A n c] w fun e w' => e = .returned (.agg (ba 32 (shaF kF iF b n))) ∧ Below w.heap.size w w' := by
  have B0 := Lib.hid ((Below.refl w.heap.size w).alloc (by simp) (.cells (ba 32 fun _ => 0#8) 25))
  have q0 : row (w.alloc (.cells (ba 32 fun _ => 0#8) 25)) w.heap.size = some (ba 32 fun _ => 0#8) := row_alloc_at _ _ _ _ rfl
  have HS := Lib.hid (hs.below B0.out)
  clear hs
  go_enter Tryd.func9, Tryd.ntmps9
  go_wp2_with fail
  refine (make_any _).mono ?_
  rintro e w1 ⟨AK, cK, rfl, hsl, hb1⟩
  have r1 := carry hb1 q0
  have B1 := Lib.hid (onto B0.out (by simp) hb1)
  have HSL := Lib.hid hsl
  have s1 : w.heap.size < w1.heap.size := row_lt r1
  have HS1 := Lib.hid ((HS.out.more (by simp : w.heap.size ≤ (w.alloc (.cells (ba 32 fun _ => 0#8) 25)).heap.size)).below hb1)
  have HR1 := Lib.hid r1
  clear hsl hb1 q0 r1
  go_wp2_with fail
  refine (rsum_any b n c cK A AK _ (HS1.out.more (by simp; omega)) hn HSL.out).mono ?_
  rintro e w2 ⟨rfl, hb2⟩
  have r2 := carry hb2 HR1.out
  have B2 := Lib.hid (onto B1.out (by omega) hb2)
  clear hb2
  go_wp2_with fail
  refine bodyPost_ret (v := .agg (ba 32 (shaF kF iF b n))) (res_row rfl _ _ w.heap.size _ _ _ rfl (row_setRow r2 _) sum_u (by rw [ba_size]; exact sum_i)) rfl ⟨rfl, ?_⟩
  exact below_setRow B2.out (by omega) _
end Go.Proofs.YtjebkokkgkkogaaDoor.Oct
