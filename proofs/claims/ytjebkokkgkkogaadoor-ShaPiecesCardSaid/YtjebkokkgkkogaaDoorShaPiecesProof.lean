/- The statement ShaPieces: the law strongroomlaw05.ShaPieces answers true for every input, and leaves its arguments as they were. Condition: the package variable sha.roundConstants reads at the call as the text of the program lays it; the card ties that. -/
import Derived.Test.YtjebkokkgkkogaaDoorRows
import Derived.Test.YtjebkokkgkkogaaDoorLib
import Derived.Test.YtjebkokkgkkogaaDoorShaS
import Derived.Test.YtjebkokkgkkogaaDoorShaJ
import Derived.Test.YtjebkokkgkkogaaDoorShaM
import Derived.Test.YtjebkokkgkkogaaDoorTab
import Derived.Test.YtjebkokkgkkogaaDoorCards
import Derived.Test.YtjebkokkgkkogaaDoorTie
import Derived.SevenTiedAt
namespace Go.Proofs.YtjebkokkgkkogaaDoor.shaPieces
open Go.ChangeShapes Go.WideShapes Go.ChangeAt Go.RowKit
open Go.Proofs.YtjebkokkgkkogaaDoor.Oct
set_option linter.unusedVariables false

theorem own : ownKnob Tryd.prog.godebug = none := by kernel_rfl
theorem laidOut : laidOutB Tryd.prog = true := by kernel_rfl

theorem len_byte (N s : Nat) : (8 * (N : Int)) / (2 : Int) ^ (8 * s) % 256 = I (BitVec.ofNat 8 (8 * N / 256 ^ s)) := by
  rw [← I_ofN]
  congr 1
  rw [Int.natCast_ediv, Int.natCast_mul, show (256 : Nat) ^ s = 2 ^ (8 * s) by rw [Nat.pow_mul], Int.natCast_pow]
  rfl
/-- what is known of the world while the pieces are pressed -/
structure PcInv (w1 w5 : World) (b : Bf) (N j : Nat) (wr : World) : Prop where
  b1 : Below w1.heap.size w1 wr
  b5 : Below w5.heap.size w5 wr
  rp : row wr w5.heap.size = some (wa 8 (hst kF iF (msg b N) j))
set_option maxRecDepth 20000 in
set_option maxHeartbeats 4000000 in
theorem walk (a0 : Nat → BitVec 8) (n0 c0 : Nat) (A0 : Option Addr) (w : World) (hs0 : Sl w w.heap.size A0 n0 c0 a0) (hm0 : c0 ≤ maxLen) (htab : Tab w) :
    Calls Tryd.prog 5 #[.slice A0 n0 c0] w fun e w' => e = .returned (.bool true) ∧ Below w.heap.size w w' := by
  unfold maxLen at hm0
  have HT := Lib.hid htab
  have HS0 := Lib.hid hs0
  have hn0 : n0 ≤ c0 := hs0.le
  clear hs0 htab
  go_enter Tryd.func5, Tryd.ntmps5
  go_wp2_with fail
  refine (shown_any _ HT.out).mono ?_
  rintro e w1 ⟨rfl, hb1⟩
  have B1 := Lib.hid hb1
  have HT1 := Lib.hid (HT.out.below hb1 HT.out.pos)
  clear hb1
  have hcut : ∃ N, N ≤ 3000 ∧ N ≤ n0 ∧ ((3000 < n0 ∧ N = 3000) ∨ (n0 ≤ 3000 ∧ N = n0)) := ⟨min n0 3000, by omega, by omega, by omega⟩
  obtain ⟨N, hN, hNn, hcase⟩ := hcut
  have HS1 := Lib.hid ((HS0.out.below B1.out).upto N hNn)
  have HOE := Lib.hid (Own.empty w1 w1.heap.size 5 nF (Nat.le_refl _))
  have HSA := Lib.hid (HS1.out.below ((Below.refl w.heap.size w1).alloc B1.out.size (.cells #[] 5)))
  rcases hcase with ⟨hlt, hN2⟩ | ⟨hlt, rfl⟩
  case' inl =>
    have hd : decide ((3000 : Int) < (n0 : Int)) = true := by simp; omega
    have hup := run_upto sli_u u8_i A0 n0 c0 N (by omega)
    rw [show ((N : Nat) : Int) = 3000 by omega] at hup
    clear hN2
  case' inr =>
    have hd : decide ((3000 : Int) < (N : Int)) = false := by simp; omega
  all_goals
    go_wp2_with (at_builtin; first | (refine wpl_appB rfl (.tmp 18) (.tmp 19) rfl sli_u u8_info HOE.out HSA.out (by omega) (by simp) rfl rfl ?_; intro v' w2 ho hg ht; rw [catF_zero, Nat.zero_add] at ho; unfold Own at ho; rw [msg_head] at ho; have B2 := Lib.hid (HOE.out.after hg ((Below.refl w1.heap.size w1).alloc (Nat.le_refl _) _) (by simp) (Nat.le_refl _)); have HO2 := Lib.hid ho; clear ho hg ht) | (refine wpl_appOne rfl (.tmp 20) (.tmp 21) rfl sli_u u8_info rfl (by decide) HO2.out rfl (by omega) B2.out.size rfl rfl ?_; intro v2 w3 ho3 hg3))
    rw [show (Value.int .u8 128) = .int .u8 (I (msg a0 N N)) by rw [msg_mark]; rfl] at ho3 hg3
    rw [msg_more] at ho3
    have B3 := Lib.hid (ownsRow_after (HO2.out.alloc (.cells #[.int .u8 (I (msg a0 N N))] 5)) hg3 (B2.out.alloc B2.out.size _) (by have := B2.out.size; simp; omega) (Nat.le_refl _))
    have HO3 := Lib.hid ho3
    have HSB := Lib.hid HS1.out
    clear ho3 hg3 HO2 B2 HOE HSA hd HS0
    try clear hup
    have hnb := nbk_bd N
    go_loopw [4] (fun mv wr => ∃ k : Nat, N + 1 ≤ k ∧ k ≤ 64 * nbk N - 8 ∧ wr.ownsRow w1.heap.size 5 1 mv k (ba k (msg a0 N)).toList ∧ Below w1.heap.size w1 wr) (fun mv _ => 64 * nbk N - slN mv)
    case' atStart => exact ⟨N + 1, by omega, by omega, HO3.out, B3.out⟩
    case' round =>
      clear HO3 B3
      obtain ⟨k, hk1, hk2, hO, hB⟩ := hrel
      obtain ⟨A, c, hv, hsl, -⟩ := msg_sl hO
      subst hv
      have HO := Lib.hid hO
      have HB := Lib.hid hB
      have HSL := Lib.hid hsl
      clear hO hB hsl
      by_cases h56 : k % 64 = 56
      · have hq : (k : Int) % 64 = 56 := by omega
        have HKK := Lib.hid (show k = 64 * nbk N - 8 by omega)
        go_wp2_with fail
        have HO5 := Lib.hid (show wr.ownsRow w1.heap.size 5 1 (.slice A k c) (64 * nbk N - 8) (ba (64 * nbk N - 8) (msg a0 N)).toList by have h := HO.out; rw [HKK.out] at h ⊢; exact h)
        clear HSL HO hq h56
        go_loopw [4, 5] (fun mv iv wr => ∃ i : Nat, i ≤ 8 ∧ iv = .int .i64 ((i : Int) - 1) ∧ wr.ownsRow w1.heap.size 5 1 mv (64 * nbk N - i) (ba (64 * nbk N - i) (msg a0 N)).toList ∧ Below w1.heap.size w1 wr) (fun _ iv _ => (intOf iv + 1).toNat)
        case' atStart => exact ⟨8, by omega, rfl, HO5.out, HB.out⟩
        case' round =>
          clear HO5 HB
          obtain ⟨i, hi, rfl, hO, hB⟩ := hrel
          obtain ⟨A, c, hv, hsl, -⟩ := msg_sl hO
          subst hv
          have HO := Lib.hid hO
          have HB := Lib.hid hB
          have HSL := Lib.hid hsl
          clear hO hB hsl
          rcases i with _ | s
          · have hd : decide ((0 : Int) ≤ ((0 : Nat) : Int) - 1) = false := by decide
            rw [Nat.sub_zero] at HO HSL ⊢
            obtain ⟨L, hL⟩ : ∃ L, L = 64 * nbk N := ⟨_, rfl⟩
            rw [← hL] at HO HSL ⊢
            go_wp2_with fail
            refine (seconds_any _).mono ?_
            rintro e w5 ⟨rfl, hb5⟩
            have HS5 := Lib.hid ((HSL.out.below hb5).more hb5.size)
            have B5 := Lib.hid (onto HB.out HB.out.size hb5)
            have J0 := Lib.hid (show PcInv w1 w5 a0 N 0 (w5.alloc (.cells (wa 8 iF) 29)) from ⟨B5.out.alloc B5.out.size _, (Below.refl _ _).alloc (Nat.le_refl _) _, row_alloc_at _ _ _ _ rfl⟩)
            have HLL := Lib.hid hL
            have hLb : L ≤ 4000 := by omega
            clear hb5 HSL HO HB hL hd
            go_wp2_with fail
            obtain ⟨w6, hw6⟩ : ∃ w6, w6 = w5.alloc (.cells (wa 8 iF) 29) := ⟨_, rfl⟩
            rw [← hw6] at J0 ⊢
            clear hw6
            go_loopw [7, 8, 9] (fun iv _ _ wq => ∃ j i : Nat, i = 64 * j ∧ i ≤ L ∧ iv = .int .i64 i ∧ PcInv w1 w5 a0 N j wq) (fun iv _ _ _ => L - (intOf iv).toNat)
            case' atStart => exact ⟨0, 0, rfl, by omega, rfl, J0.out⟩
            case' round =>
              clear J0
              obtain ⟨j, i, hij, hiL, rfl, hI⟩ := hrel
              obtain ⟨wq, rfl⟩ : ∃ wq : World, wq = wr := ⟨_, rfl⟩
              have HI := Lib.hid hI
              have HIJ := Lib.hid hij
              obtain ⟨S, hS⟩ : ∃ S, S = hst kF iF (msg a0 N) j := ⟨_, rfl⟩
              have rp := hI.rp
              rw [← hS] at rp
              have HSS := Lib.hid hS
              clear hI hS hij
              by_cases hlt2 : i < L
              · have hd : decide ((i : Int) < (L : Int)) = true := by simp; omega
                have hiL2 : i + 64 ≤ L := by have := HLL.out; have := HIJ.out; omega
                obtain ⟨g, o, hA, hg, hcell⟩ := (HS5.out.below HI.out.b5).at_ (by omega)
                subst hA
                have hgw : g < wq.heap.size := by have := HI.out.b5.size; omega
                have HC := Lib.hid hcell
                have RP := Lib.hid rp
                clear hcell rp
                go_wp2_with fail
                go_loopw [9] (fun kv wz => ∃ k : Nat, k ≤ 64 ∧ kv = .int .i64 k ∧ wz = wq.alloc (.cells (ba 64 (upto k (offF (msg a0 N) i) fun _ => 0#8)) 30)) (fun kv _ => 64 - (intOf kv).toNat)
                case' atStart => exact ⟨0, by omega, rfl, by rw [upto_zero]⟩
                case' round =>
                  obtain ⟨k, hk, rfl, rfl⟩ := hrel
                  by_cases hlk : k < 64
                  · have hdk : decide ((k : Int) < 64) = true := by simp; omega
                    have hc := HC.out (i + k) (by omega)
                    have hik : i + k < L := by omega
                    have HST := Lib.hid (show upd (upto k (offF (msg a0 N) i) fun _ => 0#8) k (msg a0 N (i + k)) = upto (k + 1) (offF (msg a0 N) i) fun _ => 0#8 by rw [← upto_step]; rfl)
                    go_wp2_with fail
                    go_roundw
                    case rel => exact ⟨k + 1, by omega, by go_num, by rw [HST.out]⟩
                    case measure => simp [intOf]; omega
                  · obtain rfl : k = 64 := by omega
                    rw [upto_all]
                    have rp := RP.out
                    have hps : w5.heap.size < wq.heap.size := row_lt rp
                    go_wp2_with fail
                    refine (press_any S (offF (msg a0 N) i) _ ((HT1.out.below HI.out.b1 HT1.out.pos).alloc _)).mono ?_
                    rintro e w7 ⟨rfl, hb7⟩
                    have rp7 := carry hb7 (row_alloc RP.out _)
                    have hbx := ((Below.refl wq.heap.size wq).alloc (Nat.le_refl _) (.cells (ba 64 (offF (msg a0 N) i)) 30)).trans (hb7.mono (by simp))
                    have J7 := Lib.hid (show PcInv w1 w5 a0 N (j + 1) (w7.setRow w5.heap.size (wa 8 (hst kF iF (msg a0 N) (j + 1)))) from ⟨below_setRow (onto HI.out.b1 HI.out.b1.size hbx) B5.out.size _, below_setRow (onto HI.out.b5 HI.out.b5.size hbx) (Nat.le_refl _) _, row_setRow rp7 _⟩)
                    have HV := Lib.hid (show prF kF S (offF (msg a0 N) i) = hst kF iF (msg a0 N) (j + 1) by rw [HSS.out, HIJ.out]; rfl)
                    clear hb7 hbx rp
                    go_wp2_with fail
                    rw [HV.out]
                    go_roundw
                    case rel => exact ⟨j + 1, i + 64, by have := HIJ.out; omega, hiL2, by go_num, J7.out⟩
                    case measure => simp [intOf]; omega
              · have hd : decide ((i : Int) < (L : Int)) = false := by simp; omega
                have hjn : j = nbk N := by have := HLL.out; have := HIJ.out; omega
                have hps : w5.heap.size < wq.heap.size := row_lt rp
                have RP := Lib.hid rp
                clear rp
                go_wp2_with fail
                go_loopw [11] (fun kv wz => ∃ k : Nat, k ≤ 32 ∧ kv = .int .i64 k ∧ wz = wq.alloc (.cells (ba 32 (upto k (outF S) fun _ => 0#8)) 25)) (fun kv _ => 32 - (intOf kv).toNat)
                case' atStart => exact ⟨0, by omega, rfl, by rw [upto_zero]⟩
                case' round =>
                  obtain ⟨k, hk, rfl, rfl⟩ := hrel
                  by_cases hlk : k < 32
                  · have hdk : decide ((k : Int) < 32) = true := by simp; omega
                    have hc : wq.cell? ⟨w5.heap.size, k / 4, none⟩ = some (.int .u32 (M (S (k / 4)))) := by rw [cell_row RP.out, wa_get _ _ _ (by omega)]
                    obtain ⟨s0, hs0⟩ : ∃ s0, s0 = 24 - 8 * (k % 4) := ⟨_, rfl⟩
                    have hs1 : (24 : Int) - 8 * ((k : Int) % 4) = (s0 : Int) := by omega
                    have hby : M (S (k / 4) >>> s0) % 256 = I (outF S k) := by
                      unfold outF
                      rw [← hs0]
                      unfold M I
                      rw [BitVec.toNat_setWidth]
                      omega
                    have hk4 : k / 4 < 8 := by omega
                    have HST := Lib.hid (upto_step k (outF S) fun _ => 0#8)
                    clear hs0
                    go_wp2_with fail
                    go_roundw
                    case rel => exact ⟨k + 1, by omega, by go_num, by rw [HST.out]⟩
                    case measure => simp [intOf]; omega
                  · obtain rfl : k = 32 := by omega
                    rw [upto_all]
                    obtain ⟨D, hD⟩ : ∃ D, D = outF S := ⟨_, rfl⟩
                    rw [← hD]
                    have HD := Lib.hid (show D = shaF kF iF a0 N by rw [hD, HSS.out, hjn]; rfl)
                    have rz : row (wq.alloc (.cells (ba 32 D) 25)) wq.heap.size = some (ba 32 D) := row_alloc_at _ _ _ _ rfl
                    have B9 := Lib.hid ((onto B1.out B1.out.size HI.out.b1).alloc (by have := B1.out.size; have := HI.out.b1.size; omega) (.cells (ba 32 D) 25))
                    have b19 := HI.out.b1.alloc HI.out.b1.size (.cells (ba 32 D) 25)
                    clear hD hps
                    obtain ⟨z, hz⟩ : ∃ z, z = wq.heap.size := ⟨_, rfl⟩
                    rw [← hz] at rz
                    obtain ⟨w9, hw9⟩ : ∃ w9, w9 = wq.alloc (.cells (ba 32 D) 25) := ⟨_, rfl⟩
                    rw [← hw9] at rz B9 b19 ⊢
                    rw [← hz]
                    clear hw9 hz
                    have s9 : w.heap.size ≤ w9.heap.size := B9.out.size
                    have HH := Lib.hid (show ∀ x : After w9, Calls Tryd.prog 8 #[.slice A0 N c0] x.val fun e w' => e = .returned (.agg (ba 32 D)) ∧ Below x.val.heap.size x.val w' from fun x => by
                      rw [HD.out]
                      have hb : Below w1.heap.size w1 x.val := onto b19 b19.size x.below
                      exact hash_any a0 N c0 A0 _ (HT1.out.below hb HT1.out.pos) ((HS1.out.below (hb.mono B1.out.size)).more (by have := B1.out.size; have := hb.size; omega)) (by omega))
                    have hx : eqB 32 D D = true := eqB_refl _ _
                    have Q := After.row rz
                    clear rz b19
                    go_wp2_with fail
                    refine seen_region (by kernel_rfl) (by kernel_rfl) ?_
                    repeat (first | rw [hx] | go_big_quiet_step ((go_at_call 8; refine After.call _ (HH.out _))))
                    refine wpQuiet_nil ?_
                    rintro _ ⟨x, rfl⟩
                    have hfin := Lib.hid (onto B9.out s9 x.below)
                    clear Q
                    go_wp2_with fail
                    go_ret
                    exact ⟨rfl, hfin.out⟩
          · rw [show ((s + 1 : Nat) : Int) - 1 = (s : Int) by omega]
            have hd : decide ((0 : Int) ≤ (s : Int)) = true := by simp
            have hkb : 64 * nbk N - (s + 1) ≤ 5000 := by omega
            have hk1 : 64 * nbk N - (s + 1) + 1 = 64 * nbk N - s := by omega
            have hml := Lib.hid (msg_len a0 N s (by omega))
            obtain ⟨K, hK⟩ : ∃ K, K = 64 * nbk N - (s + 1) := ⟨_, rfl⟩
            rw [← hK] at HO HSL hkb hk1 hml ⊢
            clear hK
            have hs8 : s ≤ 7 := by omega
            go_wp2_with (at_builtin; refine wpl_appOne rfl (.tmp 34) (.tmp 42) rfl sli_u u8_info rfl (by decide) HO.out rfl (by omega) HB.out.size rfl rfl ?_; intro v4 w4 ho4 hg4)
            rw [len_byte, ← hml.out] at ho4 hg4
            rw [msg_more] at ho4
            have B4 := Lib.hid (ownsRow_after (HO.out.alloc (.cells #[.int .u8 (I (msg a0 N K))] 5)) hg4 (HB.out.alloc HB.out.size _) (by have := HB.out.size; simp; omega) (Nat.le_refl _))
            rw [hk1] at ho4
            have HO4 := Lib.hid ho4
            obtain ⟨A', c', hv', -, -⟩ := msg_sl ho4
            subst hv'
            clear ho4 hg4
            go_wp2_with fail
            go_roundw
            case rel => exact ⟨s, by omega, rfl, HO4.out, B4.out⟩
            case measure => simp [intOf]
      · have hq : ¬ (k : Int) % 64 = 56 := by omega
        go_wp2_with (at_builtin; refine wpl_appOne rfl (.tmp 27) (.tmp 28) rfl sli_u u8_info rfl (by decide) HO.out rfl (by omega) HB.out.size rfl rfl ?_; intro v4 w4 ho4 hg4)
        rw [show (Value.int .u8 0) = .int .u8 (I (msg a0 N k)) by rw [msg_zero a0 N k (by omega) (by omega)]; rfl] at ho4 hg4
        rw [msg_more] at ho4
        have B4 := Lib.hid (ownsRow_after (HO.out.alloc (.cells #[.int .u8 (I (msg a0 N k))] 5)) hg4 (HB.out.alloc HB.out.size _) (by have := HB.out.size; simp; omega) (Nat.le_refl _))
        have HO4 := Lib.hid ho4
        obtain ⟨A', c', hv', -, -⟩ := msg_sl ho4
        subst hv'
        clear ho4 hg4
        go_wp2_with fail
        go_roundw
        case rel => exact ⟨k + 1, by omega, by omega, HO4.out, B4.out⟩
        case measure => simp only [slN]; omega

set_option maxRecDepth 100000 in
theorem lifted (os : Os) (started : os.Started) (H : Type) (enc : TypeId × Value → H) :
    ReturnsInHanded {} Tryd.checked os 5 .any (fun w args => (Rows.shaPiecesSpec.pre enc Tryd.prog Tryd.f5 [] false w args ∧ laidMetH Tryd.prog laidL w) ∧ sizedMet enc Tryd.prog Tryd.f5 (OpenSpec.ofChange Rows.shaPiecesSpec) false w args) (Rows.shaPiecesSpec.post enc Tryd.prog Tryd.f5 false true false false) := by
  refine returnsInHanded_of_change_and (C := Tryd.checked) (X := fun w _ => laidMetH Tryd.prog laidL w) (fun _ _ _ hh h => h.of_heap hh) own started (by kernel_rfl) Tryd.func5
    (ChangeSpec.witness_shaped (enc := enc) (C := Tryd.checked) (os := os) (X := fun w _ => laidMetH Tryd.prog laidL w) false (World.doorLaid Tryd.prog 14 os) #[.slice none 0 0] 8 rfl (World.shaped_of_RefB (by kernel_rfl) (by kernel_rfl)) (by kernel_rfl) (by kernel_rfl) (by kernel_rfl) (door_met os _)) ?_
  intro W base args ds gs before hval0 hW _ _ hL _
  have hval : ∀ (j : Nat) t v, Tryd.f5.params[j]? = some t → args[j]? = some v → Value.okWide Tryd.prog W .any base t v := hval0
  have hW' := hW
  obtain ⟨p, q, hA0, hV, rfl, hfz, hnd⟩ := hW
  have hA : DataW.TrodAll enc Tryd.prog W 0 (fun _ => true) true Tryd.f5.params.toList args.toList ds p := hA0
  rw [Tryd.params5] at hA hval
  obtain ⟨v0, vs0, d0, ds0, p0, q0, hargs, rfl, rfl, h0, r0⟩ := trodAll_cons hA
  obtain ⟨rfl, rfl, rfl⟩ := trodAll_nil r0
  obtain rfl : args = #[v0] := by cases args; simp_all
  obtain ⟨rfl, rfl⟩ := trodVars_none hV
  have k0 := h0
  have lt0 : ∀ x ∈ p0, x.block < W.heap.size := by obtain ⟨m, hm⟩ := k0; exact DataW.trod_lt m _ _ _ hm
  obtain ⟨A0, n0, c0, a0, rfl, hs0, hm0⟩ := open_sl Tryd.underlying22 Tryd.underlying5 (by kernel_rfl) (hval 0 22 v0 rfl rfl) h0
  clear hA0 hval0
  refine (walk a0 n0 c0 A0 W hs0 hm0 (tab_of hL)).mono fun e W' ⟨he, bel⟩ => ?_
  subst he
  exact ⟨_, rfl, _, _, _, [], _, [], hW', trodAll_mk1 (shut_bool Tryd.underlying4 _), (trodAll_cons_mk (Below.trod laidOut (by kernel_rfl) (of_decide_eq_true (by kernel_rfl)) k0 bel lt0) trodAll_mk0), rfl, bel.frame _, fun h => by cases h⟩

theorem over : Rows.shaPiecesRow.holds Tryd.pinned (OpenSpec.ofChange Rows.shaPiecesSpec) :=
  OpenClaim.holds_of_wide 5 Tryd.f5 rfl rfl rfl rfl rfl rfl rfl ⟨rfl, rfl, rfl, rfl, rfl⟩ rfl rfl rfl rfl rfl (by kernel_rfl) Tryd.func5 (by kernel_rfl)
    (of_decide_eq_true (by kernel_rfl)) (by unfold Func.isWrapper; first | (rw [if_pos (by decide +kernel)]; kernel_rfl) | (rw [if_neg (by decide +kernel)]; exact ⟨rfl, rfl⟩))
    (fun os started H enc _ => lifted os started H enc)

theorem proved : Rows.ShaPiecesCardSaid :=
  Claim7.holds_tied_plain_at .later [] [.data] true (true, "41cab3536d7d8cfc1298a26681f7246bf960c365c55272f18fb8baad2e179fa4") false
    over (fun _ h => by cases h) (by kernel_rfl) (fun _ h => by cases h) shaPieces_row_tie rfl ⟨rfl, rfl⟩ (by kernel_rfl) rfl
    (fun f fn hf hfn => by
      obtain rfl : f = 5 := Option.some.inj ((show Tryd.prog.funcNamed "strongroom/strongroomlaw05.ShaPieces" = some 5 by kernel_rfl).symm.trans hf) |>.symm
      obtain rfl : fn = Tryd.f5 := (Option.some.inj (Tryd.func5.symm.trans hfn)).symm
      exact ⟨by kernel_rfl, fun j t ht => by
        rw [Tryd.params5] at ht
        have hm : t ∈ [22] := by simpa using Array.mem_of_getElem? ht
        have hall : ([22].all fun u => !Tryd.prog.wantsStandIn u) = true := by kernel_rfl
        exact (show Tryd.prog.wantsStandIn t = false by simpa using List.all_eq_true.1 hall t hm)⟩)
    (by kernel_rfl)
#print axioms proved
end Go.Proofs.YtjebkokkgkkogaaDoor.shaPieces
