/- Contract of the reference's Mul: the walk. -/
import Derived.Test.YtokhldihfbaeoaaBlkD
namespace Go.Proofs.Ytokhldihfbaeoaa.Oct
open Go.ChangeShapes Go.WideShapes Go.ChangeAt Go.RowKit

/-- what is known of the world on the way through the reference's Mul: the coefficients c lie in the block of t -/
structure RmInv (w : World) (f g : Bf) (c : Nat → Bool) (wr : World) : Prop where
  below : Below w.heap.size w wr
  size : w.heap.size + 4 ≤ wr.heap.size
  r0 : row wr w.heap.size = some (ba 16 f)
  r1 : row wr (w.heap.size + 1) = some (ba 16 g)
  r2 : row wr (w.heap.size + 1 + 1) = some (ba 16 fun _ => 0#8)
  r3 : row wr (w.heap.size + 1 + 1 + 1) = some (ba 256 (tF c))
theorem RmInv.call {w : World} {f g : Bf} {c : Nat → Bool} {wr w' : World} (h : RmInv w f g c wr) (hb : Below wr.heap.size wr w') : RmInv w f g c w' :=
  ⟨onto h.below (by have := h.size; omega) hb, Nat.le_trans h.size hb.size, carry hb h.r0, carry hb h.r1, carry hb h.r2, carry hb h.r3⟩
theorem RmInv.put {w : World} {f g : Bf} {c : Nat → Bool} {wr : World} (h : RmInv w f g c wr) (c' : Nat → Bool) : RmInv w f g c' (wr.setRow (w.heap.size + 1 + 1 + 1) (ba 256 (tF c'))) :=
  ⟨below_setRow h.below (by omega) _, by simpa using h.size, by rw [row_setRow_other _ _ _ _ (by omega)]; exact h.r0, by rw [row_setRow_other _ _ _ _ (by omega)]; exact h.r1, by rw [row_setRow_other _ _ _ _ (by omega)]; exact h.r2, row_setRow h.r3 _⟩
theorem RmInv.turn {w : World} {f g : Bf} {c : Nat → Bool} {wr : World} (h : RmInv w f g c wr) (m : Nat) (d : Bool) :
    RmInv w f g (updB c m (c m ^^ d)) (wr.setCell ⟨w.heap.size + 1 + 1 + 1, m, none⟩ (.int .u8 (I (tF c m ^^^ b1 d)))) := by
  rw [setCell_row h.r3, ba_set, tF_upd]
  exact h.put _

/- stores into one block of bytes, as rules: the world is this block's whole row -/
theorem rowS1 {w : World} {b n : Nat} {f : Bf} (h : row w b = some (ba n f)) (i : Nat) (v : BitVec 8) : w.setCell ⟨b, i, none⟩ (.int .u8 (I v)) = w.setRow b (ba n (upd f i v)) := by rw [setCell_row h, ba_set]
theorem rowS2 {w : World} {b n : Nat} {f : Bf} (h : row w b = some (ba n f)) (g : Bf) (i : Nat) (v : BitVec 8) : (w.setRow b (ba n g)).setCell ⟨b, i, none⟩ (.int .u8 (I v)) = w.setRow b (ba n (upd g i v)) := by
  rw [rowS1 (row_setRow h _), setRow_setRow]
theorem rowS3 {w : World} {b n : Nat} {f : Bf} (h : row w b = some (ba n f)) (g : Bf) (i : Nat) : (w.setRow b (ba n g)).cell? ⟨b, i, none⟩ = (ba n g)[i]? := cell_row (row_setRow h _) i
theorem rowS4 {w : World} {b n : Nat} {f : Bf} (h : row w b = some (ba n f)) (g : Bf) (i : Nat) : (w.setRow b (ba n g)).frozen? ⟨b, i, none⟩ = false := froz_row (row_setRow h _) i
@[go_sem] theorem I_xor1 (a : BitVec 8) : bits .xor .u8 (I a) 1 = I (a ^^^ 1#8) := I_xor a 1#8

theorem tF_tgl' (c : Nat → Bool) (m : Nat) : (upd
                    (upd (upd (upd (tF c) m (tF c m ^^^ 1#8)) (m + 1) (upd (tF c) m (tF c m ^^^ 1#8) (m + 1) ^^^ 1#8))
                      (m + 2)
                      (upd (upd (tF c) m (tF c m ^^^ 1#8)) (m + 1) (upd (tF c) m (tF c m ^^^ 1#8) (m + 1) ^^^ 1#8)
                          (m + 2) ^^^
                        1#8))
                    (m + 7)
                    (upd (upd (upd (tF c) m (tF c m ^^^ 1#8)) (m + 1) (upd (tF c) m (tF c m ^^^ 1#8) (m + 1) ^^^ 1#8))
                        (m + 2)
                        (upd (upd (tF c) m (tF c m ^^^ 1#8)) (m + 1) (upd (tF c) m (tF c m ^^^ 1#8) (m + 1) ^^^ 1#8)
                            (m + 2) ^^^
                          1#8)
                        (m + 7) ^^^
                      1#8)) = tF (tgl c m) := by
  have h1 : ∀ (f : Bf) v, upd f m v (m + 1) = f (m + 1) := fun f v => if_neg (by omega)
  have h2 : ∀ (f : Bf) v, upd f m v (m + 2) = f (m + 2) := fun f v => if_neg (by omega)
  have h7 : ∀ (f : Bf) v, upd f m v (m + 7) = f (m + 7) := fun f v => if_neg (by omega)
  have h12 : ∀ (f : Bf) v, upd f (m + 1) v (m + 2) = f (m + 2) := fun f v => if_neg (by omega)
  have h17 : ∀ (f : Bf) v, upd f (m + 1) v (m + 7) = f (m + 7) := fun f v => if_neg (by omega)
  have h27 : ∀ (f : Bf) v, upd f (m + 2) v (m + 7) = f (m + 7) := fun f v => if_neg (by omega)
  simp only [h1, h2, h7, h12, h17, h27]
  exact tF_tgl c m
theorem I_shl (v : BitVec 8) (s : Nat) : I v * (2 : Int) ^ s % 256 = I (v <<< s) := by
  unfold I
  rw [BitVec.toNat_shiftLeft, Nat.shiftLeft_eq, Int.natCast_emod, Int.natCast_mul, Int.natCast_pow]
  rfl

set_option maxRecDepth 20000 in
set_option maxHeartbeats 4000000 in
theorem rbmul_any (f g : Bf) (w : World) :
    Calls Try.prog 46 #[.agg (ba 16 f), .agg (ba 16 g)] w fun e w' => e = .returned (.agg (ba 16 (gmF f g))) ∧ Below w.heap.size w w' := by
  have hz : tF (fun _ => false) = fun _ => 0#8 := rfl
  have X0 : RmInv w f g (fun _ => false) ((((w.alloc (.cells (ba 16 f) 35)).alloc (.cells (ba 16 g) 35)).alloc (.cells (ba 16 fun _ => 0#8) 35)).alloc (.cells (ba 256 fun _ => 0#8) 53)) :=
    ⟨((((Below.refl _ _).alloc (by simp) _).alloc (by simp) _).alloc (by simp; omega) _).alloc (by simp; omega) _, by simp, by simp [go_sem], by simp [go_sem], by simp [go_sem], by rw [hz]; simp [go_sem]⟩
  have HX0 := Lib.hid X0
  clear X0 hz
  go_enter Try.func46, Try.ntmps46
  go_wp2
  go_loopw [6, 7] (fun i _ wr => ∃ n : Nat, ∃ c : Nat → Bool, n ≤ 128 ∧ i = .int .i64 n ∧ ev c 255 = gmA (pol f) (pol g) n ∧ RmInv w f g c wr) (fun i _ _ => 128 - (intOf i).toNat)
  case atStart => exact ⟨0, _, by omega, rfl, (by decide : ev (fun _ => false) 255 = 0#128), HX0.out⟩
  case round =>
    clear HX0
    obtain ⟨n, c, hn, rfl, hev, hI⟩ := hrel
    obtain ⟨wo, rfl⟩ : ∃ wo : World, wo = wr := ⟨_, rfl⟩
    have HEV := Lib.hid hev
    have r0 := hI.r0
    have HI := Lib.hid hI
    clear hev hI
    by_cases hlt : n < 128
    · have hd128 : decide ((n : Int) < 128) = true := by simp; omega
      go_wp2_with fail
      refine (rbit_any f n hlt _).mono ?_
      rintro e w2 ⟨rfl, hb2⟩
      have H2 := Lib.hid (HI.out.call hb2)
      clear hb2 r0 HI
      cases hb : fbit f n
      · have HX := Lib.hid (out_off HEV.out hlt hb)
        have hd : (I (b1 false) == 0) = true := by decide
        clear hb
        go_wp2_with fail
        go_roundw
        case rel => exact ⟨n + 1, c, by omega, by go_num, HX.out, H2.out⟩
        case measure => simp [intOf]; omega
      · have hd : (I (b1 true) == 0) = false := by decide
        have HB := Lib.hid hb
        clear hb
        go_wp2_with fail
        go_loopw [7] (fun j wr => ∃ k : Nat, ∃ c : Nat → Bool, k ≤ 128 ∧ j = .int .i64 k ∧ In f g n k c ∧ RmInv w f g c wr) (fun j _ => 128 - (intOf j).toNat)
        case atStart => exact ⟨0, c, by omega, rfl, In.start HEV.out, H2.out⟩
        case round =>
          clear H2 hd
          obtain ⟨k, c, hk, rfl, hin, hI⟩ := hrel
          have HIN := Lib.hid hin
          have r1 := hI.r1
          have r3 := hI.r3
          have HI := Lib.hid hI
          clear hin hI
          by_cases hlk : k < 128
          · have b256 : n + k < 256 := by omega
            have q1 := After.row r1
            have q3 := After.cell r3
            go_wp2_with fail
            refine seen_tail 0 13 (by kernel_rfl) (by kernel_rfl) (fun _ _ _ _ _ h => h) ?_
            simp only [List.take_succ_cons, List.take_zero, List.drop_succ_cons, List.drop_zero]
            repeat (go_big_quiet_step ((refine After.call _ (rbit_any g k hlk _))))
            refine wpQuiet_nil ?_
            rintro _ ⟨x, rfl⟩
            have I3 := HI.out.call x.below
            clear q1 q3 r1 r3 HI
            have c3 := cell_row I3.r3
            have f3 := froz_row I3.r3
            have H4 := Lib.hid (I3.turn (n + k) (fbit g k))
            have HN := Lib.hid (HIN.out.step hlt hlk)
            clear I3
            go_wp2_with fail
            go_roundw
            case rel => exact ⟨k + 1, _, by omega, by go_num, HN.out, H4.out⟩
            case measure => simp [intOf]; omega
          · obtain rfl : k = 128 := by omega
            have HX := Lib.hid (HIN.out.done hlt HB.out)
            clear r1 r3
            go_wp2_with fail
            go_roundw
            case rel => exact ⟨n + 1, c, by omega, by go_num, HX.out, HI.out⟩
            case measure => simp [intOf]; omega
    · obtain rfl : n = 128 := by omega
      clear hlt r0
      rw [show ((128 : Nat) : Int) = 128 from rfl]
      have hd128 : decide ((128 : Int) < 128) = false := by decide
      have HS := Lib.hid (show ev c (128 + 127) = gm (pol f) (pol g) from HEV.out)
      clear HEV
      go_wp2_with fail
      clear hd128
      go_loopw [8] (fun i wr => ∃ n : Nat, ∃ c : Nat → Bool, n ≤ 127 ∧ i = .int .i64 (127 + (n : Int)) ∧ ev c (128 + n) = gm (pol f) (pol g) ∧ RmInv w f g c wr) (fun i _ => (intOf i).toNat)
      case atStart => exact ⟨127, c, by omega, rfl, HS.out, HI.out⟩
      case round =>
        clear HI HS
        obtain ⟨n, c, hn, rfl, hev, hI⟩ := hrel
        have HEV := Lib.hid hev
        have r3 := hI.r3
        have HI := Lib.hid hI
        clear hev hI
        rcases n with _ | m
        · have r2 := HI.out.r2
          have hs : w.heap.size + 1 + 1 + 1 < wr.heap.size := by have := HI.out.size; omega
          have hd : decide ((128 : Int) ≤ 127) = false := by decide
          rw [show (127 + ((0 : Nat) : Int)) = 127 from rfl]
          clear r3
          go_wp2_with fail
          clear hd
          go_loopw [10] (fun i wq => ∃ k : Nat, k ≤ 128 ∧ i = .int .i64 k ∧ ∃ n, wq = (wr.alloc (.cells (ba 16 (byt (ev c k))) 35)).drewN n) (fun i _ => 128 - (intOf i).toNat)
          case atStart => exact ⟨0, by omega, rfl, 0, by rw [show byt (ev c 0) = fun _ => 0#8 from byt_zero]; rfl⟩
          case round =>
            obtain ⟨k, hk, rfl, n, rfl⟩ := hrel
            by_cases hlk : k < 128
            · have c3 := cell_row HI.out.r3
              have HST := Lib.hid (byt_step c k hlk)
              have k8 : k / 8 < 16 := by omega
              have k256 : k < 256 := by omega
              go_wp2_with fail
              refine quiet_tail 15 (by kernel_rfl) (by kernel_rfl) (fun _ _ _ _ _ h => h) ?_
              simp only [List.take_succ_cons, List.take_zero, List.drop_succ_cons, List.drop_zero]
              repeat (go_big_quiet_step (fail))
              refine wpQuiet_nil ?_
              rintro _ ⟨m, rfl⟩
              go_wp2_with fail
              go_roundw
              case rel => exact ⟨k + 1, by omega, by go_num, n + m, by rw [I_shl, I_or, ba_set, HST.out]⟩
              case measure => simp [intOf]; omega
            · obtain rfl : k = 128 := by omega
              have HV := Lib.hid (show byt (ev c 128) = gmF f g by rw [show ev c 128 = gm (pol f) (pol g) from HEV.out]; rfl)
              rw [HV.out]
              have HB := Lib.hid HI.out.below
              have hs2 : w.heap.size + 1 + 1 < wr.heap.size := by omega
              go_wp2_with fail
              refine bodyPost_ret (v := .agg (ba 16 (gmF f g))) (res_row rfl _ _ (w.heap.size + 1 + 1) _ _ _ rfl ((row_drewN _ _ _).trans (row_alloc (row_setRow r2 _) _)) blk_u (by rw [ba_size]; exact blk_i)) rfl ⟨rfl, ?_⟩
              exact below_drewN ((below_setRow HB.out (by omega) _).alloc (by simp; omega) _) _
        · have e1 : (127 + ((m + 1 : Nat) : Int)) = 128 + (m : Int) := by omega
          rw [e1]
          clear e1
          have c3 := cell_row r3
          have b256 : 128 + m < 256 := by omega
          cases hb : c (128 + m)
          · have HX := Lib.hid ((ev_off c m hb).trans HEV.out)
            have hd : (I (tF c (128 + m)) == 1) = false := by unfold tF; rw [hb]; decide
            clear hb r3
            go_wp2_with fail
            go_roundw
            case rel => exact ⟨m, c, by omega, by congr 1; omega, HX.out, HI.out⟩
            case measure => simp [intOf]; omega
          · have HX := Lib.hid ((ev_tgl c m hb).trans HEV.out)
            have hd : (I (tF c (128 + m)) == 1) = true := by unfold tF; rw [hb]; decide
            have f3 := froz_row r3
            have s1 := rowS1 r3
            have s2 := rowS2 r3
            have s3 := rowS3 r3
            have s4 := rowS4 r3
            have b0 : m < 256 := by omega
            have b1 : m + 1 < 256 := by omega
            have b2 : m + 2 < 256 := by omega
            have b7 : m + 7 < 256 := by omega
            have e1 : (128 + (m : Int) - 127).toNat = m + 1 := by omega
            have e2 : (128 + (m : Int) - 126).toNat = m + 2 := by omega
            have e7 : (128 + (m : Int) - 121).toNat = m + 7 := by omega
            have n1 : 128 + m - 127 = m + 1 := by omega
            have n2 : 128 + m - 126 = m + 2 := by omega
            have n7 : 128 + m - 121 = m + 7 := by omega
            clear hb r3
            go_wp2_with fail
            clear s1 s2 s3 s4 e1 e2 e7 n1 n2 n7 c3 f3
            go_roundw
            case rel => exact ⟨m, _, by omega, by congr 1; omega, HX.out, by rw [tF_tgl']; exact HI.out.put _⟩
            case measure => simp [intOf]; omega
end Go.Proofs.Ytokhldihfbaeoaa.Oct
