/- Contract of aes.blocksOf: sixty words are fifteen blocks, byte for byte. -/
import Derived.Test.YtokhldihfbaeoaaAesA
namespace Go.Proofs.Ytokhldihfbaeoaa.Oct
open Go.ChangeShapes Go.WideShapes Go.ChangeAt Go.RowKit

/-- what is known of the world in blocksOf's loops: k bytes are laid -/
structure BoInv (w : World) (f : Bf) (k : Nat) (wr : World) : Prop where
  below : Below w.heap.size w wr
  size : w.heap.size + 3 ≤ wr.heap.size
  res : row wr (w.heap.size + 1) = some (ba 240 fun _ => 0#8)
  out : row wr (w.heap.size + 1 + 1) = some (ba 240 (upto k f fun _ => 0#8))

theorem BoInv.set {w : World} {f : Bf} {c r o : Nat} {wr : World} (h1 : Below w.heap.size w wr) (h2 : w.heap.size + 3 ≤ wr.heap.size) (h3 : row wr (w.heap.size + 1) = some (ba 240 fun _ => 0#8))
    (h4 : row wr (w.heap.size + 1 + 1) = some (ba 240 (upto (4 * c + r) f fun _ => 0#8))) (ho : o = 4 * c + r) :
    BoInv w f (4 * c + (r + 1)) (wr.setCell ⟨w.heap.size + 1 + 1, o, none⟩ (.int .u8 (I (offF f (c * 4) r)))) := by
  subst ho
  refine ⟨h1.setCell (by simp; omega) _, by simpa using h2, by rw [row_setCell_other _ _ _ _ (by simp)]; exact h3, ?_⟩
  rw [row_setCell h4, show offF f (c * 4) r = f (4 * c + r) by unfold offF; rw [Nat.mul_comm], upto_step]
  rfl

set_option maxHeartbeats 1000000 in
theorem blocksOf_any (f : Bf) (w : World) :
    Calls Try.prog 51 #[.agg (ba 240 f)] w fun e w' => e = .returned (.agg (ba 240 f)) ∧ Below w.heap.size w w' := by
  go_enter Try.func51, Try.ntmps51
  go_wp2
  go_loopw [9] (fun i wr => ∃ c : Nat, c ≤ 60 ∧ i = .int .i64 c ∧ BoInv w f (4 * c) wr) (fun i _ => 60 - (intOf i).toNat)
  case atStart =>
    refine ⟨0, by omega, rfl, ((((Below.refl _ _).alloc (by simp) _).alloc (by simp) _).alloc (by simp; omega) _), by simp, ?_, ?_⟩
    · simp [go_sem]
    · rw [Nat.mul_zero, upto_zero]; simp [go_sem]
  case round =>
    obtain ⟨c, hc, rfl, hI⟩ := hrel
    by_cases hlt : c < 60
    · have hd : decide ((c : Int) < 60) = true := by simp; omega
      go_wp2
      have hI0 : BoInv w f (4 * c + 0) (wr.alloc (.cells (ba 4 (offF f (c * 4))) 70)) :=
        ⟨hI.below.alloc (by have := hI.size; omega) _, by have := hI.size; simp; omega, row_alloc hI.res _, row_alloc hI.out _⟩
      go_loopw [6, 7, 14] (fun _ _ j wq => ∃ r : Nat, r ≤ 4 ∧ j = .int .i64 r ∧ BoInv w f (4 * c + r) wq) (fun _ _ j _ => 4 - (intOf j).toNat)
      case atStart => exact ⟨0, by omega, rfl, hI0⟩
      case round =>
        clear hI0 hI
        obtain ⟨r, hr, rfl, hI⟩ := hrel
        by_cases hlr : r < 4
        · obtain ⟨hb, hs, h1, h2⟩ := hI
          have H1 := Lib.hid h1
          have H2 := Lib.hid h2
          have HB := Lib.hid hb
          have hc := cell_row h2
          have hf := froz_row h2
          clear h1 h2 hb
          have b1 : c / 4 * 16 + (c % 4 * 4 + r) < 240 := by omega
          have e1 : c / 4 * 16 + (c % 4 * 4 + r) = 4 * c + r := by omega
          have E1 := Lib.hid e1
          clear e1
          go_wp2
          go_roundw
          case rel => exact ⟨r + 1, by omega, by go_num, BoInv.set HB.out hs H1.out H2.out E1.out⟩
          case measure => simp [intOf]; omega
        · obtain rfl : r = 4 := by omega
          go_wp2
          go_roundw
          case rel => exact ⟨c + 1, by omega, by go_num, hI⟩
          case measure => simp [intOf]; omega
    · obtain rfl : c = 60 := by omega
      obtain ⟨hb, hs, h1, h2⟩ := hI
      rw [show 4 * 60 = 240 from rfl, upto_all] at h2
      have HB := Lib.hid hb
      clear hb
      go_wp2
      refine bodyPost_ret (v := .agg (ba 240 f)) (res_row rfl _ _ (w.heap.size + 1) _ _ _ rfl (row_setRow h1 _) bks_u (by rw [ba_size]; exact bks_i)) rfl ⟨rfl, ?_⟩
      exact below_setRow HB.out (by omega) _
end Go.Proofs.Ytokhldihfbaeoaa.Oct
