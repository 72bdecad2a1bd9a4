/- Contract of block.Mul. -/
import Derived.Test.YtokhldihfbaeoaaBlkB
namespace Go.Proofs.Ytokhldihfbaeoaa.Oct
open Go.ChangeShapes Go.WideShapes Go.ChangeAt Go.RowKit

theorem gmF_words {x y : BitVec 64} {f g : Bf} (h : x ++ y = gmA (pol f) (pol g) 128) : byt (x ++ y) = gmF f g := by rw [h]; rfl
theorem mul_on {x y u v : BitVec 64} {f g : Bf} {k : Nat} (hk : k < 128) (h1 : x ++ y = gmA (pol f) (pol g) k) (h2 : u ++ v = gxn k (pol g)) (hb : fbit f k = true) :
    (x ^^^ u) ++ (y ^^^ v) = gmA (pol f) (pol g) (k + 1) := by
  rw [← add_words, h1, h2]
  show _ = gmA _ _ k ^^^ sel (bt (pol f) k) (gxn k (pol g))
  rw [bt_pol f k hk, hb]; rfl
theorem mul_off {x y : BitVec 64} {f g : Bf} {k : Nat} (hk : k < 128) (h1 : x ++ y = gmA (pol f) (pol g) k) (hb : fbit f k = false) :
    x ++ y = gmA (pol f) (pol g) (k + 1) := by
  rw [h1]
  show _ = gmA _ _ k ^^^ sel (bt (pol f) k) (gxn k (pol g))
  rw [bt_pol f k hk, hb]; simp [sel]
theorem mul_x {u v : BitVec 64} {g : Bf} {k : Nat} (h2 : u ++ v = gxn k (pol g)) : tx0 u v ++ tx1 u v = gxn (k + 1) (pol g) := by
  rw [← gx_words, h2]; rfl

/-- what is known of the world on the way through Mul: the product in words x, y; the multiple in block q, in words u, v -/
structure MuInv (w : World) (f : Bf) (q : Nat) (x y u v : BitVec 64) (wr : World) : Prop where
  below : Below w.heap.size w wr
  hq : w.heap.size + 4 ≤ q
  r0 : row wr w.heap.size = some (ba 16 f)
  r2 : row wr (w.heap.size + 1 + 1) = some (ba 16 fun _ => 0#8)
  r3 : row wr (w.heap.size + 1 + 1 + 1) = some (pq x y)
  rq : row wr q = some (pq u v)
theorem MuInv.size {w : World} {f : Bf} {q : Nat} {x y u v : BitVec 64} {wr : World} (h : MuInv w f q x y u v wr) : w.heap.size + 5 ≤ wr.heap.size := by
  have := row_lt h.rq; have := h.hq; omega
theorem MuInv.call {w : World} {f : Bf} {q : Nat} {x y u v : BitVec 64} {wr w' : World} (h : MuInv w f q x y u v wr) (hb : Below wr.heap.size wr w') : MuInv w f q x y u v w' :=
  ⟨onto h.below (by have := h.size; omega) hb, h.hq, carry hb h.r0, carry hb h.r2, carry hb h.r3, carry hb h.rq⟩
theorem MuInv.setq {w : World} {f : Bf} {q : Nat} {x y u v : BitVec 64} {wr : World} (h : MuInv w f q x y u v wr) (u' v' : BitVec 64) : MuInv w f q x y u' v' (wr.setRow q (pq u' v')) := by
  have hq := h.hq
  exact ⟨below_setRow h.below (by omega) _, hq, by rw [row_setRow_other _ _ _ _ (by omega)]; exact h.r0, by rw [row_setRow_other _ _ _ _ (by omega)]; exact h.r2, by rw [row_setRow_other _ _ _ _ (by omega)]; exact h.r3, row_setRow h.rq _⟩
theorem MuInv.set0 {w : World} {f : Bf} {q : Nat} {x y u v : BitVec 64} {wr : World} (h : MuInv w f q x y u v wr) (z : BitVec 64) : MuInv w f q z y u v (wr.setCell ⟨w.heap.size + 1 + 1 + 1, 0, none⟩ (.int .u64 (L z))) := by
  have hq := h.hq
  rw [setCell_row h.r3, pq_set0]
  exact ⟨below_setRow h.below (by omega) _, hq, by rw [row_setRow_other _ _ _ _ (by omega)]; exact h.r0, by rw [row_setRow_other _ _ _ _ (by omega)]; exact h.r2, row_setRow h.r3 _, by rw [row_setRow_other _ _ _ _ (by omega)]; exact h.rq⟩
theorem MuInv.set1 {w : World} {f : Bf} {q : Nat} {x y u v : BitVec 64} {wr : World} (h : MuInv w f q x y u v wr) (z : BitVec 64) : MuInv w f q x z u v (wr.setCell ⟨w.heap.size + 1 + 1 + 1, 1, none⟩ (.int .u64 (L z))) := by
  have hq := h.hq
  rw [setCell_row h.r3, pq_set1]
  exact ⟨below_setRow h.below (by omega) _, hq, by rw [row_setRow_other _ _ _ _ (by omega)]; exact h.r0, by rw [row_setRow_other _ _ _ _ (by omega)]; exact h.r2, row_setRow h.r3 _, by rw [row_setRow_other _ _ _ _ (by omega)]; exact h.rq⟩
@[go_sem] theorem row_setCell_ne (w : World) (a : Addr) (b : Nat) (v : Value) (h : b ≠ a.block) : row (w.setCell a v) b = row w b := row_setCell_other w a b v h

set_option maxRecDepth 20000 in
set_option maxHeartbeats 2000000 in
theorem bmul_any (f g : Bf) (w : World) :
    Calls Try.prog 45 #[.agg (ba 16 f), .agg (ba 16 g)] w fun e w' => e = .returned (.agg (ba 16 (gmF f g))) ∧ Below w.heap.size w w' := by
  have B0 := Lib.hid (((((Below.refl w.heap.size w).alloc (by simp) (.cells (ba 16 f) 35)).alloc (by simp) (.cells (ba 16 g) 35)).alloc (by simp; omega) (.cells (ba 16 fun _ => 0#8) 35)).alloc (by simp; omega) (.cells (pq 0#64 0#64) 76))
  go_enter Try.func45, Try.ntmps45
  go_wp2_with fail
  refine (polyOf_any g _).mono ?_
  rintro e w1 ⟨rfl, hb1⟩
  have I0 : MuInv w f w1.heap.size 0#64 0#64 (wd g 0 8) (wd g 8 8) (w1.alloc (.cells (pq (wd g 0 8) (wd g 8 8)) 76)) := by
    have s1 : w.heap.size + 4 ≤ w1.heap.size := by have := hb1.size; simp at this; omega
    exact ⟨(onto B0.out (by simp; omega) hb1).alloc (by omega) _, by omega, row_alloc (carry hb1 (by simp [go_sem])) _, row_alloc (carry hb1 (by simp [go_sem])) _, row_alloc (carry hb1 (by simp [go_sem])) _, by simp [go_sem]⟩
  have HI0 := Lib.hid I0
  clear I0 hb1 B0
  go_wp2_with fail
  go_loopw [7, 10] (fun _ i wr => ∃ k : Nat, k ≤ 128 ∧ i = .int .i64 k ∧ ∃ x y u v, x ++ y = gmA (pol f) (pol g) k ∧ u ++ v = gxn k (pol g) ∧ MuInv w f w1.heap.size x y u v wr) (fun _ i _ => 128 - (intOf i).toNat)
  case atStart => exact ⟨0, by omega, rfl, _, _, _, _, rfl, (pol_words g).symm, HI0.out⟩
  case round =>
    clear HI0
    obtain ⟨k, hk, rfl, x, y, u, v, hxy, huv, hI⟩ := hrel
    have HXY := Lib.hid hxy
    have HUV := Lib.hid huv
    have r0 := hI.r0
    have HI := Lib.hid hI
    clear hI hxy huv
    by_cases hlt : k < 128
    · go_wp2_with fail
      refine (coef_any f k hlt _).mono ?_
      rintro e w2 ⟨rfl, hb2⟩
      have I2 := HI.out.call hb2
      clear hb2 r0 HI
      have rq := I2.rq
      have cq := cell_row rq
      have H2 := Lib.hid I2
      cases hb : fbit f k
      · have HX := Lib.hid (mul_off hlt HXY.out hb)
        have hd : (I (b1 false) == 1) = false := by decide
        clear hb I2 HXY cq
        go_wp2_with fail
        refine (timesX_any u v _).mono ?_
        rintro e w3 ⟨rfl, hb3⟩
        have I3 := H2.out.call hb3
        have rq3 := I3.rq
        have H4 := Lib.hid (I3.setq (tx0 u v) (tx1 u v))
        clear hb3 I3 rq H2 hd
        go_wp2_with fail
        go_roundw
        case rel => exact ⟨k + 1, by omega, by go_num, _, _, _, _, HX.out, mul_x HUV.out, H4.out⟩
        case measure => simp [intOf]; omega
      · have HX := Lib.hid (mul_on hlt HXY.out HUV.out hb)
        have hd : (I (b1 true) == 1) = true := by decide
        have c3 := cell_row I2.r3
        have f3 := froz_row I2.r3
        have hne : w1.heap.size ≠ w.heap.size + 1 + 1 + 1 := by have := I2.hq; omega
        clear hb I2 HXY
        go_wp2_with fail
        refine (timesX_any u v _).mono ?_
        rintro e w3 ⟨rfl, hb3⟩
        have I3 := ((H2.out.set0 (x ^^^ u)).set1 (y ^^^ v)).call hb3
        have rq3 := I3.rq
        have H4 := Lib.hid (I3.setq (tx0 u v) (tx1 u v))
        clear hb3 I3 rq H2 hd c3 f3 cq hne
        go_wp2_with fail
        go_roundw
        case rel => exact ⟨k + 1, by omega, by go_num, _, _, _, _, HX.out, mul_x HUV.out, H4.out⟩
        case measure => simp [intOf]; omega
    · obtain rfl : k = 128 := by omega
      have r3 := HI.out.r3
      have HV := Lib.hid (gmF_words HXY.out)
      clear r0
      go_wp2_with fail
      refine (blockOf_any x y _).mono ?_
      rw [HV.out]
      rintro e w2 ⟨rfl, hb2⟩
      have I2 := HI.out.call hb2
      have r2 := I2.r2
      have HB := Lib.hid I2.below
      clear hb2 I2 HI r3
      go_wp2_with fail
      refine bodyPost_ret (v := .agg (ba 16 (gmF f g))) (res_row rfl _ _ (w.heap.size + 1 + 1) _ _ _ rfl (row_setRow r2 _) blk_u (by rw [ba_size]; exact blk_i)) rfl ⟨rfl, ?_⟩
      exact below_setRow HB.out (by omega) _
end Go.Proofs.Ytokhldihfbaeoaa.Oct
