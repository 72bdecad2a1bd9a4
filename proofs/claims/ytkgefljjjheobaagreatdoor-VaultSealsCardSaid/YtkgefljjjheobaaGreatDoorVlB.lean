/- Contract of the reference's Nonce. -/
import Derived.Test.YtkgefljjjheobaaGreatDoorVlA
namespace Go.Proofs.YtkgefljjjheobaaGreatDoor.Oct
open Go.ChangeShapes Go.WideShapes Go.ChangeAt Go.RowKit
set_option linter.unusedVariables false

/-- the bytes on the way: k of the term's -/
def rnT (d t k : Nat) : Bf := fun j => if j = 0 then BitVec.ofNat 8 d else if j ≤ 5 ∧ 5 < j + k then BitVec.ofNat 8 (t / 256 ^ (5 - j)) else 0#8
/-- k of the index's -/
def rnX (d t x k : Nat) : Bf := fun j => if j ≤ 5 then nonF d t x j else if 11 < j + k then BitVec.ofNat 8 (x / 256 ^ (11 - j)) else 0#8
theorem rnT_start (d t : Nat) : ba 12 (upd (fun _ => 0#8) 0 (BitVec.ofNat 8 d)) = ba 12 (rnT d t 0) := ba_ext fun j hj => by
  unfold upd rnT
  by_cases h : j = 0
  · rw [if_pos h, if_pos h]
  · rw [if_neg h, if_neg h, if_neg (by omega)]
theorem rnT_step (d t k s : Nat) (h : s + k = 5) (hs : 0 < s) : upd (rnT d t k) s (BitVec.ofNat 8 (t / 256 ^ k)) = rnT d t (k + 1) := by
  funext j
  unfold upd rnT
  by_cases h1 : j = s
  · rw [if_pos h1, if_neg (by omega), if_pos (by omega), show 5 - j = k by omega]
  · rw [if_neg h1]
    by_cases h2 : j = 0
    · rw [if_pos h2, if_pos h2]
    · rw [if_neg h2, if_neg h2]
      by_cases h3 : j ≤ 5 ∧ 5 < j + k
      · rw [if_pos h3, if_pos (by omega)]
      · rw [if_neg h3, if_neg (by omega)]
theorem rnT_done (d t x : Nat) : ba 12 (rnT d t 5) = ba 12 (rnX d t x 0) := ba_ext fun j hj => by
  unfold rnT rnX nonF catF beN
  by_cases h2 : j = 0
  · rw [if_pos h2, if_pos (by omega), if_pos (by omega), if_pos (by omega), h2]; simp
  · rw [if_neg h2]
    by_cases h1 : j ≤ 5
    · rw [if_pos (by omega), if_pos h1, if_pos (by omega), if_neg (by omega), show 5 - 1 - (j - 1) = 5 - j by omega]
    · rw [if_neg (by omega), if_neg h1, if_neg (by omega)]
theorem rnX_step (d t x k s : Nat) (h : s + k = 11) (hs : 5 < s) : upd (rnX d t x k) s (BitVec.ofNat 8 (x / 256 ^ k)) = rnX d t x (k + 1) := by
  funext j
  unfold upd rnX
  by_cases h1 : j = s
  · rw [if_pos h1, if_neg (by omega), if_pos (by omega), show 11 - j = k by omega]
  · rw [if_neg h1]
    by_cases h2 : j ≤ 5
    · rw [if_pos h2, if_pos h2]
    · rw [if_neg h2, if_neg h2]
      by_cases h3 : 11 < j + k
      · rw [if_pos h3, if_pos (by omega)]
      · rw [if_neg h3, if_neg (by omega)]
theorem rnX_done (d t x : Nat) : ba 12 (rnX d t x 6) = ba 12 (nonF d t x) := ba_ext fun j hj => by
  unfold rnX
  by_cases h1 : j ≤ 5
  · rw [if_pos h1]
  · rw [if_neg h1, if_pos (by omega)]
    unfold nonF catF beN
    rw [if_neg (by omega), show 6 - 1 - (j - 6) = 11 - j by omega]

set_option maxRecDepth 20000 in
set_option maxHeartbeats 2000000 in
theorem rnon_any (d t x : Int) (w : World) :
    Calls Tryz.prog 13 #[.int .i64 d, .int .i64 t, .int .i64 x] w fun e w' => e = .returned (.tuple #[.agg (ba 12 (nonU d t x)), .int .i64 (errU d t x)]) ∧ Below w.heap.size w w' := by
  have hfin : ∀ (tm : Array Value) (f : Bf) (e : Int), tm.getD 6 undef = .pointer (some ⟨w.heap.size, 0, none⟩) → tm.getD 7 undef = .int .i64 e → ∀ w2 : World, Below w.heap.size w w2 → row w2 w.heap.size = some (ba 12 f) →
      bodyPost Tryz.prog Tryz.f13 (fun e' w' => e' = .returned (.tuple #[.agg (ba 12 f), .int .i64 e]) ∧ Below w.heap.size w w') .ret { tmps := tm, defers := [] } w2 := by
    intro tm f e e6 e7 w2 b2 q2
    refine bodyPost_ret (v := .tuple #[.agg (ba 12 f), .int .i64 e]) ?_ rfl ⟨rfl, b2⟩
    rw [← e7]
    exact res_ctV (p := 6) (u := 7) rfl _ _ w.heap.size (ba 12 f) _ e6 q2 non_u rfl (by rw [ba_size]; exact non_i)
  have HFIN := Lib.hid hfin
  clear hfin
  cases hok : mayB d t x
  · rw [nonU_no hok, errU_no hok]
    go_enter Tryz.func13, Tryz.ntmps13
    go_wp2_with fail
    refine (rmay_any d t x _).mono ?_
    rintro e w1 ⟨rfl, rfl⟩
    rw [hok]
    go_wp2_with fail
    exact HFIN.out _ _ _ rfl rfl _ (((Below.refl w.heap.size w).alloc (by simp) _).alloc (by simp) _) (by simp [go_sem])
  · obtain ⟨⟨a1, a2⟩, ⟨a3, a4⟩, a5, a6⟩ := mayB_iff.1 hok
    obtain ⟨dn, rfl⟩ : ∃ n : Nat, d = n := ⟨d.toNat, by omega⟩
    obtain ⟨tn, rfl⟩ : ∃ n : Nat, t = n := ⟨t.toNat, by omega⟩
    obtain ⟨xn, rfl⟩ : ∃ n : Nat, x = n := ⟨x.toNat, by omega⟩
    rw [nonU_ok hok, errU_ok hok]
    have HS := Lib.hid (rnT_start dn tn)
    have HD := Lib.hid (rnT_done dn tn xn)
    have HE := Lib.hid (rnX_done dn tn xn)
    have hby : (dn : Int) % 256 = I (BitVec.ofNat 8 dn) := by rw [← I_of8]
    have HOK := Lib.hid hok
    clear a1 a2 a3 a4 a5 a6 hok
    go_enter Tryz.func13, Tryz.ntmps13
    go_wp2_with fail
    refine (rmay_any dn tn xn _).mono ?_
    rintro e w1 ⟨rfl, rfl⟩
    rw [HOK.out]
    go_wp2_with fail
    go_loopw [9] (fun v wr => ∃ k : Nat, k ≤ 5 ∧ v = .int .i64 k ∧ wr = (w.alloc (.cells (ba 12 fun _ => 0#8) 34)).alloc (.cells (ba 12 (rnT dn tn k)) 34)) (fun v _ => 5 - (intOf v).toNat)
    case atStart => exact ⟨0, by omega, rfl, by rw [HS.out]⟩
    case round =>
      clear hby
      obtain ⟨k, hk, rfl, rfl⟩ := hrel
      by_cases hlt : k < 5
      · obtain ⟨s, hs⟩ : ∃ s, s + k = 5 := ⟨5 - k, by omega⟩
        have H := Lib.hid (rnT_step dn tn k s hs (by omega))
        have hsh := sh_byte tn k
        have e1 : (5 : Int) - (k : Int) = (s : Int) := by omega
        have e2 : (8 * (k : Int)).toNat = 8 * k := by omega
        have b0 : 0 ≤ 8 * (k : Int) := by omega
        have h12 : s < 12 := by omega
        go_wp2
        go_roundw
        case rel => exact ⟨k + 1, by omega, by go_num, by rw [H.out]⟩
        case measure => simp [intOf]; omega
      · obtain rfl : k = 5 := by omega
        rw [HD.out]
        go_wp2
        go_loopw [10] (fun v wr => ∃ k : Nat, k ≤ 6 ∧ v = .int .i64 k ∧ wr = (w.alloc (.cells (ba 12 fun _ => 0#8) 34)).alloc (.cells (ba 12 (rnX dn tn xn k)) 34)) (fun v _ => 6 - (intOf v).toNat)
        case atStart => exact ⟨0, by omega, rfl, rfl⟩
        case round =>
          obtain ⟨k, hk, rfl, rfl⟩ := hrel
          by_cases hlt : k < 6
          · obtain ⟨s, hs⟩ : ∃ s, s + k = 11 := ⟨11 - k, by omega⟩
            have H := Lib.hid (rnX_step dn tn xn k s hs (by omega))
            have hsh := sh_byte xn k
            have e1 : (11 : Int) - (k : Int) = (s : Int) := by omega
            have e2 : (8 * (k : Int)).toNat = 8 * k := by omega
            have b0 : 0 ≤ 8 * (k : Int) := by omega
            have h12 : s < 12 := by omega
            go_wp2
            go_roundw
            case rel => exact ⟨k + 1, by omega, by go_num, by rw [H.out]⟩
            case measure => simp [intOf]; omega
          · obtain rfl : k = 6 := by omega
            rw [HE.out]
            go_wp2
            exact HFIN.out _ _ _ rfl rfl _ (((Below.refl w.heap.size w).alloc (by simp) _).alloc (by simp) _) (by simp [go_sem])
end Go.Proofs.YtkgefljjjheobaaGreatDoor.Oct
