/- Contracts of sha.pressRest and sha.Hash. -/
import Derived.Test.YtjebkokkgkkogaaDoorShaC
namespace Go.Proofs.YtjebkokkgkkogaaDoor.Oct
open Go.ChangeShapes Go.WideShapes Go.ChangeAt Go.RowKit
set_option linter.unusedVariables false

/-- n bytes and the mark -/
def mrk (b : Bf) (n : Nat) : Bf := upd (putF (fun _ => 0#8) 0 n b) n 128#8
/-- behind it the length in bits of L bytes -/
def tll (f : Bf) (L : Nat) : Bf := putF f 56 8 (bgN 8 (8 * L))
def rst (K s : Wf) (b : Bf) (n L : Nat) : Wf := if n < 56 then prF K s (tll (mrk b n) L) else prF K (prF K s (mrk b n)) (tll (fun _ => 0#8) L)
theorem hst_rest (K s : Wf) (b : Bf) (n q : Nat) (hq : q = n / 64) : ∀ i, i < 8 → hst K s (msg b n) (nbk n) i = rst K (hst K s (msg b n) q) (offF b (64 * q)) (n - 64 * q) n i := by
  subst hq
  intro i hi
  unfold rst
  by_cases h : n - 64 * (n / 64) < 56
  · rw [if_pos h, show nbk n = n / 64 + 1 by unfold nbk; omega]
    simp only [hst]
    refine prF_congr (fun _ _ => rfl) (fun _ _ => rfl) (fun k hk => ?_) i hi
    unfold offF msg tll putF mrk upd putF lenB bgN nbk
    by_cases h1 : 64 * (n / 64) + k < n
    · rw [if_pos h1, if_neg (by omega), if_neg (by omega), if_pos (by omega), Nat.sub_zero]
    · rw [if_neg h1]
      by_cases h2 : 64 * (n / 64) + k = n
      · rw [if_pos h2, if_neg (by omega), if_pos (by omega)]
      · rw [if_neg h2]
        by_cases h3 : k < 56
        · rw [if_pos (by omega), if_neg (by omega), if_neg (by omega), if_neg (by omega)]
        · rw [if_neg (by omega), if_pos (by omega)]
          congr 3
          omega
  · rw [if_neg h, show nbk n = n / 64 + 1 + 1 by unfold nbk; omega]
    simp only [hst]
    refine prF_congr (fun _ _ => rfl) (prF_congr (fun _ _ => rfl) (fun _ _ => rfl) fun k hk => ?_) (fun k hk => ?_) i hi
    · unfold offF msg mrk upd putF nbk
      by_cases h1 : 64 * (n / 64) + k < n
      · rw [if_pos h1, if_neg (by omega), if_pos (by omega), Nat.sub_zero]
      · rw [if_neg h1]
        by_cases h2 : 64 * (n / 64) + k = n
        · rw [if_pos h2, if_pos (by omega)]
        · rw [if_neg h2, if_pos (by omega), if_neg (by omega), if_neg (by omega)]
    · unfold offF msg tll putF lenB bgN nbk
      rw [if_neg (by omega), if_neg (by omega)]
      by_cases h3 : k < 56
      · rw [if_pos (by omega), if_neg (by omega)]
      · rw [if_neg (by omega), if_pos (by omega)]
        congr 3
        omega
theorem full_piece (b : Bf) (n j : Nat) (h : 64 * j + 64 ≤ n) (k : Nat) (hk : k < 64) : offF (msg b n) (64 * j) k = offF b (64 * j) k := by
  unfold offF msg
  rw [if_pos (by omega)]

set_option maxRecDepth 20000 in
set_option maxHeartbeats 4000000 in
theorem prest_any (s : Wf) (b : Bf) (n c L : Nat) (A : Option Addr) (w : World) (ht : Tab w) (hs : Sl w w.heap.size A n c b) (hn : n < 64) (hL : L ≤ 140737488355328) :
    Calls Tryd.prog 15 #[.agg (wa 8 s), .slice A n c, .int .i64 L] w fun e w' => e = .returned (.agg (wa 8 (rst kF s b n L))) ∧ Below w.heap.size w w' := by
  have B0 := Lib.hid ((((Below.refl w.heap.size w).alloc (by simp) (.cells (wa 8 s) 29)).alloc (by simp) (.cells (wa 8 fun _ => 0#32) 29)).alloc (by simp; omega) (.cells (ba 64 fun _ => 0#8) 30))
  have HT := Lib.hid ht
  have HS := Lib.hid (hs.below B0.out)
  obtain ⟨x, hx⟩ : ∃ x, x = 8 * L := ⟨_, rfl⟩
  have m1 : IntKind.u64.wrap ((L : Int) * 8) = (x : Int) := by
    show (L : Int) * 8 % 18446744073709551616 = _
    omega
  have m2 : (L : Int) * 8 % 18446744073709551616 = (x : Int) := m1
  have hxb : x < 18446744073709551616 := by omega
  have HX := Lib.hid hx
  clear hx
  clear ht hs
  have hsl := m64_sl_all (w.heap.size + 1 + 1)
  have hs8 := m64_sl_l (w.heap.size + 1 + 1) 56 (by omega)
  have hset : (ba 64 (putF (fun _ => 0#8) 0 n b)).setIfInBounds n (.int .u8 128) = ba 64 (mrk b n) := ba_set 64 _ n 128#8
  go_enter Tryd.func15, Tryd.ntmps15
  by_cases hlt : n < 56
  · have hd : decide ((56 : Int) ≤ (n : Int)) = false := by simp; omega
    have HV := Lib.hid (show rst kF s b n L = prF kF s (tll (mrk b n) L) by unfold rst; rw [if_pos hlt])
    go_wp2_with (refine wpl_copy rfl (.tmp 9) (.tmp 10) 22 22 5 rfl sli_u u8_i (row_alloc_at _ _ _ _ (by simp)) HS.out (show n = min n 64 by omega) rfl rfl ?_)
    refine (wrn_any _ 56 8 8 64 x (mrk b n) _ (row_alloc_at _ _ _ _ (by simp)) (by omega) (by omega) hxb).mono ?_
    rintro e w' ⟨rfl, rfl⟩
    rw [HX.out, show putF (mrk b n) 56 8 (bgN 8 (8 * L)) = tll (mrk b n) L from rfl]
    have B1 := Lib.hid ((((Below.refl w.heap.size w).alloc (by simp) (.cells (wa 8 s) 29)).alloc (by simp) (.cells (wa 8 fun _ => 0#32) 29)).alloc (by simp; omega) (.cells (ba 64 (tll (mrk b n) L)) 30))
    have q1 : row (((w.alloc (.cells (wa 8 s) 29)).alloc (.cells (wa 8 fun _ => 0#32) 29)).alloc (.cells (ba 64 (tll (mrk b n) L)) 30)) (w.heap.size + 1) = some (wa 8 fun _ => 0#32) := by simp [go_sem]
    have HQ1 := Lib.hid q1
    clear q1
    go_wp2_with fail
    refine (press_any s (tll (mrk b n) L) _ (HT.out.below B1.out HT.out.pos)).mono ?_
    rintro e w1 ⟨rfl, hb1⟩
    have r1 := carry hb1 HQ1.out
    have B2 := Lib.hid (onto B1.out (by simp; omega) hb1)
    clear hb1
    go_wp2_with fail
    refine bodyPost_ret (v := .agg (wa 8 (prF kF s (tll (mrk b n) L)))) (res_row rfl _ _ (w.heap.size + 1) _ _ _ rfl (row_setRow r1 _) s8_u (by rw [wa_size]; exact s8_i)) rfl ⟨by rw [HV.out], ?_⟩
    exact below_setRow B2.out (by omega) _
  · have hd : decide ((56 : Int) ≤ (n : Int)) = true := by simp; omega
    have HV := Lib.hid (show rst kF s b n L = prF kF (prF kF s (mrk b n)) (tll (fun _ => 0#8) L) by unfold rst; rw [if_neg hlt])
    go_wp2_with (refine wpl_copy rfl (.tmp 9) (.tmp 10) 22 22 5 rfl sli_u u8_i (row_alloc_at _ _ _ _ (by simp)) HS.out (show n = min n 64 by omega) rfl rfl ?_)
    have B1 := Lib.hid ((((Below.refl w.heap.size w).alloc (by simp) (.cells (wa 8 s) 29)).alloc (by simp) (.cells (wa 8 fun _ => 0#32) 29)).alloc (by simp; omega) (.cells (ba 64 (mrk b n)) 30))
    have q0 : row (((w.alloc (.cells (wa 8 s) 29)).alloc (.cells (wa 8 fun _ => 0#32) 29)).alloc (.cells (ba 64 (mrk b n)) 30)) w.heap.size = some (wa 8 s) := by simp [go_sem]
    have q1 : row (((w.alloc (.cells (wa 8 s) 29)).alloc (.cells (wa 8 fun _ => 0#32) 29)).alloc (.cells (ba 64 (mrk b n)) 30)) (w.heap.size + 1) = some (wa 8 fun _ => 0#32) := by simp [go_sem]
    have q2 : row (((w.alloc (.cells (wa 8 s) 29)).alloc (.cells (wa 8 fun _ => 0#32) 29)).alloc (.cells (ba 64 (mrk b n)) 30)) (w.heap.size + 1 + 1) = some (ba 64 (mrk b n)) := by simp [go_sem]
    refine (press_any s (mrk b n) _ (HT.out.below B1.out HT.out.pos)).mono ?_
    rintro e w1 ⟨rfl, hb1⟩
    have r0 := carry hb1 q0
    have r1 := carry hb1 q1
    have r2 := carry hb1 q2
    have B2 := Lib.hid (onto B1.out (by simp; omega) hb1)
    have s1 : w.heap.size + 3 ≤ w1.heap.size := by have := hb1.size; simp at this; omega
    clear hb1 q0 q1 q2 B1 B0 HS hset
    obtain ⟨S, hS⟩ : ∃ S, S = prF kF s (mrk b n) := ⟨_, rfl⟩
    rw [← hS]
    have B3 := Lib.hid (below_setRow (below_setRow B2.out (Nat.le_refl _) (wa 8 S)) (by omega : w.heap.size ≤ w.heap.size + 1 + 1) (ba 64 fun _ => 0#8))
    have t0 : row ((w1.setRow w.heap.size (wa 8 S)).setRow (w.heap.size + 1 + 1) (ba 64 fun _ => 0#8)) w.heap.size = some (wa 8 S) := by rw [row_setRow_other _ _ _ _ (by omega)]; exact row_setRow r0 _
    have t1 : row ((w1.setRow w.heap.size (wa 8 S)).setRow (w.heap.size + 1 + 1) (ba 64 fun _ => 0#8)) (w.heap.size + 1) = some (wa 8 fun _ => 0#32) := by rw [row_setRow_other _ _ _ _ (by omega), row_setRow_other _ _ _ _ (by omega)]; exact r1
    have r2' : row (w1.setRow w.heap.size (wa 8 S)) (w.heap.size + 1 + 1) = some (ba 64 (mrk b n)) := by rw [row_setRow_other _ _ _ _ (by omega)]; exact r2
    have t2 : row ((w1.setRow w.heap.size (wa 8 S)).setRow (w.heap.size + 1 + 1) (ba 64 fun _ => 0#8)) (w.heap.size + 1 + 1) = some (ba 64 fun _ => 0#8) := row_setRow r2' _
    have HT0 := Lib.hid t0
    have HT1 := Lib.hid t1
    have HT2 := Lib.hid t2
    have HS2 := Lib.hid hS
    clear t0 t1 t2 hS B2 r1 r2
    go_wp2_with fail
    generalize (w1.setRow w.heap.size (wa 8 S)).setRow (w.heap.size + 1 + 1) (ba 64 fun _ => 0#8) = w2 at HT0 HT1 HT2 B3 ⊢
    clear r0 r2'
    refine (wrn_any _ 56 8 8 64 x (fun _ => 0#8) _ HT2.out (by omega) (by omega) hxb).mono ?_
    rintro e w' ⟨rfl, rfl⟩
    rw [HX.out, show putF (fun _ => 0#8) 56 8 (bgN 8 (8 * L)) = tll (fun _ => 0#8) L from rfl]
    have B4 := Lib.hid (below_setRow B3.out (by omega : w.heap.size ≤ w.heap.size + 1 + 1) (ba 64 (tll (fun _ => 0#8) L)))
    have r0 : row (w2.setRow (w.heap.size + 1 + 1) (ba 64 (tll (fun _ => 0#8) L))) w.heap.size = some (wa 8 S) := by rw [row_setRow_other _ _ _ _ (by omega)]; exact HT0.out
    have r2 : row (w2.setRow (w.heap.size + 1 + 1) (ba 64 (tll (fun _ => 0#8) L))) (w.heap.size + 1 + 1) = some (ba 64 (tll (fun _ => 0#8) L)) := row_setRow HT2.out _
    have HR1 := Lib.hid (show row (w2.setRow (w.heap.size + 1 + 1) (ba 64 (tll (fun _ => 0#8) L))) (w.heap.size + 1) = some (wa 8 fun _ => 0#32) by rw [row_setRow_other _ _ _ _ (by omega)]; exact HT1.out)
    have s2 : w.heap.size + 2 < (w2.setRow (w.heap.size + 1 + 1) (ba 64 (tll (fun _ => 0#8) L))).heap.size := row_lt r2
    generalize w2.setRow (w.heap.size + 1 + 1) (ba 64 (tll (fun _ => 0#8) L)) = w3 at B4 r0 r2 HR1 s2 ⊢
    go_wp2_with fail
    refine (press_any S (tll (fun _ => 0#8) L) _ (HT.out.below B4.out HT.out.pos)).mono ?_
    rintro e w4 ⟨rfl, hb4⟩
    have r1 := carry hb4 HR1.out
    have B5 := Lib.hid (onto B4.out (by omega) hb4)
    clear hb4 r0 r2
    go_wp2_with fail
    refine bodyPost_ret (v := .agg (wa 8 (prF kF S (tll (fun _ => 0#8) L)))) (res_row rfl _ _ (w.heap.size + 1) _ _ _ rfl (row_setRow r1 _) s8_u (by rw [wa_size]; exact s8_i)) rfl ⟨by rw [HV.out, ← HS2.out], ?_⟩
    exact below_setRow B5.out (by omega) _
end Go.Proofs.YtjebkokkgkkogaaDoor.Oct
