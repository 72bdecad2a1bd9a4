/- Contracts of vault.Seal and vault.Open. -/
import Derived.Test.YtkgefljjjheobaaGreatDoorVlC
import Derived.Test.YtkgefljjjheobaaGreatDoorGcmAll
namespace Go.Proofs.YtkgefljjjheobaaGreatDoor.Oct
open Go.ChangeShapes Go.WideShapes Go.ChangeAt Go.RowKit
set_option linter.unusedVariables false

/-- what is sealed at a place, and how long it is -/
@[irreducible] def vsF (m : Bf) (d t x : Int) (b : Bf) (L : Nat) : Bf := sealF (vkF m d.toNat) (nonU d t x) (nonU d t x) 12 b L
def vsN (d t x : Int) (L : Nat) : Nat := if mayB d t x = true then L + 16 else 0
theorem vsN_ok {d t x : Int} {L : Nat} (h : mayB d t x = true) : vsN d t x L = L + 16 := by unfold vsN; rw [if_pos h]
theorem vsN_no {d t x : Int} {L : Nat} (h : mayB d t x = false) : vsN d t x L = 0 := by unfold vsN; rw [if_neg (by rw [h]; decide)]
/-- what is opened at a place: the error, the length, the text -/
@[irreducible] def voC (m : Bf) (d t x : Int) (b : Bf) (L : Nat) : Int := if mayB d t x = true then opC (vkF m d.toNat) (nonU d t x) (nonU d t x) 12 b L else 1
@[irreducible] def voL (m : Bf) (d t x : Int) (b : Bf) (L : Nat) : Nat := if mayB d t x = true then opL (vkF m d.toNat) (nonU d t x) (nonU d t x) 12 b L else 0
@[irreducible] def voF (m : Bf) (d t x : Int) (b : Bf) : Bf := xorS (vkF m d.toNat) (nonU d t x) 2 b

section
variable {m : Bf} {d t x : Int} {b : Bf} {L : Nat}
theorem voC_ok (h : mayB d t x = true) : voC m d t x b L = opC (vkF m d.toNat) (nonU d t x) (nonU d t x) 12 b L := by unfold voC; rw [if_pos h]
theorem voC_no (h : mayB d t x = false) : voC m d t x b L = 1 := by unfold voC; rw [if_neg (by rw [h]; decide)]
theorem voL_ok (h : mayB d t x = true) : voL m d t x b L = opL (vkF m d.toNat) (nonU d t x) (nonU d t x) 12 b L := by unfold voL; rw [if_pos h]
theorem voL_no (h : mayB d t x = false) : voL m d t x b L = 0 := by unfold voL; rw [if_neg (by rw [h]; decide)]
end

set_option maxRecDepth 20000 in
set_option maxHeartbeats 2000000 in
theorem vseal_any (m : Bf) (d t x : Int) (b : Bf) (L c : Nat) (A : Option Addr) (w : World) (ht : Tab w) (hb : Sl w w.heap.size A L c b) (hL : L ≤ 1099511627776) :
    Calls Tryz.prog 6 #[.agg (ba 32 m), .int .i64 d, .int .i64 t, .int .i64 x, .slice A L c] w fun e w' => ∃ v, e = .returned (.tuple #[v, .int .i64 (errU d t x)]) ∧ Own w' w.heap.size 5 v (vsN d t x L) (vsF m d t x b L) ∧ Below w.heap.size w w' := by
  have HT := Lib.hid ht
  have HSB := Lib.hid hb
  have B0 := (Below.refl w.heap.size w).alloc (by simp) (.cells (ba 32 m) 23)
  have HB0 := Lib.hid B0
  have q0 : row (w.alloc (.cells (ba 32 m) 23)) w.heap.size = some (ba 32 m) := row_alloc_at _ _ _ _ rfl
  clear ht hb B0
  go_enter Tryz.func6, Tryz.ntmps6
  go_wp2_with fail
  generalize w.alloc (.cells (ba 32 m) 23) = w0 at HB0 q0 ⊢
  refine (vkn_any m d t x w0 (HT.out.below HB0.out HT.out.pos)).mono ?_
  rintro e w1 ⟨rfl, hb1⟩
  obtain ⟨K, hK⟩ : ∃ K : Bf, K = if mayB d t x = true then vkF m d.toNat else fun _ => 0#8 := ⟨_, rfl⟩
  obtain ⟨G, hG⟩ : ∃ G, G = nonU d t x := ⟨_, rfl⟩
  rw [← hK, ← hG]
  have HKK := Lib.hid hK
  have HGG := Lib.hid hG
  obtain ⟨w2, hw2⟩ : ∃ w2, w2 = (w1.alloc (.cells (ba 32 K) 23)).alloc (.cells (ba 12 G) 34) := ⟨_, rfl⟩
  have b2 : Below w0.heap.size w0 w2 := by rw [hw2]; exact (hb1.alloc hb1.size _).alloc (by simp; have := hb1.size; omega) _
  have HB2 := Lib.hid (onto HB0.out HB0.out.size b2)
  have r1 : row w2 w1.heap.size = some (ba 32 K) := by rw [hw2]; simp [go_sem]
  have r2 : row w2 (w1.heap.size + 1) = some (ba 12 G) := by rw [hw2]; simp [go_sem]
  clear hb1 b2 HB0 q0 hK hG
  cases hok : mayB d t x
  · rw [errU_no hok]
    go_wp2_with fail
    rw [← hw2]
    rw [errU_no hok, vsN_no hok]
    exact bodyPost_ret (v := .tuple #[.slice none 0 0, .int .i64 1]) (by simp [results, Tryz.results6, go_sem]) rfl ⟨_, rfl, Own.nil _ _ _ _, HB2.out⟩
  · rw [errU_ok hok]
    go_wp2_with fail
    rw [← hw2]
    clear hw2
    obtain ⟨S1, hS1⟩ : ∃ S1, S1 = w1.heap.size := ⟨_, rfl⟩
    rw [← hS1] at r1 r2 ⊢
    clear hS1
    refine flow_seen [([0, 1, 2, 3], 4, false)] [5, 6] (by kernel_rfl) (by kernel_rfl) (fun _ _ _ _ _ h => h) fun X => ?_
    have u1 := carry X.below r1
    have u2 := carry X.below r2
    have HB3 := Lib.hid (onto HB2.out HB2.out.size X.below)
    clear r1 r2 HB2
    generalize X.val = w3 at u1 u2 HB3 ⊢
    clear X
    have k1 := After.row u1
    have k2 := After.row u2
    simp only [wpFs, pk, List.getElem?_cons_zero, List.getElem?_cons_succ]
    repeat (go_big_quiet_step (fail))
    refine wpQuiet_nil ?_
    clear k1 k2
    go_wp2_with fail
    refine (gseal_any K G G 12 12 (some ⟨S1 + 1, 0, none⟩) b L c A w3 (Sl.of_row u2 w3.heap.size (row_lt u2)) ((HSB.out.below HB3.out).more HB3.out.size) (by omega) hL).mono ?_
    rintro e w4 ⟨v, rfl, ho, hb4⟩
    have HO := Lib.hid (show Own w4 w.heap.size 5 v (L + 16) (vsF m d t x b L) by
      refine (ho.base HB3.out.size).congr fun i _ => ?_
      unfold vsF
      rw [HKK.out, HGG.out, if_pos hok])
    have HB4 := Lib.hid (onto HB3.out HB3.out.size hb4)
    clear ho u1 u2
    go_wp2_with fail
    refine ⟨.inr hb4, ?_⟩
    clear hb4 HB3
    show wpQuiet _ _ _ _ _ _
    repeat (go_big_quiet_step (fail))
    refine wpQuiet_nil ?_
    go_wp2
    rw [errU_ok hok, vsN_ok hok]
    exact bodyPost_ret (v := .tuple #[v, .int .i64 0]) (by simp [results, Tryz.results6, go_sem]) rfl ⟨_, rfl, HO.out, HB4.out⟩
set_option maxRecDepth 20000 in
set_option maxHeartbeats 2000000 in
theorem vopen_any (m : Bf) (d t x : Int) (b : Bf) (L c : Nat) (A : Option Addr) (w : World) (ht : Tab w) (hb : Sl w w.heap.size A L c b) (hL : L ≤ 1099511627776) :
    Calls Tryz.prog 8 #[.agg (ba 32 m), .int .i64 d, .int .i64 t, .int .i64 x, .slice A L c] w fun e w' => ∃ v, e = .returned (.tuple #[v, .int .i64 (voC m d t x b L)]) ∧ Own w' w.heap.size 5 v (voL m d t x b L) (voF m d t x b) ∧ Below w.heap.size w w' := by
  have HT := Lib.hid ht
  have HSB := Lib.hid hb
  have B0 := (Below.refl w.heap.size w).alloc (by simp) (.cells (ba 32 m) 23)
  have HB0 := Lib.hid B0
  have q0 : row (w.alloc (.cells (ba 32 m) 23)) w.heap.size = some (ba 32 m) := row_alloc_at _ _ _ _ rfl
  clear ht hb B0
  go_enter Tryz.func8, Tryz.ntmps8
  go_wp2_with fail
  generalize w.alloc (.cells (ba 32 m) 23) = w0 at HB0 q0 ⊢
  refine (vkn_any m d t x w0 (HT.out.below HB0.out HT.out.pos)).mono ?_
  rintro e w1 ⟨rfl, hb1⟩
  obtain ⟨K, hK⟩ : ∃ K : Bf, K = if mayB d t x = true then vkF m d.toNat else fun _ => 0#8 := ⟨_, rfl⟩
  obtain ⟨G, hG⟩ : ∃ G, G = nonU d t x := ⟨_, rfl⟩
  rw [← hK, ← hG]
  have HKK := Lib.hid hK
  have HGG := Lib.hid hG
  obtain ⟨w2, hw2⟩ : ∃ w2, w2 = (w1.alloc (.cells (ba 32 K) 23)).alloc (.cells (ba 12 G) 34) := ⟨_, rfl⟩
  have b2 : Below w0.heap.size w0 w2 := by rw [hw2]; exact (hb1.alloc hb1.size _).alloc (by simp; have := hb1.size; omega) _
  have HB2 := Lib.hid (onto HB0.out HB0.out.size b2)
  have r1 : row w2 w1.heap.size = some (ba 32 K) := by rw [hw2]; simp [go_sem]
  have r2 : row w2 (w1.heap.size + 1) = some (ba 12 G) := by rw [hw2]; simp [go_sem]
  clear hb1 b2 HB0 q0 hK hG
  cases hok : mayB d t x
  · rw [errU_no hok]
    go_wp2_with fail
    rw [← hw2]
    rw [voC_no hok, voL_no hok]
    exact bodyPost_ret (v := .tuple #[.slice none 0 0, .int .i64 1]) (by simp [results, Tryz.results8, go_sem]) rfl ⟨_, rfl, Own.nil _ _ _ _, HB2.out⟩
  · rw [errU_ok hok]
    go_wp2_with fail
    rw [← hw2]
    clear hw2
    obtain ⟨S1, hS1⟩ : ∃ S1, S1 = w1.heap.size := ⟨_, rfl⟩
    rw [← hS1] at r1 r2 ⊢
    clear hS1
    refine flow_seen [([0, 1, 2, 3], 4, false)] [5, 6, 7, 8] (by kernel_rfl) (by kernel_rfl) (fun _ _ _ _ _ h => h) fun X => ?_
    have u1 := carry X.below r1
    have u2 := carry X.below r2
    have HB3 := Lib.hid (onto HB2.out HB2.out.size X.below)
    clear r1 r2 HB2
    generalize X.val = w3 at u1 u2 HB3 ⊢
    clear X
    have k1 := After.row u1
    have k2 := After.row u2
    simp only [wpFs, pk, List.getElem?_cons_zero, List.getElem?_cons_succ]
    repeat (go_big_quiet_step (fail))
    refine wpQuiet_nil ?_
    clear k1 k2
    go_wp2_with fail
    refine (gopen_any K G G 12 12 (some ⟨S1 + 1, 0, none⟩) b L c A w3 (Sl.of_row u2 w3.heap.size (row_lt u2)) ((HSB.out.below HB3.out).more HB3.out.size) (by omega) hL).mono ?_
    rintro e w4 ⟨v, rfl, ho, hb4⟩
    rw [HKK.out, HGG.out, if_pos hok] at ho ⊢
    have HO := Lib.hid (show Own w4 w.heap.size 5 v (opL (vkF m d.toNat) (nonU d t x) (nonU d t x) 12 b L) (voF m d t x b) by
      refine (ho.base HB3.out.size).congr fun i _ => ?_
      unfold voF
      rfl)
    obtain ⟨E, hE⟩ : ∃ E, E = opC (vkF m d.toNat) (nonU d t x) (nonU d t x) 12 b L := ⟨_, rfl⟩
    rw [← hE]
    have HEE := Lib.hid hE
    clear hE
    have HB4 := Lib.hid (onto HB3.out HB3.out.size hb4)
    clear ho u1 u2
    go_wp2_with fail
    refine ⟨.inr hb4, ?_⟩
    clear hb4 HB3
    show wpQuiet _ _ _ _ _ _
    repeat (go_big_quiet_step (fail))
    refine wpQuiet_nil ?_
    go_wp2
    rw [voC_ok hok, voL_ok hok, ← HEE.out]
    exact bodyPost_ret (v := .tuple #[v, .int .i64 E]) (by simp [results, Tryz.results8, go_sem]) rfl ⟨_, rfl, HO.out, HB4.out⟩
end Go.Proofs.YtkgefljjjheobaaGreatDoor.Oct
