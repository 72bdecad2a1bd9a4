/- Contracts of the reference's Seal and Open. -/
import Derived.Test.YtkgefljjjheobaaGreatDoorVlB
import Derived.Test.YtkgefljjjheobaaGreatDoorVlD
import Derived.Test.YtkgefljjjheobaaGreatDoorVlE
import Derived.Test.YtkgefljjjheobaaGreatDoorGcmAll
namespace Go.Proofs.YtkgefljjjheobaaGreatDoor.Oct
open Go.ChangeShapes Go.WideShapes Go.ChangeAt Go.RowKit
set_option linter.unusedVariables false

set_option maxRecDepth 20000 in
set_option maxHeartbeats 2000000 in
theorem rvseal_any (m : Bf) (d t x : Int) (b : Bf) (L c : Nat) (A : Option Addr) (w : World) (hb : Sl w w.heap.size A L c b) (hL : L ≤ 1099511627776) :
    Calls Tryz.prog 7 #[.agg (ba 32 m), .int .i64 d, .int .i64 t, .int .i64 x, .slice A L c] w fun e w' => ∃ v, e = .returned (.tuple #[v, .int .i64 (errU d t x)]) ∧ Own w' w.heap.size 5 v (vsN d t x L) (vsF m d t x b L) ∧ Below w.heap.size w w' := by
  have HSB := Lib.hid hb
  have B0 := (Below.refl w.heap.size w).alloc (by simp) (.cells (ba 32 m) 23)
  have HB0 := Lib.hid B0
  have q0 : row (w.alloc (.cells (ba 32 m) 23)) w.heap.size = some (ba 32 m) := row_alloc_at _ _ _ _ rfl
  clear hb B0
  go_enter Tryz.func7, Tryz.ntmps7
  go_wp2_with fail
  generalize w.alloc (.cells (ba 32 m) 23) = w0 at HB0 q0 ⊢
  refine (rnon_any d t x w0).mono ?_
  rintro e w1 ⟨rfl, hb1⟩
  obtain ⟨G, hG⟩ : ∃ G, G = nonU d t x := ⟨_, rfl⟩
  rw [← hG]
  have HGG := Lib.hid hG
  have b2 := hb1.alloc hb1.size (.cells (ba 12 G) 34)
  have HB2 := Lib.hid (onto HB0.out HB0.out.size b2)
  have r0 := carry b2 q0
  have r1 : row (w1.alloc (.cells (ba 12 G) 34)) w1.heap.size = some (ba 12 G) := row_alloc_at _ _ _ _ rfl
  clear hb1 b2 HB0 q0 hG
  obtain ⟨S1, hS1⟩ : ∃ S1, S1 = w1.heap.size := ⟨_, rfl⟩
  rw [← hS1] at r1
  have HS1 := Lib.hid hS1
  clear hS1
  cases hok : mayB d t x
  · rw [errU_no hok]
    go_wp2_with fail
    rw [errU_no hok, vsN_no hok]
    exact bodyPost_ret (v := .tuple #[.slice none 0 0, .int .i64 1]) (by simp [results, Tryz.results7, go_sem]) rfl ⟨_, rfl, Own.nil _ _ _ _, HB2.out⟩
  · rw [errU_ok hok]
    go_wp2_with fail
    rw [← HS1.out]
    clear HS1
    generalize w1.alloc (.cells (ba 12 G) 34) = w2 at HB2 r0 r1 ⊢
    refine (rkey_any m d w2).mono ?_
    rintro e w3 ⟨rfl, hb3⟩
    obtain ⟨K, hK⟩ : ∃ K : Bf, K = vkU m d := ⟨_, rfl⟩
    rw [← hK]
    have HKK := Lib.hid (show K = vkF m d.toNat by rw [hK]; unfold vkU; rw [if_pos (mayD_of hok)])
    have b4 := hb3.alloc hb3.size (.cells (ba 32 K) 23)
    have HB4 := Lib.hid (onto HB2.out HB2.out.size b4)
    have t1 := carry b4 r1
    have t2 : row (w3.alloc (.cells (ba 32 K) 23)) w3.heap.size = some (ba 32 K) := row_alloc_at _ _ _ _ rfl
    clear hb3 b4 HB2 r0 r1 hK
    obtain ⟨S2, hS2⟩ : ∃ S2, S2 = w3.heap.size := ⟨_, rfl⟩
    rw [← hS2] at t2
    have HS2 := Lib.hid hS2
    clear hS2
    go_wp2_with fail
    rw [← HS2.out]
    clear HS2
    generalize w3.alloc (.cells (ba 32 K) 23) = w4 at HB4 t1 t2 ⊢
    refine flow_seen [([0, 1, 2, 3], 4, false)] [5, 6] (by kernel_rfl) (by kernel_rfl) (fun _ _ _ _ _ h => h) fun X => ?_
    have u1 := carry X.below t1
    have u2 := carry X.below t2
    have HB5 := Lib.hid (onto HB4.out HB4.out.size X.below)
    clear t1 t2 HB4
    generalize X.val = w5 at u1 u2 HB5 ⊢
    clear X
    have k1 := After.row u1
    have k2 := After.row u2
    simp only [wpFs, pk, List.getElem?_cons_zero, List.getElem?_cons_succ]
    repeat (go_big_quiet_step (fail))
    refine wpQuiet_nil ?_
    clear k1 k2
    go_wp2_with fail
    refine (rgseal_any K G G 12 12 (some ⟨S1, 0, none⟩) b L c A w5 (Sl.of_row u1 w5.heap.size (row_lt u1)) ((HSB.out.below HB5.out).more HB5.out.size) (by omega) hL).mono ?_
    rintro e w6 ⟨v, rfl, ho, hb6⟩
    have HO := Lib.hid (show Own w6 w.heap.size 5 v (L + 16) (vsF m d t x b L) by
      refine (ho.base HB5.out.size).congr fun i _ => ?_
      unfold vsF
      rw [HKK.out, HGG.out])
    have HB6 := Lib.hid (onto HB5.out HB5.out.size hb6)
    clear ho u1 u2
    go_wp2_with fail
    refine ⟨.inr hb6, ?_⟩
    clear hb6 HB5
    show wpQuiet _ _ _ _ _ _
    repeat (go_big_quiet_step (fail))
    refine wpQuiet_nil ?_
    go_wp2
    rw [errU_ok hok, vsN_ok hok]
    exact bodyPost_ret (v := .tuple #[v, .int .i64 0]) (by simp [results, Tryz.results7, go_sem]) rfl ⟨_, rfl, HO.out, HB6.out⟩

set_option maxRecDepth 20000 in
set_option maxHeartbeats 2000000 in
theorem rvopen_any (m : Bf) (d t x : Int) (b : Bf) (L c : Nat) (A : Option Addr) (w : World) (hb : Sl w w.heap.size A L c b) (hL : L ≤ 1099511627776) :
    Calls Tryz.prog 9 #[.agg (ba 32 m), .int .i64 d, .int .i64 t, .int .i64 x, .slice A L c] w fun e w' => ∃ v, e = .returned (.tuple #[v, .int .i64 (voC m d t x b L)]) ∧ Own w' w.heap.size 5 v (voL m d t x b L) (voF m d t x b) ∧ Below w.heap.size w w' := by
  have HSB := Lib.hid hb
  have B0 := (Below.refl w.heap.size w).alloc (by simp) (.cells (ba 32 m) 23)
  have HB0 := Lib.hid B0
  have q0 : row (w.alloc (.cells (ba 32 m) 23)) w.heap.size = some (ba 32 m) := row_alloc_at _ _ _ _ rfl
  clear hb B0
  go_enter Tryz.func9, Tryz.ntmps9
  go_wp2_with fail
  generalize w.alloc (.cells (ba 32 m) 23) = w0 at HB0 q0 ⊢
  refine (rnon_any d t x w0).mono ?_
  rintro e w1 ⟨rfl, hb1⟩
  obtain ⟨G, hG⟩ : ∃ G, G = nonU d t x := ⟨_, rfl⟩
  rw [← hG]
  have HGG := Lib.hid hG
  have b2 := hb1.alloc hb1.size (.cells (ba 12 G) 34)
  have HB2 := Lib.hid (onto HB0.out HB0.out.size b2)
  have r0 := carry b2 q0
  have r1 : row (w1.alloc (.cells (ba 12 G) 34)) w1.heap.size = some (ba 12 G) := row_alloc_at _ _ _ _ rfl
  clear hb1 b2 HB0 q0 hG
  obtain ⟨S1, hS1⟩ : ∃ S1, S1 = w1.heap.size := ⟨_, rfl⟩
  rw [← hS1] at r1
  have HS1 := Lib.hid hS1
  clear hS1
  cases hok : mayB d t x
  · rw [errU_no hok]
    go_wp2_with fail
    rw [voC_no hok, voL_no hok]
    exact bodyPost_ret (v := .tuple #[.slice none 0 0, .int .i64 1]) (by simp [results, Tryz.results9, go_sem]) rfl ⟨_, rfl, Own.nil _ _ _ _, HB2.out⟩
  · rw [errU_ok hok]
    go_wp2_with fail
    rw [← HS1.out]
    clear HS1
    generalize w1.alloc (.cells (ba 12 G) 34) = w2 at HB2 r0 r1 ⊢
    refine (rkey_any m d w2).mono ?_
    rintro e w3 ⟨rfl, hb3⟩
    obtain ⟨K, hK⟩ : ∃ K : Bf, K = vkU m d := ⟨_, rfl⟩
    rw [← hK]
    have HKK := Lib.hid (show K = vkF m d.toNat by rw [hK]; unfold vkU; rw [if_pos (mayD_of hok)])
    have b4 := hb3.alloc hb3.size (.cells (ba 32 K) 23)
    have HB4 := Lib.hid (onto HB2.out HB2.out.size b4)
    have t1 := carry b4 r1
    have t2 : row (w3.alloc (.cells (ba 32 K) 23)) w3.heap.size = some (ba 32 K) := row_alloc_at _ _ _ _ rfl
    clear hb3 b4 HB2 r0 r1 hK
    obtain ⟨S2, hS2⟩ : ∃ S2, S2 = w3.heap.size := ⟨_, rfl⟩
    rw [← hS2] at t2
    have HS2 := Lib.hid hS2
    clear hS2
    go_wp2_with fail
    rw [← HS2.out]
    clear HS2
    generalize w3.alloc (.cells (ba 32 K) 23) = w4 at HB4 t1 t2 ⊢
    refine flow_seen [([0, 1, 2, 3], 4, false)] [5, 6, 7, 8] (by kernel_rfl) (by kernel_rfl) (fun _ _ _ _ _ h => h) fun X => ?_
    have u1 := carry X.below t1
    have u2 := carry X.below t2
    have HB5 := Lib.hid (onto HB4.out HB4.out.size X.below)
    clear t1 t2 HB4
    generalize X.val = w5 at u1 u2 HB5 ⊢
    clear X
    have k1 := After.row u1
    have k2 := After.row u2
    simp only [wpFs, pk, List.getElem?_cons_zero, List.getElem?_cons_succ]
    repeat (go_big_quiet_step (fail))
    refine wpQuiet_nil ?_
    clear k1 k2
    go_wp2_with fail
    refine (rgopen_any K G G 12 12 (some ⟨S1, 0, none⟩) b L c A w5 (Sl.of_row u1 w5.heap.size (row_lt u1)) ((HSB.out.below HB5.out).more HB5.out.size) (by omega) hL).mono ?_
    rintro e w6 ⟨v, rfl, ho, hb6⟩
    rw [HKK.out, HGG.out] at ho ⊢
    have HO := Lib.hid (show Own w6 w.heap.size 5 v (opL (vkF m d.toNat) (nonU d t x) (nonU d t x) 12 b L) (voF m d t x b) by
      refine (ho.base HB5.out.size).congr fun i _ => ?_
      unfold voF
      rfl)
    obtain ⟨E, hE⟩ : ∃ E, E = opC (vkF m d.toNat) (nonU d t x) (nonU d t x) 12 b L := ⟨_, rfl⟩
    rw [← hE]
    have HEE := Lib.hid hE
    clear hE
    have HB6 := Lib.hid (onto HB5.out HB5.out.size hb6)
    clear ho u1 u2
    go_wp2_with fail
    refine ⟨.inr hb6, ?_⟩
    clear hb6 HB5
    show wpQuiet _ _ _ _ _ _
    repeat (go_big_quiet_step (fail))
    refine wpQuiet_nil ?_
    go_wp2
    rw [voC_ok hok, voL_ok hok, ← HEE.out]
    exact bodyPost_ret (v := .tuple #[v, .int .i64 E]) (by simp [results, Tryz.results9, go_sem]) rfl ⟨_, rfl, HO.out, HB6.out⟩
end Go.Proofs.YtkgefljjjheobaaGreatDoor.Oct
