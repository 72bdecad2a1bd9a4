/- Contracts of drbg's State, Of, Clone, New. -/
import Derived.Test.YtjggnbncpjoooaaDoorDrB
namespace Go.Proofs.YtjggnbncpjoooaaDoor.Oct
open Go.ChangeShapes Go.WideShapes Go.ChangeAt Go.RowKit
set_option linter.unusedVariables false

theorem quiet_in {P : Program} {ops : Array Oper} {C : World → Prop} {K : Act → Prop} {l : List Oper} {a : Act} (h : wpQuiet P ops (fun w' => ∃ x : In C, w' = x.val) K l a) : wpQuiet P ops C K l a := by rw [In_eq] at h; exact h

set_option maxHeartbeats 1000000 in
theorem dstate_any (s : St) (c : Int) (B : Nat) (w : World) (hr : row w B = some (srcC s.1 s.2 c)) :
    Calls Tryd.prog 20 #[.pointer (some ⟨B, 0, none⟩)] w fun e w' => e = .returned (.tuple #[.agg (ba 32 s.1), .agg (ba 32 s.2), .int .i64 c]) ∧ Below w.heap.size w w' := by
  have HR := Lib.hid hr
  have hBz := row_lt hr
  clear hr
  go_enter Tryd.func20, Tryd.ntmps20
  go_wp2_with fail
  have b1 : Below w.heap.size w (((w.alloc (.cells (ba 32 fun _ => 0#8) 41)).alloc (.cells (ba 32 fun _ => 0#8) 41)).drewN 1) := below_drewN (((Below.refl w.heap.size w).alloc (Nat.le_refl _) _).alloc (by simp) _) 1
  have r1 := carry b1 HR.out
  refine flow_region [([0, 1, 2, 3, 4, 5, 6, 7, 8, 9, 10, 11], 12, false), ([], 13, false)] [14] (fun x => row x B = some (srcC s.1 s.2 c)) (by kernel_rfl) (by kernel_rfl) (fun _ _ _ _ _ h => h) r1 ?_
  have rk : row (((w.alloc (.cells (ba 32 fun _ => 0#8) 41)).alloc (.cells (ba 32 fun _ => 0#8) 41)).drewN 1) w.heap.size = some (ba 32 fun _ => 0#8) := by rw [row_drewN]; exact row_alloc (row_alloc_at _ _ _ _ rfl) _
  have rv : row (((w.alloc (.cells (ba 32 fun _ => 0#8) 41)).alloc (.cells (ba 32 fun _ => 0#8) 41)).drewN 1) (w.heap.size + 1) = some (ba 32 fun _ => 0#8) := by rw [row_drewN]; exact row_alloc_at _ _ _ _ (by simp)
  have B1 := Lib.hid b1
  obtain ⟨w1, hw1⟩ : ∃ w1, w1 = (((w.alloc (.cells (ba 32 fun _ => 0#8) 41)).alloc (.cells (ba 32 fun _ => 0#8) 41)).drewN 1) := ⟨_, rfl⟩
  rw [← hw1] at B1 r1 rk rv ⊢
  clear hw1 b1
  have hne : Nonempty (In (fun x => row x B = some (srcC s.1 s.2 c))) := ⟨⟨w1, r1⟩⟩
  have Q0 : ∀ x : In (fun x => row x B = some (srcC s.1 s.2 c)), row x.val B = some (srcC s.1 s.2 c) := fun x => x.ok
  have Q1 : ∀ x : In (fun x => row x B = some (srcC s.1 s.2 c)), x.val.cell? ⟨B, 64, none⟩ = some (.int .i64 c) := fun x => src_cell x.ok
  simp only [wpFl, pk, List.getElem?_cons_zero, List.getElem?_cons_succ]
  refine quiet_in ?_
  repeat (go_big_quiet_step (fail))
  refine wpQuiet_nil ?_
  clear Q0 Q1 hne
  go_wp2_with fail
  have rv2 : row (w1.setRow w.heap.size (ba 32 s.1)) (w.heap.size + 1) = some (ba 32 fun _ => 0#8) := by rw [row_setRow_other _ _ _ _ (by omega)]; exact rv
  have rk2 := row_setRow rk (ba 32 s.1)
  have r2 : row (w1.setRow w.heap.size (ba 32 s.1)) B = some (srcC s.1 s.2 c) := by rw [row_setRow_other _ _ _ _ (by omega)]; exact r1
  have B2 := Lib.hid (below_setRow B1.out (Nat.le_refl _) (ba 32 s.1))
  refine ⟨fun x => row x B = some (srcC s.1 s.2 c), r2, by first | exact ⟨r2, fun _ h => h⟩ | exact .inr ⟨r2, fun _ h => h⟩, ?_⟩
  obtain ⟨w2, hw2⟩ : ∃ w2, w2 = w1.setRow w.heap.size (ba 32 s.1) := ⟨_, rfl⟩
  rw [← hw2] at rv2 rk2 B2 r2 ⊢
  clear hw2 rv rk r1 B1
  show wpQuiet _ _ _ _ _ _
  refine wpQuiet_nil ?_
  go_wp2_with fail
  have rk3 : row (w2.setRow (w.heap.size + 1) (ba 32 s.2)) w.heap.size = some (ba 32 s.1) := by rw [row_setRow_other _ _ _ _ (by omega)]; exact rk2
  have rv3 := row_setRow rv2 (ba 32 s.2)
  have r3 : row (w2.setRow (w.heap.size + 1) (ba 32 s.2)) B = some (srcC s.1 s.2 c) := by rw [row_setRow_other _ _ _ _ (by omega)]; exact r2
  refine ⟨fun x => row x B = some (srcC s.1 s.2 c), r3, by first | exact ⟨r3, fun _ h => h⟩ | exact .inr ⟨r3, fun _ h => h⟩, ?_⟩
  show wpQuiet _ _ _ _ _ _
  refine quiet_in ?_
  have hne : Nonempty (In (fun x => row x B = some (srcC s.1 s.2 c))) := ⟨⟨_, r3⟩⟩
  repeat (go_big_quiet_step (fail))
  refine wpQuiet_nil ?_
  go_wp2_with fail
  refine bodyPost_ret (v := .tuple #[.agg (ba 32 s.1), .agg (ba 32 s.2), .int .i64 c]) (res_cct Tryd.results20 _ _ w.heap.size (w.heap.size + 1) _ _ _ _ rfl rk3 sum_u rfl (by rw [ba_size]; exact sum_i) rfl rv3 sum_u rfl (by rw [ba_size]; exact sum_i)) rfl ⟨rfl, ?_⟩
  exact below_setRow B2.out (by omega) _

set_option maxHeartbeats 1000000 in
theorem dof_any (k v : Bf) (c : Int) (w : World) :
    Calls Tryd.prog 19 #[.agg (ba 32 k), .agg (ba 32 v), .int .i64 c] w fun e w' => ∃ g, e = .returned (.pointer (some ⟨g, 0, none⟩)) ∧ w.heap.size ≤ g ∧ row w' g = some (srcC k v c) ∧ Below w.heap.size w w' := by
  go_enter Tryd.func19, Tryd.ntmps19
  go_wp2_with fail
  go_ret
  refine ⟨_, rfl, ?_, row_alloc_at _ _ _ _ (by simp), (((Below.refl _ _).alloc (Nat.le_refl _) _).alloc (by simp) _).alloc (by simp; omega) _⟩
  omega

set_option maxHeartbeats 1000000 in
theorem dnew_any (b : Bf) (n cc : Nat) (A : Option Addr) (w : World) (ht : Tab w) (hs : Sl w w.heap.size A n cc b) (hn : n ≤ 140737488354000) :
    Calls Tryd.prog 9 #[.slice A n cc] w fun e w' => ∃ g, e = .returned (.pointer (some ⟨g, 0, none⟩)) ∧ w.heap.size ≤ g ∧ row w' g = some (srcC (updS newS b n).1 (updS newS b n).2 1) ∧ Below w.heap.size w w' := by
  have HT := Lib.hid ht
  have HS := Lib.hid hs
  clear ht hs
  go_enter Tryd.func9, Tryd.ntmps9
  go_wp2_with fail
  go_loopw [4, 7] (fun _ iv wr => ∃ k : Nat, k ≤ 32 ∧ iv = .int .i64 k ∧ wr = w.alloc (.cells (srcC (fun _ => 0#8) (upto k (fun _ => 1#8) fun _ => 0#8) 0) 49)) (fun _ iv _ => 32 - (intOf iv).toNat)
  case atStart => exact ⟨0, by omega, rfl, by rw [upto_zero]⟩
  case round =>
    obtain ⟨k, hk, rfl, rfl⟩ := hrel
    have r0 : row (w.alloc (.cells (srcC (fun _ => 0#8) (upto k (fun _ => 1#8) fun _ => 0#8) 0) 49)) w.heap.size = some _ := row_alloc_at _ _ _ _ rfl
    by_cases hlk : k < 32
    · have hd : decide ((k : Int) < 32) = true := by simp; omega
      have hc := src_cellv r0 k hlk
      have hf := froz_row r0 (32 + k)
      have hst := src_setv (k := fun _ => 0#8) (v := upto k (fun _ => 1#8) fun _ => 0#8) (c := 0) k hlk 1#8
      rw [show upd (upto k (fun _ => 1#8) fun _ => 0#8) k 1#8 = upto (k + 1) (fun _ => 1#8) fun _ => 0#8 from upto_step k (fun _ => 1#8) fun _ => 0#8, show I 1#8 = 1 from rfl] at hst
      have HST := Lib.hid hst
      clear hst r0
      go_wp2_with fail
      go_roundw
      case rel => exact ⟨k + 1, by omega, by go_num, by rw [HST.out]⟩
      case measure => simp [intOf]; omega
    · obtain rfl : k = 32 := by omega
      have HV := Lib.hid (show srcC (fun _ => 0#8) (upto 32 (fun _ => 1#8) fun _ => 0#8) 0 = srcC newS.1 newS.2 0 by unfold srcC newS; rw [upto_all])
      rw [HV.out] at r0 ⊢
      have B1 := Lib.hid ((Below.refl w.heap.size w).alloc (Nat.le_refl _) (.cells (srcC newS.1 newS.2 0) 49))
      obtain ⟨w1, hw1⟩ : ∃ w1, w1 = w.alloc (.cells (srcC newS.1 newS.2 0) 49) := ⟨_, rfl⟩
      rw [← hw1] at r0 B1 ⊢
      clear hw1
      have R0 := Lib.hid r0
      have hsz := row_lt r0
      have hpos := HT.out.pos
      have H1 := Lib.hid (dreseed_any newS 0 w.heap.size b n cc A w1 (HT.out.below B1.out HT.out.pos) r0 hpos ((HS.out.below B1.out).more (by omega)) hn (HS.out.off (Nat.le_refl _)))
      clear r0
      go_wp2_with fail
      refine H1.out.mono ?_
      rintro e w2 ⟨rfl, hp2⟩
      have R2 := Lib.hid (hp2.row R0.out)
      have B2 := Lib.hid (B1.out.trans (hp2.low (Nat.le_refl _) (by omega)))
      clear hp2 H1
      go_wp2_with fail
      go_ret
      exact ⟨_, rfl, Nat.le_refl _, R2.out, B2.out⟩

set_option maxHeartbeats 1000000 in
theorem dclone_any (s : St) (c : Int) (B : Nat) (w : World) (hr : row w B = some (srcC s.1 s.2 c)) :
    Calls Tryd.prog 17 #[.pointer (some ⟨B, 0, none⟩)] w fun e w' => ∃ g, e = .returned (.pointer (some ⟨g, 0, none⟩)) ∧ w.heap.size ≤ g ∧ row w' g = some (srcC s.1 s.2 c) ∧ Below w.heap.size w w' := by
  have HR := Lib.hid hr
  clear hr
  have H1 := Lib.hid (dstate_any s c B w HR.out)
  go_enter Tryd.func17, Tryd.ntmps17
  go_wp2_with fail
  refine H1.out.mono ?_
  rintro e w1 ⟨rfl, hb1⟩
  have B1 := Lib.hid hb1
  clear hb1 H1
  go_wp2_with fail
  refine (dof_any s.1 s.2 c w1).mono ?_
  rintro e w2 ⟨g, rfl, hg, hr2, hb2⟩
  have R2 := Lib.hid hr2
  have B2 := Lib.hid (onto B1.out B1.out.size hb2)
  have hs1 := B1.out.size
  clear hr2 hb2
  go_wp2_with fail
  go_ret
  exact ⟨g, rfl, by omega, R2.out, B2.out⟩
end Go.Proofs.YtjggnbncpjoooaaDoor.Oct
