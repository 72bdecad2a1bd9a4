/- Contracts: bytes.Clone, disk's after. -/
import Derived.Test.YthdhbjfenanbnaaDkE
namespace Go.Proofs.Ythdhbjfenanbnaa.Oct
open Go.ChangeShapes Go.WideShapes Go.ChangeAt Go.RowKit
set_option linter.unusedVariables false

set_option maxHeartbeats 1000000 in
theorem clone_any (n c : Nat) (A : Option Addr) (b : Bf) (w : World) (hs : Sl w w.heap.size A n c b) (hn : n ≤ 140737488355328) :
    Calls Try.prog 30 #[.slice A n c] w fun e w' => ∃ v, e = .returned v ∧ Own w' w.heap.size 5 v n b ∧ Below w.heap.size w w' := by
  have HS := Lib.hid hs
  go_enter Try.func30, Try.ntmps30
  cases A with
  | none =>
    have h0 := hs.nil_zero rfl
    subst h0
    clear hs
    have qT := fun (w : World) (n c : Nat) => Lib.run_eql_slice_nil (P := Try.prog) w 29 5 none n c 0 0 sli_u
    go_wp2_with fail
    go_ret
    exact ⟨_, rfl, Own.nil _ _ _ _, Below.refl _ _⟩
  | some a =>
    clear hs
    have qT := fun (w : World) (n c : Nat) => Lib.run_eql_slice_nil (P := Try.prog) w 29 5 (some a) n c 0 0 sli_u
    have O1 := Lib.hid (show Own (w.alloc (.cells #[] 5)) w.heap.size 5 (.slice (some ⟨w.heap.size, 0, none⟩) 0 0) 0 b from Own.empty w w.heap.size 5 _ (Nat.le_refl _))
    have B1 := (Below.refl w.heap.size w).alloc (Nat.le_refl _) (.cells #[] 5)
    have S1 := HS.out.below B1
    have hb : w.heap.size ≤ (w.alloc (.cells #[] 5)).heap.size := by simp
    go_wp2_with (at_builtin; refine wpl_appB rfl (.tmp 5) (.tmp 6) rfl sli_u u8_info O1.out S1 (by omega) hb rfl rfl ?_; intro v4 w4 ho4 hg4 ht4)
    go_ret
    exact ⟨_, rfl, by rw [Nat.zero_add, catF_zero] at ho4; exact ho4, O1.out.after hg4 B1 hb (Nat.le_refl _)⟩

set_option maxHeartbeats 2000000 in
theorem after_any (T : Mk) (td tp c : Nat) (v : Value) (A : Option Addr) (s : By) (l : List Ch) (w : World) (hd : OwB T w td 5 v s) (hp : ElSl 2 chE T w tp A c l) (hok : Okc s l) (h1 : tp ≠ td) (h0 : 0 ≠ td) (hn : l.length ≤ 1000000000000) :
    Calls Try.prog 47 #[v, .slice A l.length c] w fun e w' => ∃ v', e = .returned v' ∧ ∃ T', Fr T T' (fun x => x = td) w w' ∧ OwB T' w' td 5 v' (has s l) := by
  have HD := Lib.hid hd
  have HP := Lib.hid hp
  have HO := Lib.hid hok
  clear hd hp hok
  go_enter Try.func47, Try.ntmps47
  go_wp2_with fail
  go_loopw [0, 9] (fun bv iv wr => ∃ (j : Nat) (T1 : Mk), j ≤ l.length ∧ iv = .int .i64 (j : Int) ∧ Fr T T1 (fun x => x = td) w wr ∧ OwB T1 wr td 5 bv (has s (l.take j))) (fun _ iv _ => l.length - (intOf iv).toNat)
  case atStart => exact ⟨0, T, by omega, rfl, Fr.refl _ _ _, HD.out⟩
  case round =>
    obtain ⟨j, T1, hj, rfl, hf, hb⟩ := hrel
    obtain ⟨wo, rfl⟩ : ∃ wo : World, wo = wr := ⟨_, rfl⟩
    have HF := Lib.hid hf
    have HB := Lib.hid hb
    clear hf hb
    by_cases hlt : j < l.length
    · have hd : decide ((j : Int) < (l.length : Int)) = true := by simp; omega
      have P1 := HP.out.fr chE_ok HF.out h1 h0
      obtain ⟨g, o, hA, hg, hT, hcl⟩ := P1.at_ (by omega)
      obtain ⟨vs, ⟨A2, c2, rfl, hr2⟩, hcs⟩ := hcl j hlt
      have q0 := hcs 0 (by omega)
      have q1 := hcs 1 (by omega)
      simp only [List.getElem?_cons_zero, List.getElem?_cons_succ, Nat.add_zero] at q0 q1
      obtain ⟨hfit, hlen⟩ := HO.out.at_ j hlt
      obtain ⟨x, hx⟩ : ∃ x, x = l[j] := ⟨_, rfl⟩
      rw [← hx] at q0 q1 hr2 hfit hlen
      have HX := Lib.hid hx
      obtain ⟨b0, hb0⟩ : ∃ b0, b0 = has s (l.take j) := ⟨_, rfl⟩
      have HB0 := Lib.hid hb0
      have HBB := Lib.hid HB.out
      rw [← hb0] at HBB hfit
      obtain ⟨A1, c1, hv1, hs1, hm1⟩ := HBB.out.rd
      have hle := hfit.le
      have hle2 := hs1.sl.le
      have hM := maxF_eq
      have HFI := Lib.hid hfit
      subst hA
      subst hv1
      clear hcl hcs P1 hx hb0 hfit HB
      have b1 : Below wo.heap.size wo (wo.alloc (.cells #[.int .i64 (x.k : Int), .slice A2 x.b.length c2] 67)) := (Below.refl _ _).alloc (Nat.le_refl _) _
      have R2 := Lib.hid hr2
      have F1 := Lib.hid (Fr.new (T := T1) (H := fun x => x = td) b1 1)
      clear hr2
      go_wp2_with fail
      have r1 : row (wo.alloc (.cells #[.int .i64 (x.k : Int), .slice A2 x.b.length c2] 67)) wo.heap.size = some #[.int .i64 (x.k : Int), .slice A2 x.b.length c2] := row_alloc_at _ _ _ _ rfl
      obtain ⟨w1, hw1⟩ : ∃ w1, w1 = wo.alloc (.cells #[.int .i64 (x.k : Int), .slice A2 x.b.length c2] 67) := ⟨_, rfl⟩
      rw [← hw1] at r1 b1 F1 ⊢
      clear hw1 q0 q1
      have hup := run_upto sli_u u8_i A1 b0.length c1 x.k (by omega)
      have O1 := Lib.hid ((HBB.out.fr (Fr.new (H := fun _ => False) b1 1) (fun e => e)).cut x.k hle)
      have S1 := Lib.hid (R2.out.fr F1.out h0)
      refine flow_seen [([0, 1, 2, 3, 4, 5], 6, true)] [7] (by kernel_rfl) (by kernel_rfl) (fun _ _ _ _ _ h => h) fun X => ?_
      obtain ⟨T2, F2, O2, S2⟩ : ∃ T2, Fr T T2 (fun x => x = td) w X.val ∧ OwB T2 X.val td 5 (.slice A1 x.k c1) (b0.take x.k) ∧ RdS T2 X.val 0 A2 x.b.length c2 (lf x.b) := by
        have f2 := Fr.new (T := paint T1 wo.heap.size 1) (H := fun x => x = td) X.below 1
        have f3 := Fr.new (T := paint T1 wo.heap.size 1) (H := fun _ => False) X.below 1
        exact ⟨_, (HF.out.trans F1.out).trans f2, O1.out.fr f3 (fun e => e), S1.out.fr f2 h0⟩
      have r2 := carry X.below r1
      obtain ⟨w2, hw2⟩ : ∃ w2, w2 = X.val := ⟨_, rfl⟩
      rw [← hw2] at F2 O2 S2 r2 ⊢
      clear hw2 X r1 b1 F1 O1 S1 HBB HF R2
      have FF := Lib.hid F2
      have OO := Lib.hid O2
      have SS := Lib.hid S2
      have hl2 : (b0.take x.k).length = x.k := by rw [List.length_take]; omega
      have OO2 := Lib.hid O2.own
      have HL2 := Lib.hid hl2
      rw [hl2] at OO2
      have q0 : ∀ x' : After w2, x'.val.cell? ⟨wo.heap.size, 0, none⟩ = some (.int .i64 (x.k : Int)) := fun x' => by rw [cell_row (carry x'.below r2)]; rfl
      have q1 : ∀ x' : After w2, x'.val.cell? ⟨wo.heap.size, 1, none⟩ = some (.slice A2 x.b.length c2) := fun x' => by rw [cell_row (carry x'.below r2)]; rfl
      clear F2 O2 S2 r2 hl2
      simp only [wpFs, pk, List.getElem?_cons_zero, List.getElem?_cons_succ]
      repeat (go_big_quiet_step (fail))
      refine wpQuiet_nil ?_
      clear q0 q1
      go_wp2_with (refine wpl_appB rfl (.tmp 16) (.tmp 18) rfl sli_u u8_info OO2.out SS.out.sl (by omega) (Nat.zero_le _) rfl rfl ?_; intro v4 w4 ho4 hg4 ht4)
      have O4 := Lib.hid (OO.out.app (m := x.b) (by rw [HL2.out]; exact ho4) hg4 ht4)
      have F4 := Lib.hid (FF.out.trans (Fr.grown hg4 (fun g hg => OO.out.tg g hg) td))
      clear ho4 hg4 ht4
      show wpQuiet _ _ _ _ _ _
      repeat (go_big_quiet_step (fail))
      refine wpQuiet_nil ?_
      go_wp2_with fail
      go_roundw
      case rel => exact ⟨j + 1, _, by omega, rfl, F4.out, by rw [has_step s l j hlt, ← HX.out, ← HB0.out]; exact O4.out⟩
      case measure => simp [intOf]; omega
    · have hd : decide ((j : Int) < (l.length : Int)) = false := by simp; omega
      have hjn : j = l.length := by omega
      subst hjn
      go_wp2_with fail
      go_ret
      exact ⟨_, rfl, T1, HF.out, by have := HB.out; rwa [List.take_length] at this⟩
end Go.Proofs.Ythdhbjfenanbnaa.Oct
