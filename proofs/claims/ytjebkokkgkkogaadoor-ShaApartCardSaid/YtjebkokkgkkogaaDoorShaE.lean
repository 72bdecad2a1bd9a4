/- Contract of sha.Hash. -/
import Derived.Test.YtjebkokkgkkogaaDoorShaD
namespace Go.Proofs.YtjebkokkgkkogaaDoor.Oct
open Go.ChangeShapes Go.WideShapes Go.ChangeAt Go.RowKit
set_option linter.unusedVariables false

def slN : Value → Nat
  | .slice _ n _ => n
  | _ => 0
theorem m64_at (A : Option Addr) (n c : Nat) (h : 64 ≤ n) (w : World) : (Instr.arrayAt 30 (.slice A n c)).run Tryd.prog w = .ok (.pointer A) w := by
  simp [Instr.arrayAt, run_underlying m64_u, Nat.not_lt.2 h]
/-- 64 bytes of a slice as an array -/
theorem m64_sl_ld {w : World} {B n c g o : Nat} {b : Bf} (hs : Sl w B (some ⟨g, o, none⟩) n c b) (h : 64 ≤ n) : ldR Tryd.prog 30 64 w g o (row w g) = .ok (.agg (ba 64 b)) w := by
  obtain ⟨g', o', e, _, hc⟩ := hs.at_ (by omega)
  obtain ⟨rfl, rfl⟩ : g = g' ∧ o = o' := by injection e with e; injection e with e1 e2; exact ⟨e1, e2⟩
  rw [← m64_ld]
  have hx := run_loadAt_mid (P := Tryd.prog) w g o 30 (ba 64 b).toList _ (fun j v hv => by
    rw [Array.getElem?_toList] at hv
    by_cases hj : j < 64
    · rw [ba_get _ _ _ hj] at hv
      rw [hc j (by omega), hv]
    · rw [ba_none _ _ _ hj] at hv; cases hv) m64_u rfl (by rw [Array.length_toList, ba_size]; exact m64_i)
  rw [Array.toArray_toList] at hx
  exact hx
/-- what is known of the world on the way through Hash: the state lies in block p -/
structure ShInv (w : World) (p : Nat) (s : Wf) (wr : World) : Prop where
  below : Below w.heap.size w wr
  hp : w.heap.size < p
  r0 : row wr w.heap.size = some (ba 32 fun _ => 0#8)
  rp : row wr p = some (wa 8 s)
theorem ShInv.size {w : World} {p : Nat} {s : Wf} {wr : World} (h : ShInv w p s wr) : w.heap.size + 2 ≤ wr.heap.size := by have := row_lt h.rp; have := h.hp; omega
theorem ShInv.call {w : World} {p : Nat} {s : Wf} {wr w' : World} (h : ShInv w p s wr) (hb : Below wr.heap.size wr w') : ShInv w p s w' :=
  ⟨onto h.below (by have := h.size; omega) hb, h.hp, carry hb h.r0, carry hb h.rp⟩
theorem ShInv.put {w : World} {p : Nat} {s : Wf} {wr : World} (h : ShInv w p s wr) (s' : Wf) : ShInv w p s' (wr.setRow p (wa 8 s')) :=
  ⟨below_setRow h.below (by have := h.hp; omega) _, h.hp, by rw [row_setRow_other _ _ _ _ (by have := h.hp; omega)]; exact h.r0, row_setRow h.rp _⟩

set_option maxRecDepth 20000 in
set_option maxHeartbeats 4000000 in
theorem hash_any (b : Bf) (n c : Nat) (A : Option Addr) (w : World) (ht : Tab w) (hs : Sl w w.heap.size A n c b) (hn : n ≤ 140737488355328) :
    Calls Tryd.prog 8 #[.slice A n c] w fun e w' => e = .returned (.agg (ba 32 (shaF kF iF b n))) ∧ Below w.heap.size w w' := by
  have B0 := Lib.hid ((Below.refl w.heap.size w).alloc (by simp) (.cells (ba 32 fun _ => 0#8) 25))
  have q0 : row (w.alloc (.cells (ba 32 fun _ => 0#8) 25)) w.heap.size = some (ba 32 fun _ => 0#8) := by simp [go_sem]
  have HT := Lib.hid ht
  have HS := Lib.hid hs
  clear ht hs
  go_enter Tryd.func8, Tryd.ntmps8
  go_wp2_with fail
  refine (start_any _).mono ?_
  rintro e w1 ⟨rfl, hb1⟩
  have I1 : ShInv w w1.heap.size (hst kF iF (msg b n) 0) (w1.alloc (.cells (wa 8 iF) 29)) :=
    ⟨(onto B0.out (by simp) hb1).alloc (by have := hb1.size; simp at this; omega) _, by have := hb1.size; simp at this; omega, row_alloc (carry hb1 q0) _, row_alloc_at _ _ _ _ rfl⟩
  have HI1 := Lib.hid I1
  clear I1 q0 hb1 B0
  go_wp2_with fail
  generalize hp : w1.heap.size = p at HI1 ⊢
  generalize w1.alloc (.cells (wa 8 iF) 29) = w2 at HI1 ⊢
  clear hp
  go_loopw [0] (fun v wr => ∃ j : Nat, ∃ A' : Option Addr, ∃ c' : Nat, 64 * j ≤ n ∧ v = .slice A' (n - 64 * j) c' ∧ Sl wr w.heap.size A' (n - 64 * j) c' (offF b (64 * j)) ∧ ShInv w p (hst kF iF (msg b n) j) wr) (fun v _ => slN v)
  case atStart => exact ⟨0, A, c, by omega, rfl, by rw [Nat.mul_zero, offF_zero]; exact HS.out.below HI1.out.below, HI1.out⟩
  case round =>
    clear HI1 HS
    obtain ⟨j, A', c', hj, rfl, hs, hI⟩ := hrel
    obtain ⟨wo, rfl⟩ : ∃ wo : World, wo = wr := ⟨_, rfl⟩
    obtain ⟨r, hr⟩ : ∃ r, r = n - 64 * j := ⟨_, rfl⟩
    rw [← hr]
    rw [← hr] at hs
    have HR := Lib.hid hr
    have HS := Lib.hid hs
    have HI := Lib.hid hI
    have HJ := Lib.hid hj
    obtain ⟨S, hS⟩ : ∃ S, S = hst kF iF (msg b n) j := ⟨_, rfl⟩
    rw [← hS] at HI
    have HSS := Lib.hid hS
    clear hr hs hI hj hS
    by_cases hlt : 64 ≤ r
    · have hd : decide ((64 : Int) ≤ (r : Int)) = true := by simp; omega
      obtain ⟨g, o, hA, hg, -⟩ := HS.out.at_ (by omega)
      subst hA
      have hup := run_upto sli_u u8_i (some (⟨g, o, none⟩ : Addr)) r c' 64 (by have := HS.out.le; omega)
      have hfrom := run_from sli_u u8_i (some (⟨g, o, none⟩ : Addr)) r c' 64 hlt
      rw [show ((64 : Nat) : Int) = 64 from rfl] at hup hfrom
      have hat := m64_at (some (⟨g, o, none⟩ : Addr)) 64 c' (Nat.le_refl _)
      have hld : ∀ m, ldR Tryd.prog 30 64 (wo.drewN m) g o (row wo g) = .ok (.agg (ba 64 (offF b (64 * j)))) (wo.drewN m) := fun m => by
        rw [← row_drewN wo m g]; exact m64_sl_ld (HS.out.drewN m) hlt
      have rp := HI.out.rp
      clear hg
      go_wp2_with fail
      refine quiet_tail 5 (by kernel_rfl) (by kernel_rfl) (fun _ _ _ _ _ h => h) ?_
      simp only [List.take_succ_cons, List.take_zero, List.drop_succ_cons, List.drop_zero]
      repeat (go_big_quiet_step (fail))
      refine wpQuiet_nil ?_
      rintro _ ⟨nq, rfl⟩
      clear hld hup hat
      go_wp2_with fail
      refine (press_any S (offF b (64 * j)) _ ((HT.out.below HI.out.below HT.out.pos).drewN nq)).mono ?_
      rintro e w3 ⟨rfl, hb3⟩
      have I3 := HI.out.call ((below_drewN (Below.refl wo.heap.size wo) nq).trans hb3)
      have rp3 := I3.rp
      have HI4 := Lib.hid (I3.put (prF kF S (offF b (64 * j))))
      have HS4 := Lib.hid (((HS.out.from_ 64 hlt).below (onto (below_drewN (Below.refl w.heap.size wo) nq) (by have := HI.out.size; simp; omega) hb3)).below (below_setRow (b := p) (Below.refl w.heap.size w3) (by have := I3.hp; omega) (wa 8 (prF kF S (offF b (64 * j))))))
      clear hb3 I3 rp HI HS
      have hj1 : 64 * (j + 1) ≤ n := by have := HR.out; omega
      have HE := Lib.hid (show r - 64 = n - 64 * (j + 1) by have := HR.out; omega)
      have HV := Lib.hid (show prF kF S (offF b (64 * j)) = hst kF iF (msg b n) (j + 1) by
        rw [HSS.out]
        funext i
        simp only [hst]
        unfold prF
        rw [sch_congr (fun k hk => (full_piece b n j (by have := HR.out; omega) k hk).symm)])
      go_wp2_with fail
      go_roundw
      case rel =>
        rw [HE.out] at HS4 ⊢
        rw [HV.out] at HI4 HS4 ⊢
        exact ⟨j + 1, _, _, hj1, rfl, HS4.out.congr fun i hi => by unfold offF; congr 1; omega, HI4.out⟩
      case measure => simp only [slN]; omega
    · have hd : decide ((64 : Int) ≤ (r : Int)) = false := by simp; omega
      have rp := HI.out.rp
      go_wp2_with fail
      refine (prest_any S (offF b (64 * j)) r c' n A' _ (HT.out.below HI.out.below HT.out.pos) (HS.out.more (by have := HI.out.size; omega)) (by omega) hn).mono ?_
      rintro e w3 ⟨rfl, hb3⟩
      have HI3 := Lib.hid (HI.out.call hb3)
      clear hb3 HI rp
      have HV := Lib.hid (show ba 32 (outF (rst kF S (offF b (64 * j)) r n)) = ba 32 (shaF kF iF b n) from ba_ext fun i hi => by
        unfold shaF
        refine outF_congr (fun k hk => ?_) i hi
        rw [hst_rest kF iF b n j (by have := HR.out; have := HJ.out; omega) k hk, HSS.out, HR.out])
      go_wp2_with fail
      refine (sumOf_any _ _).mono ?_
      rintro e w4 ⟨rfl, hb4⟩
      have HI4 := Lib.hid (HI3.out.call hb4)
      have r0 := HI4.out.r0
      clear hb4 HI3
      go_wp2_with fail
      refine bodyPost_ret (v := .agg (ba 32 (outF (rst kF S (offF b (64 * j)) r n)))) (res_row rfl _ _ w.heap.size _ _ _ rfl (row_setRow r0 _) sum_u (by rw [ba_size]; exact sum_i)) rfl ⟨by rw [HV.out], ?_⟩
      exact below_setRow HI4.out.below (by omega) _
end Go.Proofs.YtjebkokkgkkogaaDoor.Oct
