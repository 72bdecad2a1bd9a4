/- Contract of sha.Press, over the table that the program lays. -/
import Derived.Test.YtjebkokkgkkogaaDoorShaB
namespace Go.Proofs.YtjebkokkgkkogaaDoor.Oct
open Go.ChangeShapes Go.WideShapes Go.ChangeAt Go.RowKit
set_option linter.unusedVariables false

/-- the table's numbers -/
def kL : List (BitVec 32) := [1116352408#32, 1899447441#32, 3049323471#32, 3921009573#32, 961987163#32, 1508970993#32, 2453635748#32, 2870763221#32, 3624381080#32, 310598401#32, 607225278#32, 1426881987#32, 1925078388#32, 2162078206#32, 2614888103#32, 3248222580#32, 3835390401#32, 4022224774#32, 264347078#32, 604807628#32, 770255983#32, 1249150122#32, 1555081692#32, 1996064986#32, 2554220882#32, 2821834349#32, 2952996808#32, 3210313671#32, 3336571891#32, 3584528711#32, 113926993#32, 338241895#32, 666307205#32, 773529912#32, 1294757372#32, 1396182291#32, 1695183700#32, 1986661051#32, 2177026350#32, 2456956037#32, 2730485921#32, 2820302411#32, 3259730800#32, 3345764771#32, 3516065817#32, 3600352804#32, 4094571909#32, 275423344#32, 430227734#32, 506948616#32, 659060556#32, 883997877#32, 958139571#32, 1322822218#32, 1537002063#32, 1747873779#32, 1955562222#32, 2024104815#32, 2227730452#32, 2361852424#32, 2428436474#32, 2756734187#32, 3204031479#32, 3329325298#32]
def kF : Wf := fun i => kL.getD i 0#32
/-- the table lies in the block of its variable -/
structure Tab (w : World) : Prop where
  pos : 0 < w.heap.size
  cell : ∀ i, i < 64 → w.cell? ⟨0, i, none⟩ = some (.int .u32 (M (kF i)))
theorem Tab.below {B : Nat} {w w' : World} (h : Tab w) (hb : Below B w w') (hB : 0 < B) : Tab w' :=
  ⟨Nat.lt_of_lt_of_le h.pos hb.size, fun i hi => by rw [hb.cell (p := ⟨0, i, none⟩) hB]; exact h.cell i hi⟩
theorem Tab.after {W : World} (h : Tab W) (x : After W) : Tab x.val := h.below x.below h.pos
theorem Tab.drewN {w : World} (h : Tab w) (n : Nat) : Tab (w.drewN n) := ⟨h.pos, h.cell⟩
theorem Tab.alloc {w : World} (h : Tab w) (o : Obj) : Tab (w.alloc o) := h.below ((Below.refl _ _).alloc (Nat.le_refl _) o) h.pos

/-- eight words laid one by one -/
def oct8 (a b c d e f g h : BitVec 32) : Wf := updA (updA (updA (updA (updA (updA (updA (updA (fun _ => 0#32) 0 a) 1 b) 2 c) 3 d) 4 e) 5 f) 6 g) 7 h
theorem oct8_eq (a b c d e f g h : BitVec 32) (i : Nat) (hi : i < 8) : oct8 a b c d e f g h i = oct a b c d e f g h i := by
  match i, hi with
  | 0, _ => rfl
  | 1, _ => rfl
  | 2, _ => rfl
  | 3, _ => rfl
  | 4, _ => rfl
  | 5, _ => rfl
  | 6, _ => rfl
  | 7, _ => rfl
theorem oct_same (s : Wf) (i : Nat) (hi : i < 8) : oct (s 0) (s 1) (s 2) (s 3) (s 4) (s 5) (s 6) (s 7) i = s i := by
  match i, hi with
  | 0, _ => rfl
  | 1, _ => rfl
  | 2, _ => rfl
  | 3, _ => rfl
  | 4, _ => rfl
  | 5, _ => rfl
  | 6, _ => rfl
  | 7, _ => rfl

set_option maxRecDepth 20000 in
set_option maxHeartbeats 4000000 in
theorem press_any (h : Wf) (m : Bf) (w : World) (ht : Tab w) :
    Calls Tryd.prog 10 #[.agg (wa 8 h), .agg (ba 64 m)] w fun e w' => e = .returned (.agg (wa 8 (prF kF h m))) ∧ Below w.heap.size w w' := by
  have B0 := Lib.hid ((((Below.refl w.heap.size w).alloc (by simp) (.cells (wa 8 h) 29)).alloc (by simp) (.cells (ba 64 m) 30)).alloc (by simp; omega) (.cells (wa 8 fun _ => 0#32) 29))
  have q0 : row (((w.alloc (.cells (wa 8 h) 29)).alloc (.cells (ba 64 m) 30)).alloc (.cells (wa 8 fun _ => 0#32) 29)) w.heap.size = some (wa 8 h) := by simp [go_sem]
  have q2 : row (((w.alloc (.cells (wa 8 h) 29)).alloc (.cells (ba 64 m) 30)).alloc (.cells (wa 8 fun _ => 0#32) 29)) (w.heap.size + 1 + 1) = some (wa 8 fun _ => 0#32) := by simp [go_sem]
  have HT0 := Lib.hid (ht.below B0.out ht.pos)
  have HT := Lib.hid ht
  clear ht
  go_enter Tryd.func10, Tryd.ntmps10
  go_wp2_with fail
  go_quiet (fail)
  go_wp2_with fail
  go_quiet (fail)
  go_wp2_with fail
  refine (sched_any m _).mono ?_
  rintro e w1 ⟨rfl, hb1⟩
  have r0 := carry hb1 (b := w.heap.size) (c := wa 8 h) (by rw [row_drewN]; exact q0)
  have r2 := carry hb1 (b := w.heap.size + 1 + 1) (c := wa 8 fun _ => 0#32) (by rw [row_drewN]; exact q2)
  have B1 := Lib.hid (onto (below_drewN B0.out _) (by simp; omega) hb1)
  have s1 : w.heap.size + 3 ≤ w1.heap.size := by have := hb1.size; simp at this; omega
  have HT1 := Lib.hid (HT.out.below B1.out HT.out.pos)
  clear hb1 q0 q2 B0 HT0
  have HR0 := Lib.hid r0
  have HR2 := Lib.hid r2
  clear r0 r2
  go_wp2_with fail
  go_loopw [5, 6, 7, 8, 9, 10, 11, 12, 13, 14, 15, 16, 35] (fun v5 v6 v7 v8 v9 v10 v11 v12 _ _ _ _ i wr => ∃ t n : Nat, ∃ S : Wf, t ≤ 64 ∧ S = rds kF (sch m 64) h t ∧ i = .int .i64 t ∧ v5 = .int .u32 (M (S 0)) ∧ v6 = .int .u32 (M (S 1)) ∧ v7 = .int .u32 (M (S 2)) ∧ v8 = .int .u32 (M (S 3)) ∧ v9 = .int .u32 (M (S 4)) ∧ v10 = .int .u32 (M (S 5)) ∧ v11 = .int .u32 (M (S 6)) ∧ v12 = .int .u32 (M (S 7)) ∧ wr = w1.drewN n) (fun _ _ _ _ _ _ _ _ _ _ _ _ i _ => 64 - (intOf i).toNat)
  case atStart => exact ⟨0, 0, h, by omega, rfl, rfl, rfl, rfl, rfl, rfl, rfl, rfl, rfl, rfl, rfl⟩
  case round =>
    obtain ⟨t, n, S, ht, hS, rfl, rfl, rfl, rfl, rfl, rfl, rfl, rfl, rfl, rfl⟩ := hrel
    have HS := Lib.hid hS
    clear hS
    by_cases hlt : t < 64
    · have hd : decide ((t : Int) < 64) = true := by simp; omega
      have hk := HT1.out.cell t hlt
      go_wp2_with fail
      go_quiet ((first | (go_at_call 19; (refine (bg1_any _ _).mono ?_); rintro e w' ⟨rfl, rfl⟩; exact ⟨rfl, _, rfl⟩) | (go_at_call 20; (refine (ch_any _ _ _ _).mono ?_); rintro e w' ⟨rfl, rfl⟩; exact ⟨rfl, _, rfl⟩)))
      go_wp2_with fail
      refine (bg0_any _ _).mono ?_
      rintro e w' ⟨rfl, rfl⟩
      go_wp2_with fail
      refine (mj_any _ _ _ _).mono ?_
      rintro e w' ⟨rfl, rfl⟩
      go_wp2_with fail
      go_roundw
      case rel =>
        refine ⟨t + 1, _, rnd (kF t) (sch m 64 t) S, by omega, by rw [HS.out]; rfl, by go_num, rfl, rfl, rfl, rfl, rfl, rfl, rfl, rfl, rfl⟩
      case measure => simp [intOf]; omega
    · obtain rfl : t = 64 := by omega
      have r0 := HR0.out
      have HV := Lib.hid (show (wa 8 fun i => h i + oct8 (S 0) (S 1) (S 2) (S 3) (S 4) (S 5) (S 6) (S 7) i) = wa 8 (prF kF h m) from wa_ext fun i hi => by
        rw [oct8_eq _ _ _ _ _ _ _ _ i hi, oct_same S i hi, HS.out]
        unfold prF
        rw [BitVec.add_comm])
      go_wp2_with fail
      refine (adds_any _ _ _).mono ?_
      rintro e w2 ⟨rfl, hb2⟩
      rw [show (Value.agg (wa 8 fun i => h i + updA (updA (updA (updA (updA (updA (updA (updA (fun _ => 0#32) 0 (S 0)) 1 (S 1)) 2 (S 2)) 3 (S 3)) 4 (S 4)) 5 (S 5)) 6 (S 6)) 7 (S 7) i)) = .agg (wa 8 (prF kF h m)) from congrArg Value.agg HV.out]
      have r2 := carry hb2 (by rw [row_drewN]; exact HR2.out)
      have B2 := Lib.hid (onto (below_drewN B1.out _) (by simp; omega) hb2)
      clear hb2 r0
      go_wp2_with fail
      refine bodyPost_ret (v := .agg (wa 8 (prF kF h m))) (res_row rfl _ _ (w.heap.size + 1 + 1) _ _ _ rfl (row_setRow r2 _) s8_u (by rw [wa_size]; exact s8_i)) rfl ⟨rfl, ?_⟩
      exact below_setRow B2.out (by omega) _
end Go.Proofs.YtjebkokkgkkogaaDoor.Oct
