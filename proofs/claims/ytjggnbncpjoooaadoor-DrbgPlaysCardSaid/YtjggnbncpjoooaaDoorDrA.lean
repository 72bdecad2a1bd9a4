/- Contracts of drbg's pieces: sum, step, mix, update. -/
import Derived.Test.YtjggnbncpjoooaaDoorTyDr
import Derived.Test.YtjggnbncpjoooaaDoorDrMath
import Derived.Test.YtjggnbncpjoooaaDoorMacA
import Derived.Test.YtjggnbncpjoooaaDoorTyBs
namespace Go.Proofs.YtjggnbncpjoooaaDoor.Oct
open Go.ChangeShapes Go.WideShapes Go.ChangeAt Go.RowKit
set_option linter.unusedVariables false

theorem tab_put {B : Nat} {c : Array Value} {w w' : World} (ht : Tab w) (hB : 0 < B) (h : Put B c w w') : Tab w' := ht.below (h.low (D := 1) hB ht.pos) (by omega)

set_option maxHeartbeats 1000000 in
/-- the sum by the source's key of what the parts come to -/
theorem dsum_any (k v f : Bf) (c : Int) (B L : Nat) (pv : Value) (w : World) (ht : Tab w) (hr : row w B = some (srcC k v c))
    (hcat : ∀ x : World, Below w.heap.size w x → Calls Tryd.prog 36 #[pv] x fun e w' => ∃ u, e = .returned u ∧ Own w' x.heap.size 5 u L f ∧ Below x.heap.size x w') (hL : L ≤ 140737488355000) :
    Calls Tryd.prog 39 #[.pointer (some ⟨B, 0, none⟩), pv] w fun e w' => e = .returned (.agg (ba 32 (macF k 32 f L))) ∧ Below w.heap.size w w' := by
  have HT := Lib.hid ht
  have HR := Lib.hid hr
  have HC := Lib.hid hcat
  have a1 := sum_sl_at B 0
  have hz0 : (w.alloc (.cells (ba 32 fun _ => 0#8) 41)).heap.size = w.heap.size + 1 := by simp
  clear ht hr hcat
  go_enter Tryd.func39, Tryd.ntmps39
  go_wp2_with fail
  refine flow_seen [([0, 1, 2, 3, 4], 5, false), ([], 6, false), ([], 7, true)] [] (by kernel_rfl) (by kernel_rfl) (fun _ _ _ _ _ h => h) fun X => ?_
  have hx : Below w.heap.size w X.val := ((Below.refl w.heap.size w).alloc (Nat.le_refl _) _).trans (X.below.mono (by rw [hz0]; omega))
  have hs1 : w.heap.size + 1 ≤ X.val.heap.size := by have := X.below.size; omega
  have r1 : row X.val w.heap.size = some (ba 32 fun _ => 0#8) := carry X.below (row_alloc_at _ _ _ _ rfl)
  have B1 := Lib.hid hx
  have C1 := Lib.hid (HC.out X.val hx)
  clear hx HC
  obtain ⟨w1, hw1⟩ : ∃ w1, w1 = X.val := ⟨_, rfl⟩
  rw [← hw1] at hs1 r1 B1 C1 ⊢
  clear hw1 X hz0
  simp only [wpFs, pk, List.getElem?_cons_zero, List.getElem?_cons_succ]
  repeat (go_big_quiet_step (fail))
  refine wpQuiet_nil ?_
  clear a1
  go_wp2_with fail
  refine C1.out.mono ?_
  rintro e w2 ⟨u, rfl, ho, hb2⟩
  go_wp2_with fail
  refine ⟨.inr hb2, ?_⟩
  obtain ⟨A2, c2, hv, hsl, -, -⟩ := ho.sl
  subst hv
  have S2 := Lib.hid hsl
  have B2 := Lib.hid (onto B1.out (by omega) hb2)
  have r2 := carry hb2 r1
  have hs2 : w1.heap.size ≤ w2.heap.size := hb2.size
  clear ho hsl hb2 r1 C1 B1
  show wpQuiet _ _ _ _ _ _
  refine wpQuiet_nil ?_
  go_wp2_with fail
  refine (msum_any k f 32 L 32 c2 _ A2 w2 (HT.out.below B2.out HT.out.pos) (src_slk (carry B2.out HR.out) _ (by have := row_lt HR.out; omega)) S2.out (by omega) hL).mono ?_
  rintro e w3 ⟨rfl, hb3⟩
  go_wp2_with fail
  refine ⟨.inr hb3, ?_⟩
  have r3 := carry hb3 r2
  have B3 := Lib.hid (onto B2.out (by omega) hb3)
  clear hb3 r2 B2 S2
  show wpQuiet _ _ _ _ _ _
  refine wpQuiet_nil ?_
  go_wp2_with fail
  refine ⟨.inl trivial, ?_⟩
  show wpQuiet _ _ _ _ _ _
  refine wpQuiet_nil ?_
  go_wp2_with fail
  refine bodyPost_ret (v := .agg (ba 32 (macF k 32 f L))) (res_row rfl _ _ w.heap.size _ _ _ rfl (row_setRow r3 _) sum_u (by rw [ba_size]; exact sum_i)) rfl ⟨rfl, ?_⟩
  exact below_setRow B3.out (Nat.le_refl _) _

/-- Concat of one slice of bytes -/
theorem concat1_any (h cap : Nat) {A0 : Option Addr} {n0 c0 : Nat} {b0 : Bf} (w : World) (hr : row w h = some #[.slice A0 n0 c0]) (h0 : Sl w w.heap.size A0 n0 c0 b0) (hT : n0 ≤ 140737488355328) :
    Calls Tryd.prog 36 #[.slice (some ⟨h, 0, none⟩) 1 cap] w fun e w' => ∃ v, e = .returned v ∧ Own w' w.heap.size 5 v n0 b0 ∧ Below w.heap.size w w' := by
  refine (concat_any 1 h cap (fun i => A0) (fun i => n0) (fun i => c0) (fun i => b0) w (fun i hi => ?_) (row_lt hr) (fun i hi => h0) (by omega) (by simp [lenL]; omega)).mono ?_
  · rw [cell_row hr]
    obtain rfl : i = 0 := by omega
    rfl
  · rintro e w' ⟨v, rfl, ho, hb⟩
    refine ⟨v, rfl, ?_, hb⟩
    have e1 : lenL (fun i => n0) 1 = n0 := by simp [lenL]
    rw [e1] at ho
    refine ho.congr fun i hi => ?_
    simp [catsF, lenL, catF_zero]

set_option maxHeartbeats 1000000 in
theorem dstep_any (s : St) (c : Int) (B : Nat) (w : World) (ht : Tab w) (hr : row w B = some (srcC s.1 s.2 c)) (hB : 0 < B) :
    Calls Tryd.prog 33 #[.pointer (some ⟨B, 0, none⟩)] w fun e w' => e = .returned (.tuple #[]) ∧ Put B (srcC s.1 (macF s.1 32 s.2 32) c) w w' := by
  have HT := Lib.hid ht
  have HR := Lib.hid hr
  have a1 := sum_sl_at B 32
  clear ht hr
  go_enter Tryd.func33, Tryd.ntmps33
  go_wp2_with fail
  obtain ⟨w1, hw1⟩ : ∃ w1, w1 = w.alloc (.cells #[.slice (some ⟨B, 32, none⟩) 32 32] 22) := ⟨_, rfl⟩
  have B1 : Below w.heap.size w w1 := by rw [hw1]; exact (Below.refl _ _).alloc (Nat.le_refl _) _
  have rC : row w1 w.heap.size = some #[.slice (some ⟨B, 32, none⟩) 32 32] := by rw [hw1]; exact row_alloc_at _ _ _ _ rfl
  rw [← hw1]
  clear hw1 a1
  have hsz := B1.size
  have R1 := Lib.hid (carry B1 HR.out)
  have hBz := row_lt HR.out
  refine (dsum_any s.1 s.2 s.2 c B 32 _ w1 (HT.out.below B1 HT.out.pos) R1.out (fun x hx => concat1_any _ _ x (carry hx rC) (src_slv (carry hx R1.out) _ (row_lt (carry hx R1.out))) (by omega)) (by omega)).mono ?_
  rintro e w2 ⟨rfl, hb2⟩
  have r2 := carry hb2 R1.out
  have B2 := Lib.hid (onto B1 hsz hb2)
  clear hb2 rC B1 hsz
  go_wp2_with fail
  go_end0
  exact ⟨rfl, Put.of B2.out hBz _⟩

set_option maxHeartbeats 1000000 in
theorem dmix_any (s : St) (c : Int) (B : Nat) (r : BitVec 8) (b : Bf) (n cc : Nat) (A : Option Addr) (w : World) (ht : Tab w) (hr : row w B = some (srcC s.1 s.2 c)) (hB : 0 < B) (hs : Sl w w.heap.size A n cc b) (hn : n ≤ 140737488354000) :
    Calls Tryd.prog 32 #[.pointer (some ⟨B, 0, none⟩), .int .u8 (I r), .slice A n cc] w fun e w' => e = .returned (.tuple #[]) ∧ Put B (srcC (mixS s r b n).1 (mixS s r b n).2 c) w w' := by
  have HT := Lib.hid ht
  have HR := Lib.hid hr
  have HS := Lib.hid hs
  have a1 := sum_sl_at B 32
  clear ht hr hs
  go_enter Tryd.func32, Tryd.ntmps32
  go_wp2_with fail
  obtain ⟨w1, hw1⟩ : ∃ w1, w1 = (w.alloc (.cells #[.int .u8 (I r)] 5)).alloc (.cells #[.slice (some ⟨B, 32, none⟩) 32 32, .slice (some ⟨w.heap.size, 0, none⟩) 1 1, .slice A n cc] 22) := ⟨_, rfl⟩
  have B1 : Below w.heap.size w w1 := by rw [hw1]; exact ((Below.refl _ _).alloc (Nat.le_refl _) _).alloc (by simp) _
  have rC : row w1 (w.heap.size + 1) = some #[.slice (some ⟨B, 32, none⟩) 32 32, .slice (some ⟨w.heap.size, 0, none⟩) 1 1, .slice A n cc] := by rw [hw1]; exact row_alloc_at _ _ _ _ (by simp)
  have s1 : Sl w1 w1.heap.size (some ⟨w.heap.size, 0, none⟩) 1 1 (fun _ => r) := by
    rw [hw1]
    exact ((Sl.one w 5 r (w.heap.size + 1) (by omega)).below ((Below.refl _ _).alloc (by simp) _)).more (by simp)
  rw [← hw1]
  clear hw1 a1
  have hsz := B1.size
  have R1 := Lib.hid (carry B1 HR.out)
  have hBz := row_lt HR.out
  have S1 := (HS.out.below B1).more hsz
  refine (dsum_any s.1 s.2 (mixT s r b) c B (32 + 1 + n) _ w1 (HT.out.below B1 HT.out.pos) R1.out (fun x hx => concat3_any _ _ x (carry hx rC) (src_slv (carry hx R1.out) _ (row_lt (carry hx R1.out))) ((s1.below hx).more hx.size) ((S1.below hx).more hx.size) (by omega)) (by omega)).mono ?_
  rintro e w2 ⟨rfl, hb2⟩
  have r2 := carry hb2 R1.out
  have B2 := Lib.hid (onto B1 hsz hb2)
  obtain ⟨K, hK⟩ : ∃ K, K = macF s.1 32 (mixT s r b) (32 + 1 + n) := ⟨_, rfl⟩
  rw [← hK]
  have HK := Lib.hid hK
  clear hb2 rC B1 hsz s1 S1 hK
  go_wp2_with fail
  obtain ⟨w3, hw3⟩ : ∃ w3, w3 = w2.setRow B (srcC K s.2 c) := ⟨_, rfl⟩
  have P3 := Lib.hid (show Put B (srcC K s.2 c) w w3 by rw [hw3]; exact Put.of B2.out hBz _)
  rw [← hw3]
  clear hw3 r2 B2
  refine (dstep_any (K, s.2) c B w3 (tab_put HT.out hB P3.out) (P3.out.row HR.out) hB).mono ?_
  rintro e w4 ⟨rfl, hp4⟩
  have P4 := Lib.hid (P3.out.then HR.out hp4)
  clear hp4
  go_wp2_with fail
  go_end0
  refine ⟨rfl, ?_⟩
  have e : mixS s r b n = (K, macF K 32 s.2 32) := by unfold mixS; rw [HK.out]
  rw [e]
  exact P4.out

set_option maxHeartbeats 1000000 in
theorem dupd_any (s : St) (c : Int) (B : Nat) (b : Bf) (n cc : Nat) (A : Option Addr) (w : World) (ht : Tab w) (hr : row w B = some (srcC s.1 s.2 c)) (hB : 0 < B) (hs : Sl w w.heap.size A n cc b) (hn : n ≤ 140737488354000) (ho : Off B n A) :
    Calls Tryd.prog 24 #[.pointer (some ⟨B, 0, none⟩), .slice A n cc] w fun e w' => e = .returned (.tuple #[]) ∧ Put B (srcC (updS s b n).1 (updS s b n).2 c) w w' := by
  have HT := Lib.hid ht
  have HR := Lib.hid hr
  have HS := Lib.hid hs
  have HO := Lib.hid ho
  clear ht hr hs ho
  have H0 := Lib.hid (dmix_any s c B 0#8 b n cc A w HT.out HR.out hB HS.out hn)
  go_enter Tryd.func24, Tryd.ntmps24
  go_wp2_with fail
  refine H0.out.mono ?_
  rintro e w1 ⟨rfl, hp1⟩
  have P1 := Lib.hid hp1
  clear H0 hp1
  by_cases h0 : n = 0
  · subst h0
    have hd : decide ((0 : Int) < ((0 : Nat) : Int)) = false := by decide
    go_wp2_with fail
    go_end0
    refine ⟨rfl, ?_⟩
    unfold updS
    rw [if_pos rfl]
    exact P1.out
  · have hd : decide ((0 : Int) < (n : Int)) = true := by simp; omega
    have H1 := Lib.hid (dmix_any (mixS s 0#8 b n) c B 1#8 b n cc A w1 (tab_put HT.out hB P1.out) (P1.out.row HR.out) hB ((P1.out.sl HS.out (Nat.le_refl _) HO.out).more P1.out.size) hn)
    go_wp2_with fail
    refine H1.out.mono ?_
    rintro e w2 ⟨rfl, hp2⟩
    have P2 := Lib.hid (P1.out.then HR.out hp2)
    clear hp2 H1
    go_wp2_with fail
    go_end0
    refine ⟨rfl, ?_⟩
    unfold updS
    rw [if_neg h0]
    exact P2.out

set_option maxHeartbeats 1000000 in
theorem dreseed_any (s : St) (c : Int) (B : Nat) (b : Bf) (n cc : Nat) (A : Option Addr) (w : World) (ht : Tab w) (hr : row w B = some (srcC s.1 s.2 c)) (hB : 0 < B) (hs : Sl w w.heap.size A n cc b) (hn : n ≤ 140737488354000) (ho : Off B n A) :
    Calls Tryd.prog 15 #[.pointer (some ⟨B, 0, none⟩), .slice A n cc] w fun e w' => e = .returned (.tuple #[]) ∧ Put B (srcC (updS s b n).1 (updS s b n).2 1) w w' := by
  have HR := Lib.hid hr
  have H0 := Lib.hid (dupd_any s c B b n cc A w ht hr hB hs hn ho)
  clear ht hr hs ho
  go_enter Tryd.func15, Tryd.ntmps15
  go_wp2_with fail
  refine H0.out.mono ?_
  rintro e w1 ⟨rfl, hp1⟩
  have P1 := Lib.hid hp1
  have r1 := hp1.row HR.out
  have hc := src_cell r1
  have hf := froz_row r1 64
  clear H0 hp1
  go_wp2_with fail
  go_end0
  refine ⟨rfl, ?_⟩
  rw [src_set r1]
  exact P1.out.then HR.out (Put.of (Below.refl _ _) (row_lt r1) _)
end Go.Proofs.YtjggnbncpjoooaaDoor.Oct
