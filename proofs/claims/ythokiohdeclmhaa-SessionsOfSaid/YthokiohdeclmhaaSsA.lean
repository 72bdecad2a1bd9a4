/- Contracts: slices.Clone of bytes, sessions' cloneSeat. -/
import Derived.Test.YthokiohdeclmhaaSsLay
namespace Go.Proofs.Ythokiohdeclmhaa.Oct
open Go.ChangeShapes Go.WideShapes Go.ChangeAt Go.RowKit
set_option linter.unusedVariables false

theorem ld_rowS {P : Program} (t : Nat) (d : TypeDesc) (hu : P.underlying t = some d) (hd : d.isRow = true) (m : Nat) (hi : (P.info? t).map (·.size) = some m) (w : World) (b o : Nat) :
    (ldA t (.pointer (some ⟨b, o, none⟩))).run P w = ldR P t m w b o (row w b) := by
  unfold ldR
  split
  · rename_i c hr
    split
    · rename_i hc
      obtain ⟨t', ht⟩ := row_is hr
      have hx := run_loadAt_mid (P := P) w b o t (c.extract o (o + m)).toList _ (World.rangeAt_of_block ht o m) hu hd (by rw [hi]; simp; omega)
      rw [Array.toArray_toList] at hx
      exact hx
    · rfl
  · rfl
theorem se_i : (Try.prog.info? 50).map (·.size) = some 6 := by kernel_rfl
@[go_sem ↓] theorem se_l (p : Value) : Instr.loadAt 50 p = ldA 50 p := rfl
@[go_sem ↓] theorem se_s (p v : Value) : Instr.storeAt 50 p v = stA 50 p v := rfl
@[go_sem] theorem se_ld (w : World) (b o : Nat) : (ldA 50 (.pointer (some ⟨b, o, none⟩))).run Try.prog w = ldR Try.prog 50 6 w b o (row w b) := ld_rowS _ _ Try.underlying50 rfl 6 se_i w b o
@[go_sem] theorem se_st (w : World) (b o : Nat) (c : Array Value) : (stA 50 (.pointer (some ⟨b, o, none⟩)) (.agg c)).run Try.prog w = stR Try.prog 50 6 w b o (.agg c) (row w b) := st_rule _ 6 se_i w b o c
@[go_sem] theorem se_ldx (P : Program) (t : Nat) (w : World) (b : Nat) (x0 x1 x2 x3 x4 x5 : Value) : ldR P t 6 w b 0 (some #[x0, x1, x2, x3, x4, x5]) = .ok (.agg #[x0, x1, x2, x3, x4, x5]) w := ldR_whole P t 6 w b _ rfl
theorem ones6 (x0 x1 x2 x3 x4 : Int) (A : Option Addr) (n c : Nat) : Ones #[.int .i64 x0, .int .i64 x1, .int .i64 x2, .int .i64 x3, .int .i64 x4, .slice A n c] := by
  unfold Ones
  have a (x : Int) : (Value.int .i64 x).oneCell' = true := rfl
  have b : (Value.slice A n c).oneCell' = true := rfl
  simp [a, b]
@[go_sem] theorem se_stx (P : Program) (t : Nat) (w : World) (b : Nat) (x0 x1 x2 x3 x4 : Int) (A : Option Addr) (n c : Nat) (y0 y1 y2 y3 y4 y5 : Value) :
    stR P t 6 w b 0 (.agg #[.int .i64 x0, .int .i64 x1, .int .i64 x2, .int .i64 x3, .int .i64 x4, .slice A n c]) (some #[y0, y1, y2, y3, y4, y5]) = .ok () (w.setRow b #[.int .i64 x0, .int .i64 x1, .int .i64 x2, .int .i64 x3, .int .i64 x4, .slice A n c]) :=
  stR_whole P t 6 w b _ _ rfl rfl (ones6 _ _ _ _ _ _ _ _)
theorem rp_i : (Try.prog.info? 31).map (·.size) = some 4 := by kernel_rfl
@[go_sem ↓] theorem rp_l (p : Value) : Instr.loadAt 31 p = ldA 31 p := rfl
@[go_sem ↓] theorem rp_s (p v : Value) : Instr.storeAt 31 p v = stA 31 p v := rfl
@[go_sem] theorem rp_ld (w : World) (b o : Nat) : (ldA 31 (.pointer (some ⟨b, o, none⟩))).run Try.prog w = ldR Try.prog 31 4 w b o (row w b) := ld_rowS _ _ Try.underlying31 rfl 4 rp_i w b o
@[go_sem] theorem rp_st (w : World) (b o : Nat) (c : Array Value) : (stA 31 (.pointer (some ⟨b, o, none⟩)) (.agg c)).run Try.prog w = stR Try.prog 31 4 w b o (.agg c) (row w b) := st_rule _ 4 rp_i w b o c
@[go_sem] theorem rp_ldx (P : Program) (t : Nat) (w : World) (b : Nat) (x0 x1 x2 x3 : Value) : ldR P t 4 w b 0 (some #[x0, x1, x2, x3]) = .ok (.agg #[x0, x1, x2, x3]) w := ldR_whole P t 4 w b _ rfl
@[go_sem] theorem rp_ld2 (P : Program) (t : Nat) (w : World) (b : Nat) (x0 x1 x2 x3 x4 x5 : Value) : ldR P t 4 w b 2 (some #[x0, x1, x2, x3, x4, x5]) = .ok (.agg #[x2, x3, x4, x5]) w := by unfold ldR; simp
theorem ones4 (x0 x1 x2 : Int) (A : Option Addr) (n c : Nat) : Ones #[.int .i64 x0, .int .i64 x1, .int .i64 x2, .slice A n c] := by
  unfold Ones
  have a (x : Int) : (Value.int .i64 x).oneCell' = true := rfl
  have b : (Value.slice A n c).oneCell' = true := rfl
  simp [a, b]
@[go_sem] theorem rp_stx (P : Program) (t : Nat) (w : World) (b : Nat) (x0 x1 x2 : Int) (A : Option Addr) (n c : Nat) (y0 y1 y2 y3 : Value) :
    stR P t 4 w b 0 (.agg #[.int .i64 x0, .int .i64 x1, .int .i64 x2, .slice A n c]) (some #[y0, y1, y2, y3]) = .ok () (w.setRow b #[.int .i64 x0, .int .i64 x1, .int .i64 x2, .slice A n c]) :=
  stR_whole P t 4 w b _ _ rfl rfl (ones4 _ _ _ _ _ _)
@[go_sem] theorem setRow_sizeS (w : World) (b : Nat) (c : Array Value) : (w.setRow b c).heap.size = w.heap.size := by simp
set_option maxHeartbeats 1000000 in
theorem sclone_any (n c : Nat) (A : Option Addr) (b : Bf) (w : World) (hs : Sl w w.heap.size A n c b) (hn : n ≤ 140737488355328) :
    Calls Try.prog 38 #[.slice A n c] w fun e w' => ∃ v, e = .returned v ∧ Own w' w.heap.size 5 v n b ∧ Below w.heap.size w w' := by
  have HS := Lib.hid hs
  go_enter Try.func38, Try.ntmps38
  cases A with
  | none =>
    have h0 := hs.nil_zero rfl
    subst h0
    clear hs
    have qT := fun (w : World) (n c : Nat) => Lib.run_eql_slice_nil (P := Try.prog) w 29 5 none n c 0 0 sli_u
    go_wp2_with fail
    go_ret
    exact ⟨_, rfl, Own.nil _ _ _ _, Below.refl _ _⟩
  | some a =>
    clear hs
    have qT := fun (w : World) (n c : Nat) => Lib.run_eql_slice_nil (P := Try.prog) w 29 5 (some a) n c 0 0 sli_u
    have O1 := Lib.hid (show Own (w.alloc (.cells #[] 5)) w.heap.size 5 (.slice (some ⟨w.heap.size, 0, none⟩) 0 0) 0 b from Own.empty w w.heap.size 5 _ (Nat.le_refl _))
    have B1 := (Below.refl w.heap.size w).alloc (Nat.le_refl _) (.cells #[] 5)
    have S1 := HS.out.below B1
    have hb : w.heap.size ≤ (w.alloc (.cells #[] 5)).heap.size := by simp
    go_wp2_with (at_builtin; refine wpl_appB rfl (.tmp 5) (.tmp 6) rfl sli_u u8_info O1.out S1 (by omega) hb rfl rfl ?_; intro v4 w4 ho4 hg4 ht4)
    go_ret
    exact ⟨_, rfl, by rw [Nat.zero_add, catF_zero] at ho4; exact ho4, O1.out.after hg4 B1 hb (Nat.le_refl _)⟩
theorem res_cS {P : Program} {fn : Func} {p : Tmp} {ty : TypeId} (h : fn.results = #[.cell p ty]) (tmps : Array Value) (w : World) (b : Nat) (c : Array Value) (d : TypeDesc)
    (hp : tmps.getD p undef = .pointer (some ⟨b, 0, none⟩)) (hr : row w b = some c) (hu : P.underlying ty = some d) (hd : d.isRow = true) (hi : (P.info? ty).map (·.size) = some c.size) :
    (results fn tmps).run P w = .ok (.agg c) w := by
  have hp2 : tmps[p]?.getD undef = .pointer (some ⟨b, 0, none⟩) := by simpa using hp
  simp only [results, h]
  simp [hp2, asAddr, load_row hr hu hd hi]
theorem cells6 {w : World} {B : Nat} {a b c d e f : Value} (h : row w B = some #[a, b, c, d, e, f]) : w.cell? ⟨B, 0, none⟩ = some a ∧ w.cell? ⟨B, 1, none⟩ = some b ∧ w.cell? ⟨B, 2, none⟩ = some c ∧ w.cell? ⟨B, 3, none⟩ = some d ∧ w.cell? ⟨B, 4, none⟩ = some e ∧ w.cell? ⟨B, 5, none⟩ = some f := by
  simp only [cell_row h]
  exact ⟨rfl, rfl, rfl, rfl, rfl, rfl⟩
theorem seat_z (w : World) : (zeroValue 50).run Try.prog w = .ok (seV (.new 0) (.slice none 0 0)) w := Try.zeroValue50 w
set_option maxRecDepth 20000 in
set_option maxHeartbeats 2000000 in
theorem cseat_any (s : Se) (A : Option Addr) (c : Nat) (w : World) (hs : Sl w w.heap.size A s.T c s.f) (hn : s.T ≤ 140737488355328) :
    Calls Try.prog 30 #[seV s (.slice A s.T c)] w fun e w' => ∃ A' c', e = .returned (seV s (.slice A' s.T c')) ∧ Own w' w.heap.size 5 (.slice A' s.T c') s.T s.f ∧ Below w.heap.size w w' := by
  obtain ⟨w1, hw1⟩ : ∃ w1, w1 = (w.alloc (.cells #[.int .i64 s.id, .int .i64 s.q, .int .i64 s.c, .int .i64 s.n, .int .i64 s.m, .slice A s.T c] 50)).alloc (.cells #[.int .i64 0, .int .i64 0, .int .i64 0, .int .i64 0, .int .i64 0, .slice none 0 0] 50) := ⟨_, rfl⟩
  have bw : Below w.heap.size w w1 := by rw [hw1]; exact ((Below.refl _ _).alloc (by simp) _).alloc (by simp) _
  have hz : w1.heap.size = w.heap.size + 2 := by rw [hw1]; simp
  have B1 := Lib.hid bw
  have R1 := Lib.hid (show row w1 w.heap.size = some #[.int .i64 s.id, .int .i64 s.q, .int .i64 s.c, .int .i64 s.n, .int .i64 s.m, .slice A s.T c] by rw [hw1]; exact row_alloc (row_alloc_at _ _ _ _ rfl) _)
  have R2 := Lib.hid (show row w1 (w.heap.size + 1) = some #[.int .i64 0, .int .i64 0, .int .i64 0, .int .i64 0, .int .i64 0, .slice none 0 0] by rw [hw1]; exact row_alloc_at _ _ _ _ (by simp))
  have H1 := Lib.hid (sclone_any s.T c A s.f w1 ((hs.below bw).more bw.size) hn)
  clear hs bw
  go_enter Try.func30, Try.ntmps30
  go_upto_region 1 with fail
  rw [← hw1]
  clear hw1
  obtain ⟨a0, a1, a2, a3, a4, a5⟩ := cells6 R1.out
  go_wp2_with fail
  refine H1.out.mono ?_
  rintro e w2 ⟨v, rfl, ho, hb⟩
  obtain ⟨A', c', rfl, -⟩ := ho.sl
  have R1' := carry hb R1.out
  have R2' := carry hb R2.out
  have B2 := Lib.hid (onto B1.out B1.out.size hb)
  have O2 := Lib.hid ho
  clear a0 a1 a2 a3 a4 a5 ho
  obtain ⟨w3, hw3⟩ : ∃ w3, w3 = w2.setCell ⟨w.heap.size, 5, none⟩ (.slice A' s.T c') := ⟨_, rfl⟩
  have e2 : w3 = w2.setRow w.heap.size #[.int .i64 s.id, .int .i64 s.q, .int .i64 s.c, .int .i64 s.n, .int .i64 s.m, .slice A' s.T c'] := hw3.trans (setCell_row R1' 5 _)
  have R3 : row w3 w.heap.size = some #[.int .i64 s.id, .int .i64 s.q, .int .i64 s.c, .int .i64 s.n, .int .i64 s.m, .slice A' s.T c'] := by rw [e2]; exact row_setRow R1' _
  have R4 : row w3 (w.heap.size + 1) = some #[.int .i64 0, .int .i64 0, .int .i64 0, .int .i64 0, .int .i64 0, .slice none 0 0] := by rw [e2, row_setRow_other _ _ _ _ (by omega)]; exact R2'
  have B3 := Lib.hid (show Below w.heap.size w w3 by rw [e2]; exact below_setRow B2.out (Nat.le_refl _) _)
  have O3 := Lib.hid (show Own w3 w1.heap.size 5 (.slice A' s.T c') s.T s.f by rw [e2]; exact O2.out.setRow _ (fun e => by have := (World.ownsRow.lt O2.out _ e).1; omega) _)
  obtain ⟨a0, a1, a2, a3, a4, a5⟩ := cells6 R1'
  have f5 := froz_row R1' 5
  have g3 := hw3.symm
  clear e2 R2' hw3
  go_wp2_with fail
  exact bodyPost_ret (v := seV s (.slice A' s.T c')) (res_cS Try.results30 _ _ (w.heap.size + 1) _ _ rfl (row_setRow R4 _) Try.underlying50 rfl (by kernel_rfl)) rfl
    ⟨A', c', rfl, (O3.out.setRow _ (fun e => by have := (World.ownsRow.lt O3.out _ e).1; omega) _).base (by omega), below_setRow B3.out (by omega) _⟩
/-- its bytes are new: nobody writes them -/
theorem Own.rdS {w' : World} {D n c : Nat} {A : Option Addr} {f : Bf} {u : TypeId} (h : Own w' D u (.slice A n c) n f) (T : Mk) (t : Nat) : RdS (paint T D t) w' t A n c f :=
  ⟨by obtain ⟨A1, c1, e, hs, -, -⟩ := h.sl; cases e; exact hs, fun hn a ha => paint_new (World.ownsRow.lt h _ (by rw [ha]; rfl)).1⟩
end Go.Proofs.Ythokiohdeclmhaa.Oct
