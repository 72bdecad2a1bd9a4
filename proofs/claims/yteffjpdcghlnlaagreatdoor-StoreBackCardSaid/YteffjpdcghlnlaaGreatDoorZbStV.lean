import Derived.Test.YteffjpdcghlnlaaGreatDoorZbStUa
import Derived.Test.YteffjpdcghlnlaaGreatDoorZbStB1
import Derived.Test.YteffjpdcghlnlaaGreatDoorZbPkAll
import Derived.Test.YteffjpdcghlnlaaGreatDoorZbGcm
set_option linter.unusedVariables false
set_option linter.unusedSimpArgs false
set_option maxHeartbeats 4000000
set_option maxRecDepth 20000
namespace Go.Proofs.YteffjpdcghlnlaaGreatDoor.Oct
open Go.ChangeShapes Go.WideShapes Go.ChangeAt Go.RowKit Go.Maps
def RdI (X : Nat) (l : By) (w : World) : Prop := ∃ A c, row w X = some #[.slice A l.length c] ∧ Sl w X A l.length c (lf l) ∧ l.length ≤ 1000000000
def Rdd (X : Nat) (l : By) (w w' : World) : Prop := ∃ A c, Put X #[.slice A l.length c] w w' ∧ Sl w' X A l.length c (lf l) ∧ l.length ≤ 1000000000
section
variable {X : Nat} {l l' l2 : By} {w w' w2 : World}
theorem RdI.lt (h : RdI X l w) : X < w.heap.size := by obtain ⟨A, c, hr, -⟩ := h; exact zL hr
theorem Rdd.inv (h : RdI X l w) (k : Rdd X l' w w') : RdI X l' w' := by
 obtain ⟨A, c, hr, -⟩ := h
 obtain ⟨A', c', hp, hs, hl⟩ := k
 exact ⟨A', c', hp.row hr, hs, hl⟩
theorem Rdd.trans (h : RdI X l w) (k : Rdd X l' w w') (k2 : Rdd X l2 w' w2) : Rdd X l2 w w2 := by
 obtain ⟨A, c, hr, -⟩ := h
 obtain ⟨A', c', hp, -, -⟩ := k
 obtain ⟨A2, c2, hp2, hs2, hl2⟩ := k2
 exact ⟨A2, c2, hp.then hr hp2, hs2, hl2⟩
theorem Rdd.behind (h : RdI X l w) (hb : Below w.heap.size w w') (k : Rdd X l2 w' w2) : Rdd X l2 w w2 := by
 obtain ⟨A2, c2, hp2, hs2, hl2⟩ := k
 exact ⟨A2, c2, Put.behind hb h.lt hp2, hs2, hl2⟩
theorem RdI.below (h : RdI X l w) (hb : Below w.heap.size w w') : RdI X l w' := by
 obtain ⟨A, c, hr, hs, hl⟩ := h
 exact ⟨A, c, zE hb hr, hs.below (hb.mono (Nat.le_of_lt (zL hr))), hl⟩
theorem Rdd.calm (h : RdI X l w) (k : Rdd X l' w w') (hb : Below w'.heap.size w' w2) : Rdd X l' w w2 := by
 obtain ⟨A, c, hp, hs, hl⟩ := k
 exact ⟨A, c, hp.calm hb, hs.below (hb.mono (Nat.le_trans (Nat.le_of_lt h.lt) hp.size)), hl⟩
theorem Rdd.nil (h : RdI X l w) : Rdd X l w w := by
 obtain ⟨A, c, hr, hs, hl⟩ := h
 exact ⟨A, c, Put.nil hr, hs, hl⟩
theorem Rdd.of (h : RdI X l w) (hb : Below w.heap.size w w') : Rdd X l w w' := Rdd.behind h hb (Rdd.nil (h.below hb))
theorem Rdd.size (h : Rdd X l w w') : w.heap.size ≤ w'.heap.size := by obtain ⟨A, c, hp, -⟩ := h; exact hp.size
theorem Rdd.low (h : Rdd X l w w') (hW : X ≤ w.heap.size) : Below X w w' := by obtain ⟨A, c, hp, -⟩ := h; exact hp.low (Nat.le_refl _) hW
theorem Rdd.up (h : Rdd X l' w w') (k : RdI X l w) {b : Nat} (hb : w.heap.size ≤ b) (c : Array Value) : Rdd X l' w (w'.setRow b c) := by
 obtain ⟨A, c', hp, hs, hl⟩ := h
 have hX := k.lt
 refine ⟨A, c', Below.trans hp (zF (Below.refl _ _) hb c), hs.below (zF (Below.refl _ _) (by omega) c), hl⟩
theorem Rdd.row (h : Rdd X l w w') {k : Nat} {c : Array Value} (hk : k ≠ X) (hr : Oct.row w k = some c) : Oct.row w' k = some c := by obtain ⟨A, c', hp, -⟩ := h; exact hp.other hk hr
end
def RdOut {α : Type} (X : Nat) (l : By) (e : α → By) (G : α → Prop) (V : α → Value → World → Prop) (w : World) : Ending → World → Prop := fun E w' =>
 (∃ a v l', G a ∧ l = e a ++ l' ∧ E = .returned v ∧ V a v w' ∧ Rdd X l' w w') ∨ (NoF e G l ∧ ∃ z l', z ≠ 0 ∧ E = .panicked (pnE z) ∧ Rdd X l' w w')
theorem front_no {α : Type} {e : α → By} {G : α → Prop} {l : By} {P : Nat} (hP : P = min l.length 8192) (he : ∀ a, G a → (e a).length ≤ 8192) (h : NoF e G (l.take P)) : NoF e G l := fun a r ha hl => by
 have h1 := he a ha
 have h2 : (e a).length ≤ l.length := by rw [hl, List.length_append]; omega
 exact h a _ ha (cut_none (by omega) hl)
theorem front_drop {l : By} {e : By} {r : By} {P : Nat} (h : l.take P = e ++ r) : l = e ++ l.drop e.length := by
 have h2 := cut_front h
 have h3 : l.drop e.length = r ++ l.drop P := by
  conv => lhs; rw [h2]
  rw [List.drop_left']
  rfl
 rw [h3]
 exact h2
theorem rdd_cut {X n c k : Nat} {A : Option Addr} {l : By} {w w2 : World} (h : RdI X l w) (hb : Below w.heap.size w w2) (hr : row w2 X = some #[.slice A n c]) (hn : n = l.length) (hk : k ≤ n) (v : Value) : Sl (w2.setRow X #[v]) X (cutA A c k) (n - k) (c - k) (lf (l.drop k)) := by
 subst hn
 obtain ⟨A0, c0, hr0, hs0, -⟩ := h.below hb
 have e0 := hr0.symm.trans hr
 simp only [Option.some.injEq, Array.mk.injEq, List.cons.injEq, Value.slice.injEq, and_true] at e0
 obtain ⟨rfl, -, rfl⟩ := e0
 exact ((hs0.from_ k hk).below (zF (Below.refl X w2) (Nat.le_refl _) _)).congr fun i _ => (lf_drop l k i).symm
theorem tx_len (n : Nat) : txL n = encL n + n := rfl
abbrev txG (p : Nat × Bf) : Prop := p.1 ≤ 32
abbrev eTx (p : Nat × Bf) : By := eT p.1 p.2
abbrev rvN (a : Nat) (v : Value) (w : World) : Prop := v = .int .i64 (a : Int)
abbrev rvT (p : Nat × Bf) (v : Value) (w : World) : Prop := ∃ A c, v = .slice A p.1 c ∧ Sl w w.heap.size A p.1 c p.2
abbrev rvR (D : Nat) (r : Rp) (v : Value) (w : World) : Prop := ∃ A c, v = rpV r A c ∧ Sl w w.heap.size A r.T c r.f ∧ ∀ k, k < D → Off k r.T A
theorem partn_any (X : Nat) (l : By) (w : World) (h : RdI X l w) :
  Calls Tryz.prog 156 #[.pointer (some ⟨X, 0, none⟩), .func (.func 157) #[] #[]] w (RdOut X l eN u63 rvN w) := by
 have HI := Lib.hid h
 obtain ⟨A, c, hr, hs, hl⟩ := h
 have hX := zL hr
 have hle := hs.le
 obtain ⟨P, hP⟩ : ∃ P, P = min l.length 8192 := ⟨_, rfl⟩
 have hPl : P ≤ l.length := by omega
 have hP8 : P ≤ 8192 := by omega
 have hT : (l.take P).length = P := by rw [List.length_take]; omega
 have hif : (if (8192 : Int) < (l.length : Int) then (8192 : Int) else (l.length : Int)) = (P : Int) := by split <;> omega
 have hmn : min (l.length : Int) 8192 = (P : Int) := by omega
 have q0 := fun w => run_upto (P := Tryz.prog) zY u8_i A l.length c P (by omega) w
 have HS := Lib.hid (show ∀ w1, Below w.heap.size w w1 → Sl w1 w1.heap.size A P c (lf (l.take P)) from fun w1 hb => ((((hs.below (hb.mono (Nat.le_of_lt hX))).more (Nat.le_trans (Nat.le_of_lt hX) hb.size)).upto P hPl).congr fun i hi => (lf_take _ _ _ hi).symm))
 have HR := Lib.hid hr
 have HP := Lib.hid hP
 have HT := Lib.hid hT
 obtain ⟨n, hn⟩ : ∃ n, n = l.length := ⟨_, rfl⟩
 rw [← hn] at hr hl hle hPl hif hmn q0
 have HN := Lib.hid hn
 clear hs hP hT hn
 go_enter Tryz.func156, Tryz.ntmps156
 go_wp2_with fail
 refine yF [] [0, 1, 2, 3, 4, 5, 6, 7, 8, 9, 10, 11] (by kernel_rfl) (by kernel_rfl) (fun _ _ _ _ _ h => h) fun Y => ?_
 have BY := Lib.hid Y.below
 obtain ⟨w1, hw1⟩ : ∃ w1, w1 = Y.val := ⟨_, rfl⟩
 rw [← hw1] at BY ⊢
 clear hw1 Y
 have r1 := zE BY.out hr
 have a1 : w1.cell? ⟨X, 0, none⟩ = some (.slice A n c) := zG r1 0
 have H1 := Lib.hid (take_num P c A (lf (l.take P)) w1 (HS.out w1 BY.out) (by omega))
 clear hr
 simp only [wpFs, pk, List.getElem?_cons_zero, List.getElem?_cons_succ]
 have k1 := After.cell r1
 repeat (go_big_quiet_step (fail))
 refine wpQuiet_nil ?_
 go_wp2_with fail
 refine H1.out.mono ?_
 rintro e w2 (⟨hz, rfl, hb⟩ | ⟨hz, v, rfl, ho, hb⟩)
 ·have hN : NoF eN u63 l := front_no HP.out (fun a _ => by rw [eN_len]; have := encL_le a; omega) fun a r ha => num_no (by rw [HT.out]; exact hz) a ha r
  have HF := Lib.hid hN
  have B2 := Lib.hid (onto BY.out BY.out.size hb)
  obtain ⟨E, hE⟩ : ∃ E, E = tkE P (lf (l.take P)) := ⟨_, rfl⟩
  rw [← hE] at hz ⊢
  have hzi : ((E : Nat) : Int) ≠ 0 := by omega
  clear hz hb H1 hE hN k1 a1 r1 q0
  go_wp2_with fail
  refine (yH _ hzi _).mono ?_
  rintro e w3 ⟨rfl, rfl⟩
  go_wp2_with fail
  exact ⟨rfl, .inr ⟨HF.out, _, l, hzi, rfl, Rdd.of HI.out B2.out⟩⟩
 ·obtain ⟨A1, c1, hv, hs1, -, -⟩ := ho.sl
  subst hv
  obtain ⟨e1, e2, e3⟩ := num_ok (l := l.take P) (by rw [HT.out]; exact hz)
  have hLP := tkL_le hz
  have hd := front_drop e1
  rw [eN_len, (enc_tk hz).1] at hd
  have r2 := zE hb r1
  have f2 := zN r2 0
  have a2 : w2.cell? ⟨X, 0, none⟩ = some (.slice A n c) := zG r2 0
  have HB2 := Lib.hid (onto BY.out BY.out.size hb)
  have HRR := Lib.hid r2
  obtain ⟨L, hL⟩ : ∃ L, L = tkL (lf (l.take P)) := ⟨_, rfl⟩
  obtain ⟨V, hV⟩ : ∃ V, V = tkV (lf (l.take P)) := ⟨_, rfl⟩
  rw [← hL, ← hV] at hd
  rw [← hL] at hLP ⊢
  rw [← hV] at e2 ⊢
  have HD := Lib.hid (And.intro e2 hd)
  have s1 : IntKind.i64.wrap ((P : Int) - ((P - L : Nat) : Int)) = (L : Int) := by rw [show (P : Int) - ((P - L : Nat) : Int) = (L : Int) by omega, IntKind.wrap_i64]; omega
  have s2 : (P : Int) - ((P - L : Nat) : Int) = (L : Int) := by omega
  have q1 := fun w => yZ (P := Tryz.prog) zY u8_i A n c L (by omega) w
  clear hz hb H1 ho hs1 hL hV e1 e2 e3 hd k1 a1 r1 q0
  go_wp2_with fail
  refine (yL _).mono ?_
  rintro e w3 ⟨rfl, rfl⟩
  go_wp2_with fail
  go_ret
  have hn := HN.out
  refine .inl ⟨V, _, l.drop L, HD.out.1, HD.out.2, rfl, rfl, cutA A c L, c - L, ?_, ?_, ?_⟩
  ·rw [zJ HRR.out, List.length_drop, ← hn]
   exact Put.of HB2.out hX _
  ·rw [zJ HRR.out, List.length_drop, ← hn]
   exact rdd_cut HI.out HB2.out HRR.out hn (by omega) _
  ·rw [List.length_drop]; omega
theorem wide1_any (n c : Nat) (A : Option Addr) (f : Bf) (w : World) (hs : Sl w w.heap.size A n c f) (hn : n ≤ 140737488355328) :
  Calls Tryz.prog 154 #[.slice A n c] w (ttP n 32 f w) := by
 have H1 := Lib.hid (taket_any n c 32 A f w hs hn)
 clear hs
 go_enter Tryz.func154, Tryz.ntmps154
 go_wp2_with fail
 refine H1.out.mono ?_
 rintro e w1 (⟨hz, rfl, hb⟩ | ⟨hz, u, v, rfl, ho, hv, hb⟩)
 ·have HZ := Lib.hid (And.intro hz hb)
  clear hz hb H1
  go_wp2_with fail
  exact bodyPost_ret (v := .tuple #[.slice none 0 0, .slice none 0 0, .int .i64 (ttE n 32 f : Nat)]) (by simp [results, Tryz.results154, go_sem]) rfl (.inl ⟨HZ.out.1, rfl, HZ.out.2⟩)
 ·have HZ := Lib.hid (And.intro hz (And.intro ho (And.intro hv hb)))
  clear hz hb ho hv H1
  go_wp2_with fail
  exact bodyPost_ret (v := .tuple #[u, v, .int .i64 0]) (by simp [results, Tryz.results154, go_sem]) rfl (.inr ⟨HZ.out.1, u, v, rfl, HZ.out.2.1, HZ.out.2.2.1, HZ.out.2.2.2⟩)
theorem vt_set {X m cu n c : Nat} {A Au : Option Addr} {F : Bf} {w : World} (h : Sl w w.heap.size Au m cu F) (hr : row w X = some #[.slice A n c]) (v : Value) : Sl (w.setRow X #[v]) (w.setRow X #[v]).heap.size Au m cu F := by
 rw [show (w.setRow X #[v]).heap.size = w.heap.size by simp]
 refine ⟨h.le, fun hm => ?_⟩
 obtain ⟨g, o, e, hg, hc⟩ := h.at_ hm
 refine ⟨g, o, e, hg, fun i hi => ?_⟩
 have hne : g ≠ X := fun e => by
  subst e
  have h0 := hc 0 hm
  rw [zG hr] at h0
  cases ho : o + 0 with
  | zero => rw [ho] at h0; cases h0
  | succ k => rw [ho] at h0; cases h0
 rw [← hc i hi]
 exact World.cell?_of_block (w := w) (setRow_other w X g _ hne)
theorem partt_any (X : Nat) (l : By) (w : World) (h : RdI X l w) :
  Calls Tryz.prog 153 #[.pointer (some ⟨X, 0, none⟩), .func (.func 154) #[] #[]] w (RdOut X l eTx txG rvT w) := by
 have HI := Lib.hid h
 obtain ⟨A, c, hr, hs, hl⟩ := h
 have hX := zL hr
 have hle := hs.le
 obtain ⟨P, hP⟩ : ∃ P, P = min l.length 8192 := ⟨_, rfl⟩
 have hPl : P ≤ l.length := by omega
 have hP8 : P ≤ 8192 := by omega
 have hT : (l.take P).length = P := by rw [List.length_take]; omega
 have hif : (if (8192 : Int) < (l.length : Int) then (8192 : Int) else (l.length : Int)) = (P : Int) := by split <;> omega
 have hmn : min (l.length : Int) 8192 = (P : Int) := by omega
 have q0 := fun w => run_upto (P := Tryz.prog) zY u8_i A l.length c P (by omega) w
 have HS := Lib.hid (show ∀ w1, Below w.heap.size w w1 → Sl w1 w1.heap.size A P c (lf (l.take P)) from fun w1 hb => ((((hs.below (hb.mono (Nat.le_of_lt hX))).more (Nat.le_trans (Nat.le_of_lt hX) hb.size)).upto P hPl).congr fun i hi => (lf_take _ _ _ hi).symm))
 have HR := Lib.hid hr
 have HP := Lib.hid hP
 have HT := Lib.hid hT
 obtain ⟨n, hn⟩ : ∃ n, n = l.length := ⟨_, rfl⟩
 rw [← hn] at hr hl hle hPl hif hmn q0
 have HN := Lib.hid hn
 clear hs hP hT hn
 go_enter Tryz.func153, Tryz.ntmps153
 go_wp2_with fail
 refine yF [] [0, 1, 2, 3, 4, 5, 6, 7, 8, 9, 10, 11] (by kernel_rfl) (by kernel_rfl) (fun _ _ _ _ _ h => h) fun Y => ?_
 have BY := Lib.hid Y.below
 obtain ⟨w1, hw1⟩ : ∃ w1, w1 = Y.val := ⟨_, rfl⟩
 rw [← hw1] at BY ⊢
 clear hw1 Y
 have r1 := zE BY.out hr
 have a1 : w1.cell? ⟨X, 0, none⟩ = some (.slice A n c) := zG r1 0
 have H1 := Lib.hid (wide1_any P c A (lf (l.take P)) w1 (HS.out w1 BY.out) (by omega))
 clear hr
 simp only [wpFs, pk, List.getElem?_cons_zero, List.getElem?_cons_succ]
 have k1 := After.cell r1
 repeat (go_big_quiet_step (fail))
 refine wpQuiet_nil ?_
 go_wp2_with fail
 refine H1.out.mono ?_
 rintro e w2 (⟨hz, rfl, hb⟩ | ⟨hz, u, v, rfl, hu, ho, hb⟩)
 ·have hN : NoF eTx txG l := front_no HP.out (fun a ha => by rw [eT_len]; have h1 : a.1 ≤ 32 := ha; have := txL_le a.1; omega) fun a r ha => txt_no (m := 32) (by rw [HT.out]; exact hz) a.1 a.2 (by have h1 : a.1 ≤ 32 := ha; omega) (by have h1 : a.1 ≤ 32 := ha; omega) r
  have HF := Lib.hid hN
  have B2 := Lib.hid (onto BY.out BY.out.size hb)
  obtain ⟨E, hE⟩ : ∃ E, E = ttE P 32 (lf (l.take P)) := ⟨_, rfl⟩
  rw [← hE] at hz ⊢
  have hzi : ((E : Nat) : Int) ≠ 0 := by omega
  clear hz hb H1 hE hN k1 a1 r1 q0
  go_wp2_with fail
  refine (yH _ hzi _).mono ?_
  rintro e w3 ⟨rfl, rfl⟩
  go_wp2_with fail
  exact ⟨rfl, .inr ⟨HF.out, _, l, hzi, rfl, Rdd.of HI.out B2.out⟩⟩
 ·obtain ⟨A1, c1, hv, hs1, -, -⟩ := ho.sl
  obtain ⟨Au, cu, hvu, hsu, -, -⟩ := hu.sl
  subst hv hvu
  obtain ⟨e1, e2, e3⟩ := txt_ok (l := l.take P) (m := 32) (by rw [HT.out]; exact hz)
  have hd := front_drop e1
  rw [eT_len, tx_len, (enc_tk (tt_le hz).1).1] at hd
  rw [HT.out] at e3
  have r2 := zE hb r1
  have f2 := zN r2 0
  have a2 : w2.cell? ⟨X, 0, none⟩ = some (.slice A n c) := zG r2 0
  have HB2 := Lib.hid (onto BY.out BY.out.size hb)
  have HRR := Lib.hid r2
  have hM : P - tkL (lf (l.take P)) - tkV (lf (l.take P)) = P - (tkL (lf (l.take P)) + tkV (lf (l.take P))) := by omega
  rw [hM]
  obtain ⟨F, hF⟩ : ∃ F, F = offF (lf (l.take P)) (tkL (lf (l.take P))) := ⟨_, rfl⟩
  obtain ⟨V, hV⟩ : ∃ V, V = tkV (lf (l.take P)) := ⟨_, rfl⟩
  rw [← hF] at hsu hd
  obtain ⟨L, hL⟩ : ∃ L, L = tkL (lf (l.take P)) + tkV (lf (l.take P)) := ⟨_, rfl⟩
  rw [← hL] at hd e3 ⊢
  rw [← hV] at e2 hsu hd ⊢
  have hLP : L ≤ P := e3
  have HD := Lib.hid (show V ≤ 32 ∧ l = eT V F ++ l.drop L from ⟨by omega, hd⟩)
  have HU := Lib.hid hsu
  have s1 : IntKind.i64.wrap ((P : Int) - ((P - L : Nat) : Int)) = (L : Int) := by rw [show (P : Int) - ((P - L : Nat) : Int) = (L : Int) by omega, IntKind.wrap_i64]; omega
  have s2 : (P : Int) - ((P - L : Nat) : Int) = (L : Int) := by omega
  have q1 := fun w => yZ (P := Tryz.prog) zY u8_i A n c L (by omega) w
  clear hz hb H1 ho hs1 hL hV e1 e2 e3 hd k1 a1 r1 q0 hM hF hu hsu
  go_wp2_with fail
  refine (yL _).mono ?_
  rintro e w3 ⟨rfl, rfl⟩
  go_wp2_with fail
  go_ret
  have hn := HN.out
  refine .inl ⟨(V, F), _, l.drop L, HD.out.1, HD.out.2, rfl, ⟨Au, cu, rfl, ?_⟩, cutA A c L, c - L, ?_, ?_, ?_⟩
  ·rw [zJ HRR.out]
   exact vt_set HU.out HRR.out _
  ·rw [zJ HRR.out, List.length_drop, ← hn]
   exact Put.of HB2.out hX _
  ·rw [zJ HRR.out, List.length_drop, ← hn]
   exact rdd_cut HI.out HB2.out HRR.out hn (by omega) _
  ·rw [List.length_drop]; omega
theorem w32_u : Tryz.prog.underlying 60 = some (.array 32 5) := by kernel_rfl
theorem w32_i : (Tryz.prog.info? 60).map (·.size) = some 32 := by kernel_rfl
@[go_sem ↓] theorem w32_l (p : Value) : Instr.loadAt 60 p = ldA 60 p := rfl
@[go_sem ↓] theorem w32_s (p v : Value) : Instr.storeAt 60 p v = stA 60 p v := rfl
@[go_sem] theorem w32_ld (w : World) (b o : Nat) : (ldA 60 (.pointer (some ⟨b, o, none⟩))).run Tryz.prog w = ldR Tryz.prog 60 32 w b o (row w b) := xD _ _ _ w32_u 32 w32_i w b o
@[go_sem] theorem w32_st (w : World) (b o : Nat) (c : Array Value) : (stA 60 (.pointer (some ⟨b, o, none⟩)) (.agg c)).run Tryz.prog w = stR Tryz.prog 60 32 w b o (.agg c) (row w b) := yT _ 32 w32_i w b o c
theorem w32_z : (Tryz.prog.info? 60).map (·.zero) = some (some (.agg (ba 32 fun _ => 0#8))) := by unfold ba; kernel_rfl
@[go_sem ↓] theorem w32_zero (w : World) : (zeroValue 60).run Tryz.prog w = .ok (.agg (ba 32 fun _ => 0#8)) w := yJ _ _ w32_z w
theorem w32_at (a : Addr) (c : Nat) (w : World) : (Instr.arrayAt 60 (.slice (some a) 32 c)).run Tryz.prog w = .ok (.pointer (some a)) w := by
 simp [Instr.arrayAt, run_underlying w32_u]
abbrev rvB (b : Bool) (v : Value) (w : World) : Prop := v = .bool b
abbrev rvW (f : Bf) (v : Value) (w : World) : Prop := v = .agg (ba 32 f)
abbrev tt1 {α : Type} (a : α) : Prop := True
theorem xK (X : Nat) (l : By) (w : World) (h : RdI X l w) : Calls Tryz.prog 104 #[.pointer (some ⟨X, 0, none⟩)] w (RdOut X l eN u63 rvN w) := by
 have H1 := Lib.hid (partn_any X l w h)
 clear h
 go_enter Tryz.func104, Tryz.ntmps104
 go_wp2_with fail
 refine H1.out.mono ?_
 rintro e w1 (⟨a, v, l', hg, hl, rfl, hv, hr⟩ | ⟨hn, z, l', hz, rfl, hr⟩)
 ·have K := Lib.hid (And.intro hg (And.intro hl (And.intro hv hr)))
  clear hg hl hv hr H1
  go_wp2_with fail
  go_ret
  exact .inl ⟨a, v, l', K.out.1, K.out.2.1, rfl, K.out.2.2.1, K.out.2.2.2⟩
 ·have K := Lib.hid (And.intro hn (And.intro hz hr))
  clear hn hz hr H1
  go_wp2_with fail
  exact ⟨rfl, .inr ⟨K.out.1, z, l', K.out.2.1, rfl, K.out.2.2⟩⟩
theorem rdflag_any (X : Nat) (l : By) (w : World) (h : RdI X l w) : Calls Tryz.prog 109 #[.pointer (some ⟨X, 0, none⟩)] w (RdOut X l eB tt1 rvB w) := by
 have H1 := Lib.hid (xK X l w h)
 clear h
 go_enter Tryz.func109, Tryz.ntmps109
 go_wp2_with fail
 refine H1.out.mono ?_
 rintro e w1 (⟨a, v, l', hg, hl, rfl, rfl, hr⟩ | ⟨hn, z, l', hz, rfl, hr⟩)
 ·by_cases h1 : 1 < a
  ·have d1 : decide ((1 : Int) < (a : Int)) = true := decide_eq_true (by omega)
   have d2 : decide (1 < a) = true := decide_eq_true h1
   have K := Lib.hid (And.intro (noB_many hg hl h1) hr)
   clear hg hl hr H1 h1
   go_wp2_with fail
   exact ⟨rfl, .inr ⟨K.out.1, 80, l', by decide, rfl, K.out.2⟩⟩
  ·have d1 : decide ((1 : Int) < (a : Int)) = false := decide_eq_false (by omega)
   have d2 : decide (1 < a) = false := decide_eq_false h1
   have K := Lib.hid (And.intro (show l = eB (decide ((a : Int) = 1)) ++ l' by rw [← eB_of (by omega)]; exact hl) hr)
   clear hg hl hr H1 h1
   go_wp2_with fail
   go_ret
   exact .inl ⟨decide ((a : Int) = 1), _, l', trivial, K.out.1, rfl, by rfl, K.out.2⟩
 ·have K := Lib.hid (And.intro (noB_num hn) (And.intro hz hr))
  clear hn hz hr H1
  go_wp2_with fail
  exact ⟨rfl, .inr ⟨K.out.1, z, l', K.out.2.1, rfl, K.out.2.2⟩⟩
theorem rdwide_any (X : Nat) (l : By) (w : World) (h : RdI X l w) : Calls Tryz.prog 103 #[.pointer (some ⟨X, 0, none⟩)] w (RdOut X l (eT 32) tt1 rvW w) := by
 obtain ⟨w1, hw1⟩ : ∃ w1, w1 = w.alloc (.cells (ba 32 fun _ => 0#8) 60) := ⟨_, rfl⟩
 have b1 : Below w.heap.size w w1 := by rw [hw1]; exact (Below.refl _ _).alloc (Nat.le_refl _) _
 have r1 : row w1 w.heap.size = some (ba 32 fun _ => 0#8) := by rw [hw1]; exact zA _ _ _ _ rfl
 have hX := h.lt
 have H1 := Lib.hid (partt_any X l w1 (h.below b1))
 have B1 := Lib.hid b1
 have R1 := Lib.hid r1
 have HI := Lib.hid h
 have hak := w32_at
 clear h b1 r1
 go_enter Tryz.func103, Tryz.ntmps103
 go_upto_region 1 with fail
 rw [← hw1]
 clear hw1
 go_wp2_with fail
 refine H1.out.mono ?_
 rintro e w2 (⟨⟨n, F⟩, v, l', hg, hl, rfl, ⟨Au, cu, rfl, hu⟩, hr⟩ | ⟨hn, z, l', hz, rfl, hr⟩)
 ·by_cases h32 : n = 32
  ·subst h32
   obtain ⟨g, o, rfl, hgl, hc⟩ := hu.at_ (by show 0 < 32; omega)
   have hld : ldR Tryz.prog 60 32 w2 g o (row w2 g) = .ok (.agg (ba 32 F)) w2 := ldR_cells _ 32 _ w32_u 32 w32_i w2 g o F fun i hi => hc i (by show i < 32; exact hi)
   have r2 := hr.row (by omega) R1.out
   have RR := Lib.hid r2
   have K := Lib.hid (And.intro hl (Rdd.behind HI.out B1.out hr))
   have hz2 := hr.size
   clear hg hl hu hr hc H1
   go_wp2_with fail
   refine bodyPost_ret (v := .agg (ba 32 F)) (yK Tryz.results103 _ _ w.heap.size _ _ rfl (zC RR.out _) w32_u rfl (by rw [zI]; exact w32_i)) rfl (.inl ⟨F, _, l', trivial, K.out.1, rfl, rfl, Rdd.up K.out.2 HI.out (Nat.le_refl _) _⟩)
  ·have d1 : ((n : Int) != 32) = true := by simp; omega
   have d2 : ((n : Int) == 32) = false := by simp; omega
   have K := Lib.hid (And.intro (show NoF (eT 32) tt1 l from fun f r _ he => by
    have hl : l = eT n F ++ l' := hl
    rw [hl] at he
    exact h32 (eT_app (by have : n ≤ 32 := hg; omega) (by omega) he).1) (Rdd.behind HI.out B1.out hr))
   clear hg hl hu hr H1
   go_wp2_with fail
   exact ⟨rfl, .inr ⟨K.out.1, 80, l', by decide, rfl, K.out.2⟩⟩
 ·have K := Lib.hid (And.intro (show NoF (eT 32) tt1 l from fun f r _ he => hn (32, f) r (Nat.le_refl _) he) (And.intro hz (Rdd.behind HI.out B1.out hr)))
  clear hn hz hr H1
  go_wp2_with fail
  exact ⟨rfl, .inr ⟨K.out.1, z, l', K.out.2.1, rfl, K.out.2.2⟩⟩
end Go.Proofs.YteffjpdcghlnlaaGreatDoor.Oct
