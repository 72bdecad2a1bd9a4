import Derived.Test.YteffjpdcghlnlaaGreatDoorZcEvM
import Derived.Test.YteffjpdcghlnlaaGreatDoorZcKpAll
import Derived.Test.YteffjpdcghlnlaaGreatDoorZcLib
import Derived.Test.YteffjpdcghlnlaaGreatDoorZcPkAll
import Derived.Test.YteffjpdcghlnlaaGreatDoorZcGcm
set_option linter.unusedVariables false
set_option linter.unusedSimpArgs false
set_option maxHeartbeats 4000000
set_option maxRecDepth 20000
namespace Go.Proofs.YteffjpdcghlnlaaGreatDoor.Oct
open Go.ChangeShapes Go.WideShapes Go.ChangeAt Go.RowKit
variable {ko : Nat} {kR : Array Value}
structure KpW (w : World) (B : Nat) (ko : Nat) (kR : Array Value) (K : Ks) : Prop where
 at_ : ∃ c, row w B = some c ∧ KsC ko kR c K
 ok : okK K
structure Chg (B : Nat) (w w' : World) : Prop where
 os : w'.os = w.os
 tape : w'.tape = w.tape
 output : w'.output = w.output
 size : w.heap.size ≤ w'.heap.size
 keep : ∀ k, k < w.heap.size → k ≠ B → w'.heap[k]? = w.heap[k]?
def oneM (B : Nat) : Mk := fun k => if k = B then 1 else 0
section
variable {T T' : Mk} {w w' w2 : World} {t B D : Nat} {K : Ks}
theorem KpAt.kw (h : KpAt T w t B ko kR K) : KpW w B ko kR K := ⟨h.at_, h.ok⟩
theorem KpW.mk' (h : KpW w B ko kR K) (hT : T B = t) : KpAt T w t B ko kR K := ⟨hT, h.at_, h.ok⟩
theorem KpW.one (h : KpW w B ko kR K) : KpAt (oneM B) w 1 B ko kR K := ⟨if_pos rfl, h.at_, h.ok⟩
theorem KpW.lt (h : KpW w B ko kR K) : B < w.heap.size := by obtain ⟨c, hr, _⟩ := h.at_; exact zK hr
theorem KpW.below (h : KpW w B ko kR K) (hb : Below w.heap.size w w') : KpW w' B ko kR K := by obtain ⟨c, hr, hc⟩ := h.at_; exact ⟨⟨c, zC hb hr, hc⟩, h.ok⟩
theorem Fk.chg (h : Fk (oneM B) T' 1 w w') : Chg B w w' := ⟨h.fr.os, h.fr.tape, h.fr.output, h.fr.size, fun k hk hB => h.fr.keep k hk (by unfold oneM; rw [if_neg hB]; intro e; exact absurd e.1 (by decide))⟩
theorem Chg.refl (B : Nat) (w : World) : Chg B w w := ⟨rfl, rfl, rfl, Nat.le_refl _, fun _ _ _ => rfl⟩
theorem Chg.trans (h : Chg B w w') (k : Chg B w' w2) : Chg B w w2 := ⟨k.os.trans h.os, k.tape.trans h.tape, k.output.trans h.output, Nat.le_trans h.size k.size, fun i hi hB => (k.keep i (Nat.lt_of_lt_of_le hi h.size) hB).trans (h.keep i hi hB)⟩
theorem Chg.of (h : Below w.heap.size w w') : Chg B w w' := ⟨h.1, h.2, h.3, h.size, fun k hk _ => h.block k hk⟩
theorem Chg.more (h : Chg B w w') (k : Below w'.heap.size w' w2) : Chg B w w2 := h.trans (Chg.of k)
theorem Chg.fr {H : Nat → Prop} (h : Chg B w w') (hB : H (T B)) (t : Nat) : Fr T (zH T w.heap.size t) H w w' := ⟨h.os, h.tape, h.output, h.size, fun k hk hn => h.keep k hk (fun e => hn (e ▸ hB)), fun k hk => zJ hk⟩
theorem Chg.row (h : Chg B w w') {k : Nat} {c : Array Value} (hr : Oct.row w k = some c) (hk : k ≠ B) : Oct.row w' k = some c := by rw [yX (h.keep k (zK hr) hk)]; exact hr
theorem Chg.sl (h : Chg B w w') {A : Option Addr} {n m D : Nat} {b : Bf} (hs : Sl w D A n m b) (hD : D ≤ w.heap.size) (ho : Off B n A) : Sl w' D A n m b :=
 ⟨hs.le, fun hn => by
  obtain ⟨g, o, e, hg, hc⟩ := hs.at_ hn
  refine ⟨g, o, e, hg, fun i hi => ?_⟩
  have hb := h.keep g (by omega) (ho hn _ e)
  rw [show w'.cell? ⟨g, o + i, none⟩ = w.cell? ⟨g, o + i, none⟩ by unfold World.cell?; rw [hb]]
  exact hc i hi⟩
theorem Chg.sl_up (h : Chg B w w') {A : Option Addr} {n m : Nat} {b : Bf} (hs : Sl w w.heap.size A n m b) (ho : Off B n A) : Sl w' w'.heap.size A n m b := (h.sl hs (Nat.le_refl _) ho).more h.size
theorem Off.nil : Off B 0 none := fun h => absurd h (by omega)
theorem Off.of_zero {A : Option Addr} : Off B 0 A := fun h => absurd h (by omega)
theorem Off.own {D n c : Nat} {A : Option Addr} {b : Bf} {u : TypeId} (h : Own w D u (.slice A n c) n b) (hB : B < D) : Off B n A := fun hn a ha e => by
 obtain ⟨A', c', e', hs, _, h3⟩ := h.sl
 simp only [Value.slice.injEq] at e'
 obtain ⟨rfl, _, rfl⟩ := e'
 rcases h3 with h0 | ⟨g, h0, hg⟩
 ·rw [h0] at ha; cases ha
 ·rw [h0] at ha; cases ha; simp only at e; omega
end
theorem wnew_any (w : World) : Calls Tryz.prog 29 #[] w fun e w' => ∃ B, e = .returned (.pointer (some ⟨B, 0, none⟩)) ∧ KpW w' B 0 ksZ [] ∧ w.heap.size ≤ B ∧ Below w.heap.size w w' := by
 refine (pnew_any (fun _ => 0) 1 w).mono ?_
 rintro e w' ⟨B, T', rfl, hp, hn⟩
 refine ⟨B, rfl, hp.kw, ?_, hn.below⟩
 rcases Nat.lt_or_ge B w.heap.size with h | h
 ·have h1 := hn.tag B h
  rw [hp.tg] at h1
  omega
 ·exact h
theorem wcr_any (B : Nat) (K : Ks) (m : Bf) (w : World) (h : KpW w B ko kR K) :
  Calls Tryz.prog 135 #[.pointer (some ⟨B, ko, none⟩), .agg (ba 32 m)] w fun e w' => e = .returned (.tuple #[.int .i64 (crN K), .int .i64 (crE K)]) ∧ KpW w' B ko kR (crK K m) ∧ Chg B w w' := by
 refine (pcr_any _ 1 B K m w h.one).mono ?_
 rintro e w' ⟨rfl, T', hp, hf⟩
 exact ⟨rfl, hp.kw, hf.chg⟩
theorem wrt_any (B : Nat) (K : Ks) (id : Int) (m : Bf) (w : World) (h : KpW w B ko kR K) :
  Calls Tryz.prog 137 #[.pointer (some ⟨B, ko, none⟩), .int .i64 id, .agg (ba 32 m)] w fun e w' => e = .returned (.tuple #[.int .i64 (rtN K id), .int .i64 (rtE K id)]) ∧ KpW w' B ko kR (rtK K id m) ∧ Chg B w w' := by
 refine (prt_any _ 1 B K id m w h.one).mono ?_
 rintro e w' ⟨rfl, T', hp, hf⟩
 exact ⟨rfl, hp.kw, hf.chg⟩
theorem wus_any (B : Nat) (K : Ks) (id : Int) (w : World) (h : KpW w B ko kR K) :
  Calls Tryz.prog 184 #[.pointer (some ⟨B, ko, none⟩), .int .i64 id] w fun e w' => e = .returned (.tuple #[.int .i64 (usV K id), .int .i64 (usC K id), .agg (ba 32 (usM K id)), .int .i64 (usE K id)]) ∧ KpW w' B ko kR (usK K id) ∧ Chg B w w' := by
 refine (pus_any _ 1 B K id w h.one).mono ?_
 rintro e w' ⟨rfl, T', hp, hf⟩
 exact ⟨rfl, hp.kw, hf.chg⟩
theorem wmt_any (B : Nat) (K : Ks) (id ver : Int) (w : World) (h : KpW w B ko kR K) :
  Calls Tryz.prog 222 #[.pointer (some ⟨B, ko, none⟩), .int .i64 id, .int .i64 ver] w fun e w' => e = .returned (.tuple #[.agg (ba 32 (mtM K id ver)), .int .i64 (mtE K id ver)]) ∧ Below w.heap.size w w' := pmt_any _ 1 B K id ver w h.one
theorem pbl_any (i v : Nat) (n : Bf) (b : Bf) (L c : Nat) (A : Option Addr) (w : World) (hi : i < 9223372036854775808) (hv : v < 9223372036854775808) (hb : Sl w w.heap.size A L c b) (hL : L ≤ 1099511627776) :
  Calls Tryz.prog 186 #[.int .i64 i, .int .i64 v, .agg (ba 12 n), .slice A L c] w fun e w' => ∃ r, e = .returned r ∧ Own w' w.heap.size 5 r (blL i v L) (blF i v n b) ∧ Below w.heap.size w w' := by
 obtain ⟨w0, hw0⟩ : ∃ w0, w0 = w.alloc (.cells (ba 12 n) 217) := ⟨_, rfl⟩
 have q0 : row w0 w.heap.size = some (ba 12 n) := by rw [hw0]; exact zA _ _ _ _ rfl
 have B0 := Lib.hid (show Below w.heap.size w w0 by rw [hw0]; exact (Below.refl w.heap.size w).alloc (by simp) _)
 have HSB := Lib.hid hb
 have HW0 := Lib.hid hw0
 obtain ⟨G, hG⟩ : ∃ G, G = w.heap.size := ⟨_, rfl⟩
 have HG := Lib.hid hG
 rw [← hG] at q0
 clear hb hw0 hG
 go_enter Tryz.func186, Tryz.ntmps186
 go_wp2_with fail
 rw [← HW0.out, ← HG.out]
 refine (put_any i 0 0 none nF w0 (Sl.nothing _ _ _ _ _) (by omega) hi).mono ?_
 rintro e w1 ⟨v1, rfl, ho1, hb1⟩
 rw [xF, Nat.zero_add] at ho1
 obtain ⟨A1, c1, rfl, h1, -, -⟩ := ho1.sl
 have q1 := zC hb1 q0
 have B1 := Lib.hid (onto B0.out B0.out.size hb1)
 have S1 := Lib.hid h1
 clear ho1 h1 hb1 q0 B0 HW0
 go_wp2_with fail
 have hle := encL_le i
 refine (put_any v (encL i) c1 A1 (encF i) w1 S1.out (by omega) hv).mono ?_
 rintro e w2 ⟨v2, rfl, ho2, hb2⟩
 obtain ⟨A2, c2, rfl, h2, -, -⟩ := ho2.sl
 have q2 := zC hb2 q1
 have B2 := Lib.hid (onto B1.out B1.out.size hb2)
 have S2 := Lib.hid (show Sl w2 w2.heap.size A2 (hdL i v) c2 (hdF i v) from h2)
 rw [show encL i + encL v = hdL i v from rfl]
 obtain ⟨N, hN⟩ : ∃ N, N = hdL i v := ⟨_, rfl⟩
 have hN18 : N ≤ 18 := by rw [hN]; exact (hdL_le i v).2
 rw [← hN] at S2 ⊢
 have HN := Lib.hid hN
 clear ho2 h2 hb2 q1 B1 S1 hle hN
 have sA := non_sl_a G w2
 go_wp2_with fail
 obtain ⟨w3, hw3⟩ : ∃ w3, w3 = w2.alloc (.cells #[.slice A2 N c2, .slice (some ⟨G, 0, none⟩) 12 12, .slice A L c] 22) := ⟨_, rfl⟩
 have b3 : Below w2.heap.size w2 w3 := by rw [hw3]; exact (Below.refl _ _).alloc (Nat.le_refl _) _
 have r3 : row w3 w2.heap.size = some #[.slice A2 N c2, .slice (some ⟨G, 0, none⟩) 12 12, .slice A L c] := by rw [hw3]; exact zA _ _ _ _ rfl
 have q3 := zC b3 q2
 have B3 := Lib.hid (onto B2.out B2.out.size b3)
 have T3 := (S2.out.below b3).more b3.size
 have HB3 := (HSB.out.below B3.out).more B3.out.size
 rw [← hw3]
 clear hw3 q2 B2 S2 sA b3
 refine (concat3_any w2.heap.size 3 w3 r3 T3 (Sl.of_row q3 w3.heap.size (zK q3)) HB3 (by omega)).mono ?_
 rintro e w4 ⟨r, rfl, ho, hb4⟩
 have O4 := Lib.hid (show Own w4 w.heap.size 5 r (blL i v L) (blF i v n b) by
  have := ho.base B3.out.size
  rw [HN.out] at this
  unfold blF blL
  exact this)
 have B4 := Lib.hid (onto B3.out B3.out.size hb4)
 clear ho hb4 r3 q3 T3 HB3 B3
 go_wp2
 go_ret
 exact ⟨_, rfl, O4.out, B4.out⟩
def tnB (n : Nat) (f : Bf) : Bool := decide (tkE n f = 0 ∧ 1 ≤ tkV f)
def tnP (n : Nat) (f : Bf) (w : World) (e : Ending) (w' : World) : Prop :=
 (tnB n f = false ∧ e = .returned (.tuple #[.int .i64 0, .slice none 0 0, .int .i64 140]) ∧ Below w.heap.size w w') ∨
 (tnB n f = true ∧ ∃ A c, e = .returned (.tuple #[.int .i64 (tkV f : Nat), .slice A (n - tkL f) c, .int .i64 0]) ∧ Sl w' w'.heap.size A (n - tkL f) c (offF f (tkL f)) ∧ (∀ B, B < w.heap.size → Off B (n - tkL f) A) ∧ Below w.heap.size w w')
theorem tnB_iff {n : Nat} {f : Bf} : tnB n f = true ↔ tkE n f = 0 ∧ 1 ≤ tkV f := by unfold tnB; rw [decide_eq_true_eq]
theorem tnB_no {n : Nat} {f : Bf} : tnB n f = false ↔ ¬ (tkE n f = 0 ∧ 1 ≤ tkV f) := by unfold tnB; rw [decide_eq_false_iff_not]
theorem ptn_any (n c : Nat) (A : Option Addr) (f : Bf) (w : World) (hs : Sl w w.heap.size A n c f) (hn : n ≤ 140737488355328) :
  Calls Tryz.prog 252 #[.slice A n c] w (tnP n f w) := by
 have H0 := Lib.hid (take_num n c A f w hs hn)
 clear hs
 go_enter Tryz.func252, Tryz.ntmps252
 go_wp2_with fail
 refine H0.out.mono ?_
 rintro e w1 (⟨hz, rfl, hb⟩ | ⟨hz, v, rfl, ho, hb⟩)
 ·have HZ := Lib.hid ((tnB_no (n := n) (f := f)).2 fun h => hz h.1)
  have HB := Lib.hid hb
  obtain ⟨E, hE⟩ : ∃ E, E = tkE n f := ⟨_, rfl⟩
  rw [← hE] at hz ⊢
  have hne : ((E : Int) != 0) = true := by simp; omega
  clear hb hE hz H0
  go_wp2_with fail
  exact bodyPost_ret (v := .tuple #[.int .i64 0, .slice none 0 0, .int .i64 140]) (by simp [results, Tryz.results252, go_sem]) rfl (.inl ⟨HZ.out, rfl, HB.out⟩)
 ·obtain ⟨A1, c1, rfl, h1, -, -⟩ := ho.sl
  have S1 := Lib.hid h1
  have HF := Lib.hid (fun B (hB : B < w.heap.size) => Off.own ho hB)
  have HB := Lib.hid hb
  have HZ := Lib.hid hz
  obtain ⟨V, hV⟩ : ∃ V, V = tkV f := ⟨_, rfl⟩
  rw [← hV]
  have HV := Lib.hid hV
  clear hb hV hz H0 ho h1
  by_cases h1 : V < 1
  ·have hd : decide ((V : Int) < 1) = true := by simp; omega
   have HN := Lib.hid ((tnB_no (n := n) (f := f)).2 fun h => by have := HV.out; have := h.2; omega)
   go_wp2_with fail
   exact bodyPost_ret (v := .tuple #[.int .i64 0, .slice none 0 0, .int .i64 140]) (by simp [results, Tryz.results252, go_sem]) rfl (.inl ⟨HN.out, rfl, HB.out⟩)
  ·have hd : decide ((V : Int) < 1) = false := by simp; omega
   have HN := Lib.hid ((tnB_iff (n := n) (f := f)).2 ⟨HZ.out, by have := HV.out; omega⟩)
   go_wp2_with fail
   exact bodyPost_ret (v := .tuple #[.int .i64 V, .slice A1 (n - tkL f) c1, .int .i64 0]) (by simp [results, Tryz.results252, go_sem]) rfl (.inr ⟨HN.out, A1, c1, by rw [HV.out], S1.out, HF.out, HB.out⟩)
theorem res_rd {P : Program} {fn : Func} {p q r u v : Tmp} {ty : TypeId} (h : fn.results = #[.tmp p, .tmp q, .cell r ty, .tmp u, .tmp v]) (tmps : Array Value) (w : World) (b : Nat) (c : Array Value) (d : TypeDesc)
  (hp : tmps.getD r undef = .pointer (some ⟨b, 0, none⟩)) (hr : row w b = some c) (hu : P.underlying ty = some d) (hd : d.isRow = true) (hi : (P.info? ty).map (·.size) = some c.size) :
  (results fn tmps).run P w = .ok (.tuple #[tmps.getD p undef, tmps.getD q undef, .agg c, tmps.getD u undef, tmps.getD v undef]) w := by
 have hp2 : tmps[r]?.getD undef = .pointer (some ⟨b, 0, none⟩) := by simpa using hp
 simp only [results, h]
 simp [hp2, asAddr, ld_rowV hr hu hd hi]
theorem Off.cutK {B n c k : Nat} {A : Option Addr} (h : Off B n A) (hk : k < n) (hnc : n ≤ c) : Off B (n - k) (cutA A c k) := fun hn a ha => by
 unfold cutA at ha
 rw [if_neg (by omega)] at ha
 cases A with
 | none => cases ha
 | some x =>
  have := h (by omega) x rfl
  simp only [Option.map_some, Option.some.injEq] at ha
  subst ha
  cases x
  simp only [Addr.add] at this ⊢
  split <;> exact this
theorem prd_any (n c : Nat) (A : Option Addr) (f : Bf) (w : World) (hs : Sl w w.heap.size A n c f) (hn : n ≤ 140737488355328) :
  Calls Tryz.prog 221 #[.slice A n c] w fun e w' => ∃ A' c', e = .returned (.tuple #[.int .i64 (rdI n f), .int .i64 (rdV n f), .agg (ba 12 (rdN n f)), .slice A' (rdL n f) c', .int .i64 (rdE n f)]) ∧ Sl w' w'.heap.size A' (rdL n f) c' (rdF f) ∧ (∀ B, B < w.heap.size → Off B (rdL n f) A') ∧ Below w.heap.size w w' := by
 have hno : rdB n f = false → ∀ (tm : Array Value), tm.getD 2 undef = .int .i64 0 → tm.getD 3 undef = .int .i64 0 → tm.getD 4 undef = .pointer (some ⟨w.heap.size, 0, none⟩) → tm.getD 5 undef = .slice none 0 0 → tm.getD 6 undef = .int .i64 140 → ∀ (w2 : World), Below w.heap.size w w2 → row w2 w.heap.size = some (ba 12 fun _ => 0#8) →
   bodyPost Tryz.prog Tryz.f221 (fun e w' => ∃ A' c', e = .returned (.tuple #[.int .i64 (rdI n f), .int .i64 (rdV n f), .agg (ba 12 (rdN n f)), .slice A' (rdL n f) c', .int .i64 (rdE n f)]) ∧ Sl w' w'.heap.size A' (rdL n f) c' (rdF f) ∧ (∀ B, B < w.heap.size → Off B (rdL n f) A') ∧ Below w.heap.size w w') .ret { tmps := tm, defers := [] } w2 := by
  intro hB tm e2 e3 e4 e5 e6 w2 hb q2
  refine bodyPost_ret (v := .tuple #[.int .i64 0, .int .i64 0, .agg (ba 12 fun _ => 0#8), .slice none 0 0, .int .i64 140]) ?_ rfl ⟨none, 0, ?_, by rw [rdL_no hB]; exact Sl.nothing _ _ _ _ _, fun B _ => by rw [rdL_no hB]; exact Off.of_zero, hb⟩
  ·have hr := res_rd (P := Tryz.prog) (fn := Tryz.f221) (p := 2) (q := 3) (r := 4) (u := 5) (v := 6) rfl tm w2 w.heap.size (ba 12 fun _ => 0#8) _ e4 q2 non_u rfl (by rw [zG]; exact non_i)
   rw [e2, e3, e5, e6] at hr
   exact hr
  ·rw [rdI_no hB, rdV_no hB, rdN_no hB, rdL_no hB, rdE_no hB]
 have HNO := Lib.hid hno
 clear hno
 obtain ⟨w0, hw0⟩ : ∃ w0, w0 = w.alloc (.cells (ba 12 fun _ => 0#8) 217) := ⟨_, rfl⟩
 have q0 : row w0 w.heap.size = some (ba 12 fun _ => 0#8) := by rw [hw0]; exact zA _ _ _ _ rfl
 have b0 : Below w.heap.size w w0 := by rw [hw0]; exact (Below.refl w.heap.size w).alloc (by simp) _
 have B0 := Lib.hid b0
 have H0 := Lib.hid (ptn_any n c A f w0 ((hs.below b0).more b0.size) hn)
 have HW0 := Lib.hid hw0
 clear hs hw0 b0
 go_enter Tryz.func221, Tryz.ntmps221
 go_wp2_with fail
 rw [← HW0.out]
 refine H0.out.mono ?_
 rintro e w1 (⟨hz, rfl, hb⟩ | ⟨hz, A1, c1, rfl, h1, ho, hb⟩)
 ·have HZ := Lib.hid (show rdB n f = false by
   rw [Bool.eq_false_iff]; intro h; have := rdB_iff.1 h; exact tnB_no.1 hz ⟨this.1, this.2.1⟩)
  have q1 := zC hb q0
  have B1 := Lib.hid (onto B0.out B0.out.size hb)
  have HS1 := Lib.hid (yE q1)
  clear H0 hz hb q0 B0 HW0
  go_wp2_with fail
  exact HNO.out HZ.out _ rfl rfl rfl rfl rfl _ (zE B1.out (Nat.le_refl _) _) (zD q1 _)
 ·have HZ := Lib.hid hz
  have q1 := zC hb q0
  have B1 := Lib.hid (onto B0.out B0.out.size hb)
  obtain ⟨m, hm⟩ : ∃ m, m = n - tkL f := ⟨_, rfl⟩
  obtain ⟨g, hg⟩ : ∃ g, g = offF f (tkL f) := ⟨_, rfl⟩
  have hmn : m ≤ 140737488355328 := by omega
  rw [← hm, ← hg] at h1
  rw [← hm]
  have H1 := Lib.hid (ptn_any m c1 A1 g w1 h1 hmn)
  have HM := Lib.hid hm
  have HG := Lib.hid hg
  have HL := Lib.hid h1.le
  obtain ⟨V, hV⟩ : ∃ V, V = tkV f := ⟨_, rfl⟩
  rw [← hV]
  have HV := Lib.hid hV
  clear H0 hz hb q0 B0 HW0 h1 ho hm hg hV
  go_wp2_with fail
  refine H1.out.mono ?_
  rintro e w2 (⟨hz, rfl, hb⟩ | ⟨hz, A2, c2, rfl, h2, ho, hb⟩)
  ·have HZ2 := Lib.hid (show rdB n f = false by
    rw [Bool.eq_false_iff]; intro h; have := rdB_iff.1 h
    refine tnB_no.1 hz ⟨?_, ?_⟩
    ·rw [HM.out, HG.out]; exact this.2.2.1
    ·rw [HG.out]; exact this.2.2.2.1)
   have q2 := zC hb q1
   have B2 := Lib.hid (onto B1.out B1.out.size hb)
   clear H1 hz hb q1 B1
   go_wp2_with fail
   exact HNO.out HZ2.out _ rfl rfl rfl rfl rfl _ (zE B2.out (Nat.le_refl _) _) (zD q2 _)
  ·have q2 := zC hb q1
   have B2 := Lib.hid (onto B1.out B1.out.size hb)
   obtain ⟨k, hk⟩ : ∃ k, k = m - tkL g := ⟨_, rfl⟩
   obtain ⟨h, hh⟩ : ∃ h, h = offF g (tkL g) := ⟨_, rfl⟩
   rw [← hk, ← hh] at h2
   rw [← hk] at ho ⊢
   obtain ⟨U, hU⟩ : ∃ U, U = tkV g := ⟨_, rfl⟩
   rw [← hU]
   have HU := Lib.hid hU
   have HK := Lib.hid hk
   have HH := Lib.hid hh
   have S2 := Lib.hid h2
   have hsz := B1.out.size
   have HO := Lib.hid (show ∀ B, B < w.heap.size → Off B k A2 from fun B hB => ho B (by omega))
   have HO2 := Lib.hid (ho w.heap.size (zK q1))
   have HZ2 := Lib.hid hz
   have HB := Lib.hid (show rdB n f = decide (28 ≤ k ∧ k ≤ 92) by
    have h1 := tnB_iff.1 HZ.out
    have h2 := tnB_iff.1 HZ2.out
    rw [HM.out, HG.out] at h2
    have e : k = n - tkL f - tkL (rdR f) := by rw [HK.out, HM.out, HG.out]; rfl
    unfold rdB
    congr 1
    apply propext
    rw [e]
    exact ⟨fun h => h.2.2.2.2, fun h => ⟨h1.1, h1.2, h2.1, h2.2, h⟩⟩)
   have hkb : k ≤ 140737488355328 := by omega
   clear H1 hz hb q1 B1 h2 ho hk hh hU hsz HL
   by_cases hlo : k < 28
   ·have HZ3 := Lib.hid (show rdB n f = false by rw [HB.out]; simp; omega)
    have hd : decide ((k : Int) - 12 < 16) = true := by simp; omega
    clear hlo
    go_wp2_with fail
    exact HNO.out HZ3.out _ rfl rfl rfl rfl rfl _ (zE B2.out (Nat.le_refl _) _) (zD q2 _)
   ·have hd : decide ((k : Int) - 12 < 16) = false := by simp; omega
    by_cases hhi : 92 < k
    ·have HZ3 := Lib.hid (show rdB n f = false by rw [HB.out]; simp; omega)
     have hd2 : decide ((80 : Int) < (k : Int) - 12) = true := by simp; omega
     clear hlo hhi
     go_wp2_with fail
     exact HNO.out HZ3.out _ rfl rfl rfl rfl rfl _ (zE B2.out (Nat.le_refl _) _) (zD q2 _)
    ·have hd2 : decide ((80 : Int) < (k : Int) - 12) = false := by simp; omega
     have HZ3 := Lib.hid (show rdB n f = true by rw [HB.out]; simp; omega)
     have h28 : 28 ≤ k := by omega
     clear hlo hhi
     have sA := non_sl_a w.heap.size w2
     go_wp2_with (refine wpl_copy rfl (.tmp 40) (.tmp 41) 22 22 5 rfl zZ u8_i q2 S2.out (show 12 = min k 12 by omega) rfl rfl ?_)
     have eN : ba 12 (putF (fun _ => 0#8) 0 12 h) = ba 12 (rdN n f) := yT fun i hi => by
      rw [rdN_ok HZ3.out, HH.out, HG.out, offF_offF]
      unfold putF rdO rdR
      rw [if_pos (by omega), Nat.sub_zero]
     have eF : offF h 12 = rdF f := by
      rw [HH.out, HG.out, offF_offF, offF_offF]; unfold rdF rdO rdR; rfl
     have eL : k - 12 = rdL n f := by rw [rdL_ok HZ3.out, HK.out, HM.out, HG.out]; rfl
     have q3 := zD q2 (ba 12 (putF (fun _ => 0#8) 0 12 h))
     have ch : Chg w.heap.size w2 (w2.setRow w.heap.size (ba 12 (putF (fun _ => 0#8) 0 12 h))) := ⟨rfl, rfl, rfl, by simp, fun i _ hB => setRow_other w2 _ i _ hB⟩
     have S3 := ch.sl_up S2.out HO2.out
     have B3 := Lib.hid (zE B2.out (Nat.le_refl w.heap.size) (ba 12 (putF (fun _ => 0#8) 0 12 h)))
     rw [eN] at q3 S3 B3 ⊢
     have T3 := Lib.hid (S3.from_ 12 (by omega))
     have HOC := Lib.hid (show ∀ B, B < w.heap.size → Off B (k - 12) (cutA A2 c2 12) from fun B hB => (HO.out B hB).cutK (by omega) S2.out.le)
     rw [eF] at T3
     have fr := run_from zZ u8_i A2 k c2 12 (by omega : 12 ≤ k)
     rw [show ((12 : Nat) : Int) = 12 from rfl] at fr
     rw [eL] at T3 HOC fr
     have HF := Lib.hid fr
     clear S2 S3 q2 B2 ch eN eF eL sA hkb hd hd2 h28 hmn fr
     generalize w2.setRow w.heap.size (ba 12 (rdN n f)) = w3 at q3 B3 T3 ⊢
     obtain ⟨AC, hAC⟩ : ∃ a, a = cutA A2 c2 12 := ⟨_, rfl⟩
     obtain ⟨L, hL⟩ : ∃ a, a = rdL n f := ⟨_, rfl⟩
     obtain ⟨N, hN⟩ : ∃ a, a = rdN n f := ⟨_, rfl⟩
     rw [← hAC, ← hL] at T3 HOC HF
     rw [← hN] at q3
     have HL := Lib.hid hL
     have HN := Lib.hid hN
     clear hAC hL hN
     have frr := HF.out
     simp only [Act.put, List.setIfInBounds_toArray, List.set_cons_succ, List.set_cons_zero]
     refine yL [([0, 1, 2, 3, 4, 5, 6], 7, false)] [8, 9] (by kernel_rfl) (by kernel_rfl) (fun _ _ _ _ _ h => h) fun X => ?_
     have q4 := After.row q3 X
     have B4 := Lib.hid (onto B3.out B3.out.size X.below)
     have T4 := Lib.hid ((T3.out.below X.below).more X.below.size)
     clear q3 B3 T3
     generalize X.val = w4 at q4 B4 T4 ⊢
     clear X
     have k4 := After.row q4
     simp only [wpFs, pk, List.getElem?_cons_zero, List.getElem?_cons_succ]
     repeat (go_big_quiet_step (fail))
     refine wpQuiet_nil ?_
     clear k4
     have e4 : w4.setRow w.heap.size (ba 12 N) = w4 := yE q4
     go_wp2_with fail
     clear e4
     refine ⟨.inr (Below.refl _ _), ?_⟩
     show wpQuiet _ _ _ _ _ _
     repeat (go_big_quiet_step (fail))
     refine wpQuiet_nil ?_
     go_wp2
     have e1 : (V : Int) = rdI n f := by rw [rdI_ok HZ3.out, HV.out]
     have e2 : (U : Int) = rdV n f := by rw [rdV_ok HZ3.out, HU.out, HG.out]; rfl
     refine bodyPost_ret (v := .tuple #[.int .i64 V, .int .i64 U, .agg (ba 12 N), .slice AC L (c2 - 12), .int .i64 0]) ?_ rfl ⟨AC, c2 - 12, ?_, ?_, ?_, B4.out⟩
     ·exact res_rd (P := Tryz.prog) (fn := Tryz.f221) (p := 2) (q := 3) (r := 4) (u := 5) (v := 6) rfl _ w4 w.heap.size (ba 12 N) _ rfl q4 non_u rfl (by rw [zG]; exact non_i)
     ·rw [e1, e2, HN.out, HL.out, rdE_ok HZ3.out]
     ·rw [← HL.out]; exact T4.out
     ·rw [← HL.out]; exact HOC.out
variable {ko : Nat} {kR : Array Value}
theorem pen_any (B : Nat) (K : Ks) (id : Int) (t : Bf) (L cL : Nat) (AL : Option Addr) (s : Bf) (S cS : Nat) (AS : Option Addr) (w : World) (hk : KpW w B ko kR K) (ht : Sl w w.heap.size AL L cL t) (hot : Off B L AL) (hs : Sl w w.heap.size AS S cS s) (hos : Off B S AS) :
  Calls Tryz.prog 140 #[.pointer (some ⟨B, ko, none⟩), .int .i64 id, .slice AL L cL, .slice AS S cS] w fun e w' => ∃ v, e = .returned (.tuple #[v, .int .i64 (enV K id L S), .int .i64 (ecE K id L S)]) ∧ Own w' w.heap.size 5 v (enL K id L S) (enF K id t L s S) ∧ KpW w' B ko kR (enK K id L S) ∧ Chg B w w' := by
 have HK := Lib.hid hk
 have HT := Lib.hid ht
 have HS := Lib.hid hs
 have HOT := Lib.hid hot
 have HOS := Lib.hid hos
 clear ht hs hot hos hk
 by_cases hlong : 64 < L ∨ 32 < S
 ·obtain ⟨e1, e2, e3, e4⟩ := en_long (K := K) (id := id) hlong
  have HE := Lib.hid e1
  have HV := Lib.hid e2
  have HKK := Lib.hid e3
  have HL := Lib.hid e4
  have hfin : ∀ (tm : Array Value), tm.getD 8 undef = .slice none 0 0 → tm.getD 9 undef = .int .i64 0 → tm.getD 10 undef = .int .i64 2 →
    bodyPost Tryz.prog Tryz.f140 (fun e w' => ∃ v, e = .returned (.tuple #[v, .int .i64 (enV K id L S), .int .i64 (ecE K id L S)]) ∧ Own w' w.heap.size 5 v (enL K id L S) (enF K id t L s S) ∧ KpW w' B ko kR (enK K id L S) ∧ Chg B w w') .ret { tmps := tm, defers := [] } w := by
   intro tm e8 e9 e10
   refine bodyPost_ret (v := .tuple #[.slice none 0 0, .int .i64 0, .int .i64 2]) ?_ rfl ⟨_, by rw [HE.out, HV.out], by rw [HL.out]; exact Own.nil _ _ _ _, by rw [HKK.out]; exact HK.out, Chg.refl _ _⟩
   simp at e8 e9 e10
   simp [results, Tryz.results140, go_sem, e8, e9, e10]
  have HFIN := Lib.hid hfin
  clear e1 e2 e3 e4 hfin
  by_cases hl : 64 < L
  ·have hd : decide ((64 : Int) < (L : Int)) = true := by simp; omega
   clear hlong hl
   go_enter Tryz.func140, Tryz.ntmps140
   go_wp2_with fail
   exact HFIN.out _ rfl rfl rfl
  ·have hd : decide ((64 : Int) < (L : Int)) = false := by simp; omega
   have hd2 : decide ((32 : Int) < (S : Int)) = true := by simp; omega
   clear hlong hl
   go_enter Tryz.func140, Tryz.ntmps140
   go_wp2_with fail
   exact HFIN.out _ rfl rfl rfl
 ·have hd : decide ((64 : Int) < (L : Int)) = false := by simp; omega
  have hd2 : decide ((32 : Int) < (S : Int)) = false := by simp; omega
  have HNL := Lib.hid hlong
  clear hlong
  go_enter Tryz.func140, Tryz.ntmps140
  go_wp2_with fail
  refine (wus_any B K id w HK.out).mono ?_
  rintro e w1 ⟨rfl, hk1, hc1⟩
  have hs1 := hc1.size
  have HK1 := Lib.hid hk1
  have HC1 := Lib.hid hc1
  have T1 := Lib.hid (hc1.sl_up HT.out HOT.out)
  have U1 := Lib.hid (hc1.sl_up HS.out HOS.out)
  clear hk1 hc1
  by_cases hu : usE K id = 0
  ·obtain ⟨i, V, C, rfl, hV, hC, hi1, hi8, hV1, hV4, hC16⟩ := us_nat hu HK.out.ok
   obtain ⟨m, hm⟩ : ∃ m, m = usM K (i : Int) := ⟨_, rfl⟩
   have HU := Lib.hid hu
   have HV := Lib.hid hV
   have HC := Lib.hid hC
   have HM := Lib.hid hm
   rw [hV, hC, hu, ← hm]
   have b2 := (Below.refl w1.heap.size w1).alloc (Nat.le_refl _) (.cells (ba 32 m) 61)
   have r2 : row (w1.alloc (.cells (ba 32 m) 61)) w1.heap.size = some (ba 32 m) := zA _ _ _ _ rfl
   have HB2 := Lib.hid b2
   clear hu hV hC hm hs1 b2
   go_wp2_with fail
   generalize w1.alloc (.cells (ba 32 m) 61) = w2 at r2 HB2 ⊢
   refine (pnc_any C (by omega) w2).mono ?_
   rintro e w3 ⟨rfl, hb3⟩
   obtain ⟨N, hN⟩ : ∃ N, N = nonC C := ⟨_, rfl⟩
   rw [← hN]
   have HN := Lib.hid hN
   have b4 := hb3.alloc hb3.size (.cells (ba 12 N) 217)
   have q2 := zC b4 r2
   have q3 : row (w3.alloc (.cells (ba 12 N) 217)) w3.heap.size = some (ba 12 N) := zA _ _ _ _ rfl
   have B4 := Lib.hid (onto HB2.out HB2.out.size b4)
   clear hN hb3 b4 r2 HB2
   obtain ⟨G, hG⟩ : ∃ G, G = w3.heap.size := ⟨_, rfl⟩
   obtain ⟨H, hH⟩ : ∃ H, H = w1.heap.size := ⟨_, rfl⟩
   rw [← hG] at q3
   rw [← hH] at q2
   have HG := Lib.hid hG
   have HH := Lib.hid hH
   clear hG hH
   go_wp2_with fail
   rw [← HG.out, ← HH.out]
   clear HG HH
   generalize w3.alloc (.cells (ba 12 N) 217) = w4 at q2 q3 B4 ⊢
   refine yL [([0, 1, 2, 3, 4, 5, 6, 9], 7, false), ([], 8, false)] [10, 11, 12] (by kernel_rfl) (by kernel_rfl) (fun _ _ _ _ _ h => h) fun X => ?_
   have u2 := zC X.below q2
   have u3 := zC X.below q3
   have B5 := Lib.hid (onto B4.out B4.out.size X.below)
   have T5 := Lib.hid ((T1.out.below B5.out).more B5.out.size)
   have U5 := Lib.hid ((U1.out.below B5.out).more B5.out.size)
   clear q2 q3 B4 T1 U1
   generalize X.val = w5 at u2 u3 B5 T5 U5 ⊢
   clear X
   have k2 := After.row u2
   have k3 := After.row u3
   simp only [wpFs, pk, List.getElem?_cons_zero, List.getElem?_cons_succ]
   repeat (go_big_quiet_step (fail))
   refine wpQuiet_nil ?_
   clear k2 k3
   have hL64 : L ≤ 64 := by have := HNL.out; omega
   have hS32 : S ≤ 32 := by have := HNL.out; omega
   go_wp2_with fail
   refine (gseal_any m N s S cS AS t L cL AL w5 U5.out T5.out (by omega) (by omega)).mono ?_
   rintro e w6 ⟨v, rfl, ho, hb6⟩
   obtain ⟨A6, c6, rfl, h6, -, -⟩ := ho.sl
   have S6 := Lib.hid h6
   have B6 := Lib.hid (onto B5.out B5.out.size hb6)
   have hb6' := Lib.hid hb6
   clear ho h6 hb6 u2 u3 T5 U5 B5
   go_wp2_with fail
   refine ⟨.inr hb6'.out, ?_⟩
   clear hb6'
   show wpQuiet _ _ _ _ _ _
   refine wpQuiet_nil ?_
   go_wp2_with fail
   refine (pbl_any i V N (sealF m N s S t L) (L + 16) c6 A6 w6 (by omega) (by omega) S6.out (by omega)).mono ?_
   rintro e w7 ⟨v, rfl, ho, hb7⟩
   have HO := Lib.hid ho
   have B7 := Lib.hid (onto B6.out B6.out.size hb7)
   have hb7' := Lib.hid hb7
   have hz6 := Lib.hid B6.out.size
   clear ho hb7 S6 B6
   go_wp2_with fail
   refine ⟨.inr hb7'.out, ?_⟩
   clear hb7'
   show wpQuiet _ _ _ _ _ _
   repeat (go_big_quiet_step (fail))
   refine wpQuiet_nil ?_
   go_wp2
   obtain ⟨e1, e2, e3, e4⟩ := en_ok (K := K) (id := (i : Int)) HNL.out HU.out
   refine bodyPost_ret (v := .tuple #[v, .int .i64 V, .int .i64 0]) (by simp [results, Tryz.results140, go_sem]) rfl ⟨v, by rw [e1, e2, HV.out], ?_, ?_, HC1.out.more B7.out⟩
   ·rw [e4, HV.out, Int.toNat_natCast, Int.toNat_natCast]
    refine (HO.out.base (by have := hz6.out; have := HC1.out.size; omega)).congr fun k _ => ?_
    unfold enF
    rw [HV.out, HC.out, ← HM.out, Int.toNat_natCast, Int.toNat_natCast, Int.toNat_natCast, ← HN.out]
   ·rw [e3]
    exact HK1.out.below B7.out
  ·obtain ⟨u, hu2⟩ : ∃ u, u = usE K id := ⟨_, rfl⟩
   rw [← hu2] at hu ⊢
   have hne : (u == 0) = false := by simpa using hu
   have HU := Lib.hid hu2
   have HN := Lib.hid hu
   have b2 := (Below.refl w1.heap.size w1).alloc (Nat.le_refl _) (.cells (ba 32 (usM K id)) 61)
   have HB2 := Lib.hid b2
   clear hu hu2 b2 hs1
   go_wp2_with fail
   obtain ⟨e1, e2, e3, e4⟩ := en_no (K := K) (id := id) HNL.out (by rw [← HU.out]; exact HN.out)
   refine bodyPost_ret (v := .tuple #[.slice none 0 0, .int .i64 0, .int .i64 u]) (by simp [results, Tryz.results140, go_sem]) rfl ⟨_, by rw [e1, e2, ← HU.out], by rw [e4]; exact Own.nil _ _ _ _, ?_, HC1.out.more HB2.out⟩
   rw [e3]
   exact HK1.out.below HB2.out
variable {ko : Nat} {kR : Array Value}
section
variable {K : Ks} {n : Nat} {f s : Bf} {S : Nat}
theorem dc_long (h : 32 < S) : dcE K n f s S = 2 := by unfold dcE; rw [if_pos h]
theorem dc_blob (h : ¬ 32 < S) (hr : rdB n f = false) : dcE K n f s S = 140 := by unfold dcE; rw [if_neg h, if_pos hr]
theorem dc_mat (h : ¬ 32 < S) (hr : rdB n f = true) (hm : mtE K (rdI n f) (rdV n f) ≠ 0) : dcE K n f s S = mtE K (rdI n f) (rdV n f) := by unfold dcE; rw [if_neg h, if_neg (by rw [hr]; decide), if_neg hm]
theorem dc_op (h : ¬ 32 < S) (hr : rdB n f = true) (hm : mtE K (rdI n f) (rdV n f) = 0) : dcE K n f s S = opC (mtM K (rdI n f) (rdV n f)) (rdN n f) s S (rdF f) (rdL n f) := by unfold dcE; rw [if_neg h, if_neg (by rw [hr]; decide), if_pos hm]
theorem dcI_no (h : dcE K n f s S ≠ 0) : dcI K n f s S = 0 := by unfold dcI; rw [if_neg h]
theorem dcL_no (h : dcE K n f s S ≠ 0) : dcL K n f s S = 0 := by unfold dcL; rw [if_neg h]
theorem dcI_ok (h : dcE K n f s S = 0) : dcI K n f s S = rdI n f := by unfold dcI; rw [if_pos h]
theorem dcL_ok (h : dcE K n f s S = 0) : dcL K n f s S = rdL n f - 16 := by unfold dcL; rw [if_pos h]
end
theorem pop_any (B : Nat) (K : Ks) (f : Bf) (n c : Nat) (A : Option Addr) (s : Bf) (S cS : Nat) (AS : Option Addr) (w : World) (hk : KpW w B ko kR K) (hf : Sl w w.heap.size A n c f) (hn : n ≤ 140737488355328) (hs : Sl w w.heap.size AS S cS s) :
  Calls Tryz.prog 188 #[.pointer (some ⟨B, ko, none⟩), .slice A n c, .slice AS S cS] w fun e w' => ∃ v, e = .returned (.tuple #[.int .i64 (dcI K n f s S), v, .int .i64 (dcE K n f s S)]) ∧ Own w' w.heap.size 5 v (dcL K n f s S) (dcF K n f) ∧ Below w.heap.size w w' := by
 have hno : ∀ E : Int, dcE K n f s S = E → E ≠ 0 → ∀ (tm : Array Value), tm.getD 6 undef = .int .i64 0 → tm.getD 7 undef = .slice none 0 0 → tm.getD 8 undef = .int .i64 E → ∀ (w2 : World), Below w.heap.size w w2 →
   bodyPost Tryz.prog Tryz.f188 (fun e w' => ∃ v, e = .returned (.tuple #[.int .i64 (dcI K n f s S), v, .int .i64 (dcE K n f s S)]) ∧ Own w' w.heap.size 5 v (dcL K n f s S) (dcF K n f) ∧ Below w.heap.size w w') .ret { tmps := tm, defers := [] } w2 := by
  intro E hE h0 tm e6 e7 e8 w2 hb
  have hne : dcE K n f s S ≠ 0 := by rw [hE]; exact h0
  refine bodyPost_ret (v := .tuple #[.int .i64 0, .slice none 0 0, .int .i64 E]) ?_ rfl ⟨_, by rw [dcI_no hne, hE], by rw [dcL_no hne]; exact Own.nil _ _ _ _, hb⟩
  simp at e6 e7 e8
  simp [results, Tryz.results188, go_sem, e6, e7, e8]
 have HNO := Lib.hid hno
 have HK := Lib.hid hk
 have HS := Lib.hid hs
 have HF := Lib.hid hf
 clear hno hk hs hf
 by_cases hlong : 32 < S
 ·have hd : decide ((32 : Int) < (S : Int)) = true := by simp; omega
  have HE := Lib.hid (dc_long (K := K) (n := n) (f := f) (s := s) hlong)
  clear hlong
  go_enter Tryz.func188, Tryz.ntmps188
  go_wp2_with fail
  exact HNO.out 2 HE.out (by decide) _ rfl rfl rfl _ (Below.refl _ _)
 ·have hd : decide ((32 : Int) < (S : Int)) = false := by simp; omega
  have HNL := Lib.hid hlong
  clear hlong
  go_enter Tryz.func188, Tryz.ntmps188
  go_wp2_with fail
  refine (prd_any n c A f w HF.out hn).mono ?_
  rintro e w1 ⟨A1, c1, rfl, h1, -, hb1⟩
  have b2 := hb1.alloc hb1.size (.cells (ba 12 (rdN n f)) 217)
  have r2 : row (w1.alloc (.cells (ba 12 (rdN n f)) 217)) w1.heap.size = some (ba 12 (rdN n f)) := zA _ _ _ _ rfl
  have b12 := (Below.refl w1.heap.size w1).alloc (Nat.le_refl _) (.cells (ba 12 (rdN n f)) 217)
  have S2 := Lib.hid ((h1.below b12).more b12.size)
  have B2 := Lib.hid b2
  clear h1 hb1 b2 b12
  rcases rdE_cases (n := n) (f := f) with ⟨hE, hB⟩ | ⟨hE, hB⟩
  ·rw [hE]
   have HB := Lib.hid hB
   clear hB hE
   obtain ⟨i, hi⟩ : ∃ i, i = rdI n f := ⟨_, rfl⟩
   obtain ⟨v, hv⟩ : ∃ i, i = rdV n f := ⟨_, rfl⟩
   obtain ⟨L, hL⟩ : ∃ i, i = rdL n f := ⟨_, rfl⟩
   obtain ⟨N, hN⟩ : ∃ i, i = rdN n f := ⟨_, rfl⟩
   have hL80 : L ≤ 80 := by rw [hL]; exact rdL_le
   rw [← hL] at S2
   rw [← hi, ← hv, ← hL, ← hN]
   rw [← hN] at r2 S2 B2
   have HI := Lib.hid hi
   have HV := Lib.hid hv
   have HL := Lib.hid hL
   have HN := Lib.hid hN
   clear hi hv hL hN
   obtain ⟨G, hG⟩ : ∃ G, G = w1.heap.size := ⟨_, rfl⟩
   rw [← hG] at r2
   have HG := Lib.hid hG
   clear hG
   go_wp2_with fail
   rw [← HG.out]
   clear HG
   generalize w1.alloc (.cells (ba 12 N) 217) = w2 at r2 S2 B2 ⊢
   refine (wmt_any B K i v w2 (HK.out.below B2.out)).mono ?_
   rintro e w3 ⟨rfl, hb3⟩
   obtain ⟨m, hm⟩ : ∃ m, m = mtM K i v := ⟨_, rfl⟩
   rw [← hm]
   have HM := Lib.hid hm
   have b4 := hb3.alloc hb3.size (.cells (ba 32 m) 61)
   have q2 := zC b4 r2
   have q3 : row (w3.alloc (.cells (ba 32 m) 61)) w3.heap.size = some (ba 32 m) := zA _ _ _ _ rfl
   have S4 := Lib.hid ((S2.out.below b4).more b4.size)
   have B4 := Lib.hid (onto B2.out B2.out.size b4)
   clear hb3 b4 hm r2 S2 B2
   obtain ⟨H, hH⟩ : ∃ G, G = w3.heap.size := ⟨_, rfl⟩
   rw [← hH] at q3
   have HH := Lib.hid hH
   clear hH
   by_cases hme : mtE K i v = 0
   ·have HME := Lib.hid hme
    rw [hme]
    clear hme
    go_wp2_with fail
    rw [← HH.out]
    clear HH
    generalize w3.alloc (.cells (ba 32 m) 61) = w4 at q2 q3 S4 B4 ⊢
    refine (gopen_any m N s S cS AS (rdF f) L c1 A1 w4 ((HS.out.below B4.out).more B4.out.size) S4.out (by have := HNL.out; omega) (by omega)).mono ?_
    rintro e w5 ⟨v5, rfl, ho5, hb5⟩
    have HD := Lib.hid (show dcE K n f s S = opC m N s S (rdF f) L by rw [dc_op HNL.out HB.out (by rw [← HI.out, ← HV.out]; exact HME.out), HM.out, HI.out, HV.out, HN.out, HL.out])
    have B5 := Lib.hid (onto B4.out B4.out.size hb5)
    have HO := Lib.hid (ho5.base B4.out.size)
    obtain ⟨E, hE⟩ : ∃ E, E = opC m N s S (rdF f) L := ⟨_, rfl⟩
    have HE := Lib.hid hE
    rw [← hE]
    clear hb5 ho5 hE q2 q3 S4 B4
    by_cases h0 : E = 0
    ·subst h0
     go_wp2_with fail
     have e1 : dcE K n f s S = 0 := by rw [HD.out, ← HE.out]
     refine bodyPost_ret (v := .tuple #[.int .i64 i, v5, .int .i64 0]) (by simp [results, Tryz.results188, go_sem]) rfl ⟨v5, by rw [e1, dcI_ok e1, HI.out], ?_, B5.out⟩
     have ho := HO.out
     rw [show opL m N s S (rdF f) L = dcL K n f s S by unfold opL; rw [← HE.out, if_pos rfl, dcL_ok e1, HL.out]] at ho
     refine ho.congr fun k _ => ?_
     unfold dcF
     rw [HM.out, HI.out, HV.out, HN.out]
    ·have hne : (E == 0) = false := by simpa using h0
     have HE0 := Lib.hid h0
     clear h0
     go_wp2_with fail
     exact HNO.out E (by rw [HD.out, ← HE.out]) HE0.out _ rfl rfl rfl _ B5.out
   ·obtain ⟨E, hE⟩ : ∃ E, E = mtE K i v := ⟨_, rfl⟩
    rw [← hE] at hme ⊢
    have hne : (E == 0) = false := by simpa using hme
    have HE := Lib.hid hE
    have HE0 := Lib.hid hme
    clear hme hE
    go_wp2_with fail
    exact HNO.out E (by rw [HE.out, dc_mat HNL.out HB.out (by rw [← HI.out, ← HV.out, ← HE.out]; exact HE0.out), HI.out, HV.out]) HE0.out _ rfl rfl rfl _ B4.out
  ·rw [hE]
   have HE := Lib.hid (dc_blob (K := K) (s := s) HNL.out hB)
   clear hE hB
   go_wp2_with fail
   exact HNO.out 140 HE.out (by decide) _ rfl rfl rfl _ B2.out
theorem pdc_any (B : Nat) (K : Ks) (f : Bf) (n c : Nat) (A : Option Addr) (s : Bf) (S cS : Nat) (AS : Option Addr) (w : World) (hk : KpW w B ko kR K) (hf : Sl w w.heap.size A n c f) (hn : n ≤ 140737488355328) (hs : Sl w w.heap.size AS S cS s) :
  Calls Tryz.prog 141 #[.pointer (some ⟨B, ko, none⟩), .slice A n c, .slice AS S cS] w fun e w' => ∃ v, e = .returned (.tuple #[v, .int .i64 (dcE K n f s S)]) ∧ Own w' w.heap.size 5 v (dcL K n f s S) (dcF K n f) ∧ Below w.heap.size w w' := by
 have H0 := Lib.hid (pop_any B K f n c A s S cS AS w hk hf hn hs)
 clear hk hf hs
 go_enter Tryz.func141, Tryz.ntmps141
 go_wp2_with fail
 refine H0.out.mono ?_
 rintro e w1 ⟨v, rfl, ho, hb⟩
 have HO := Lib.hid ho
 have HB := Lib.hid hb
 clear ho hb H0
 obtain ⟨E, hE⟩ : ∃ E, E = dcE K n f s S := ⟨_, rfl⟩
 obtain ⟨I, hI⟩ : ∃ E, E = dcI K n f s S := ⟨_, rfl⟩
 rw [← hE, ← hI]
 clear hI
 have HE := Lib.hid hE
 clear hE
 go_wp2_with fail
 exact bodyPost_ret (v := .tuple #[v, .int .i64 E]) (by simp [results, Tryz.results141, go_sem]) rfl ⟨v, by rw [HE.out], HO.out, HB.out⟩
section
variable {K : Ks} {n : Nat} {f s : Bf} {S : Nat}
theorem rw_no (h : dcE K n f s S ≠ 0) : rwE K n f s S = dcE K n f s S ∧ rwV K n f s S = 0 ∧ rwK K n f s S = K ∧ rwL K n f s S = 0 := by
 refine ⟨by unfold rwE; rw [if_neg h], by unfold rwV; rw [if_neg h], by unfold rwK; rw [if_neg h], by unfold rwL; rw [if_neg h]⟩
theorem rw_ok (h : dcE K n f s S = 0) : rwE K n f s S = ecE K (dcI K n f s S) (dcL K n f s S) S ∧ rwV K n f s S = enV K (dcI K n f s S) (dcL K n f s S) S ∧ rwK K n f s S = enK K (dcI K n f s S) (dcL K n f s S) S ∧ rwL K n f s S = enL K (dcI K n f s S) (dcL K n f s S) S := by
 refine ⟨by unfold rwE; rw [if_pos h], by unfold rwV; rw [if_pos h], by unfold rwK; rw [if_pos h], by unfold rwL; rw [if_pos h]⟩
end
theorem prw_any (B : Nat) (K : Ks) (f : Bf) (n c : Nat) (A : Option Addr) (s : Bf) (S cS : Nat) (AS : Option Addr) (w : World) (hk : KpW w B ko kR K) (hf : Sl w w.heap.size A n c f) (hn : n ≤ 140737488355328) (hs : Sl w w.heap.size AS S cS s) (hos : Off B S AS) :
  Calls Tryz.prog 142 #[.pointer (some ⟨B, ko, none⟩), .slice A n c, .slice AS S cS] w fun e w' => ∃ v, e = .returned (.tuple #[v, .int .i64 (rwV K n f s S), .int .i64 (rwE K n f s S)]) ∧ Own w' w.heap.size 5 v (rwL K n f s S) (rwF K n f s S) ∧ KpW w' B ko kR (rwK K n f s S) ∧ Chg B w w' := by
 have H0 := Lib.hid (pop_any B K f n c A s S cS AS w hk hf hn hs)
 have HK := Lib.hid hk
 have HS := Lib.hid hs
 have HOS := Lib.hid hos
 clear hk hf hs hos
 go_enter Tryz.func142, Tryz.ntmps142
 go_wp2_with fail
 refine H0.out.mono ?_
 rintro e w1 ⟨v, rfl, ho, hb⟩
 obtain ⟨A1, c1, rfl, h1, -, -⟩ := ho.sl
 have HOT := Lib.hid (Off.own ho HK.out.lt)
 have T1 := Lib.hid h1
 have HB := Lib.hid hb
 clear ho hb H0 h1
 obtain ⟨E, hE⟩ : ∃ E, E = dcE K n f s S := ⟨_, rfl⟩
 obtain ⟨I, hI⟩ : ∃ E, E = dcI K n f s S := ⟨_, rfl⟩
 obtain ⟨L, hL⟩ : ∃ E, E = dcL K n f s S := ⟨_, rfl⟩
 rw [← hL] at T1 HOT
 rw [← hE, ← hI, ← hL]
 have HE := Lib.hid hE
 have HI := Lib.hid hI
 have HL := Lib.hid hL
 clear hE hI hL
 by_cases h0 : E = 0
 ·subst h0
  have e0 := HE.out
  obtain ⟨e1, e2, e3, e4⟩ := rw_ok e0.symm
  rw [← HI.out, ← HL.out] at e1 e2 e3 e4
  have E1 := Lib.hid e1
  have E2 := Lib.hid e2
  have E3 := Lib.hid e3
  have E4 := Lib.hid e4
  clear e0 e1 e2 e3 e4
  go_wp2_with fail
  refine (pen_any B K I (dcF K n f) L c1 A1 s S cS AS w1 (HK.out.below HB.out) T1.out HOT.out ((HS.out.below HB.out).more HB.out.size) HOS.out).mono ?_
  rintro e w2 ⟨v, rfl, ho, hk2, hc2⟩
  obtain ⟨V, hV⟩ : ∃ E, E = enV K I L S := ⟨_, rfl⟩
  obtain ⟨E, hE⟩ : ∃ E, E = ecE K I L S := ⟨_, rfl⟩
  rw [← hV, ← hE]
  have HO := Lib.hid (ho.base HB.out.size)
  have HK2 := Lib.hid hk2
  have HC2 := Lib.hid ((Chg.of HB.out).trans hc2)
  have HVV := Lib.hid hV
  have HEE := Lib.hid hE
  clear ho hk2 hc2 hV hE
  go_wp2_with fail
  refine bodyPost_ret (v := .tuple #[v, .int .i64 V, .int .i64 E]) (by simp [results, Tryz.results142, go_sem]) rfl ⟨v, by rw [E1.out, E2.out, HVV.out, HEE.out], ?_, by rw [E3.out]; exact HK2.out, HC2.out⟩
  rw [E4.out]
  refine HO.out.congr fun k _ => ?_
  unfold rwF
  rw [← HI.out, ← HL.out]
 ·have hne : (E == 0) = false := by simpa using h0
  have HN := Lib.hid h0
  clear h0
  go_wp2_with fail
  obtain ⟨e1, e2, e3, e4⟩ := rw_no (K := K) (n := n) (f := f) (s := s) (S := S) (by rw [← HE.out]; exact HN.out)
  exact bodyPost_ret (v := .tuple #[.slice none 0 0, .int .i64 0, .int .i64 E]) (by simp [results, Tryz.results142, go_sem]) rfl ⟨_, by rw [e1, e2, ← HE.out], by rw [e4]; exact Own.nil _ _ _ _, by rw [e3]; exact HK.out.below HB.out, Chg.of HB.out⟩
section
variable {n n' : Bf} (h : ∀ k, k < 12 → n k = n' k)
include h
theorem ctrF_cong (c : Nat) : ctrF n c = ctrF n' c := by
 funext k
 unfold ctrF
 by_cases hk : k < 12
 ·rw [if_pos hk, if_pos hk, h k hk]
 ·rw [if_neg hk, if_neg hk]
theorem xorS_cong (k : Bf) (f : Nat) (b : Bf) : xorS k n f b = xorS k n' f b := by
 funext i
 unfold xorS
 rw [ctrF_cong h]
theorem tagF_cong (k s : Bf) (ns : Nat) (b : Bf) (nb : Nat) : tagF k n s ns b nb = tagF k n' s ns b nb := by
 unfold tagF
 rw [ctrF_cong h]
theorem opC_cong (k s : Bf) (ns : Nat) (b : Bf) (L : Nat) : opC k n s ns b L = opC k n' s ns b L := by
 unfold opC
 rw [tagF_cong h]
end
section
variable {K : Ks} {i v L S : Nat} {n b s : Bf} (hi : i < 9223372036854775808) (hv : v < 9223372036854775808) (h1 : 1 ≤ i) (h2 : 1 ≤ v) (h3 : 16 ≤ L) (h4 : L ≤ 80) (hS : S ≤ 32)
include hi hv h1 h2 h3 h4 hS
theorem dc_gen : dcE K (blL i v L) (blF i v n b) s S = if mtE K i v = 0 then opC (mtM K i v) n s S b L else mtE K i v := by
 obtain ⟨hB, e1, e2, e3, e4, e5⟩ := bl_ok (n := n) (b := b) hi hv h1 h2 h3 h4
 by_cases hm : mtE K i v = 0
 ·rw [if_pos hm, dc_op (by omega) hB (by rw [e1, e2]; exact hm), e1, e2, e3, e5, opC_cong e4]
 ·rw [if_neg hm, dc_mat (by omega) hB (by rw [e1, e2]; exact hm), e1, e2]
omit hS in
theorem dcF_gen : dcF K (blL i v L) (blF i v n b) = xorS (mtM K i v) n 2 b := by
 obtain ⟨hB, e1, e2, e3, e4, e5⟩ := bl_ok (n := n) (b := b) hi hv h1 h2 h3 h4
 unfold dcF
 rw [e1, e2, e5, xorS_cong e4]
omit hS in
theorem dcI_gen (h : dcE K (blL i v L) (blF i v n b) s S = 0) : dcI K (blL i v L) (blF i v n b) s S = i := by
 obtain ⟨hB, e1, e2, e3, e4, e5⟩ := bl_ok (n := n) (b := b) hi hv h1 h2 h3 h4
 rw [dcI_ok h, e1]
omit hS in
theorem dcL_gen (h : dcE K (blL i v L) (blF i v n b) s S = 0) : dcL K (blL i v L) (blF i v n b) s S = L - 16 := by
 obtain ⟨hB, e1, e2, e3, e4, e5⟩ := bl_ok (n := n) (b := b) hi hv h1 h2 h3 h4
 rw [dcL_ok h, e3]
end
theorem dc_back {K : Ks} {i v L S : Nat} {n t s m : Bf} (hi : i < 9223372036854775808) (hv : v < 9223372036854775808) (h1 : 1 ≤ i) (h2 : 1 ≤ v) (hL : L ≤ 64) (hS : S ≤ 32) (hE : mtE K i v = 0) (hM : mtM K i v = m) :
  dcE K (blL i v (L + 16)) (blF i v n (sealF m n s S t L)) s S = 0 ∧ dcI K (blL i v (L + 16)) (blF i v n (sealF m n s S t L)) s S = i ∧ dcL K (blL i v (L + 16)) (blF i v n (sealF m n s S t L)) s S = L ∧
   ∀ k, k < L → dcF K (blL i v (L + 16)) (blF i v n (sealF m n s S t L)) k = t k := by
 have e : dcE K (blL i v (L + 16)) (blF i v n (sealF m n s S t L)) s S = 0 := by
  rw [dc_gen hi hv h1 h2 (by omega) (by omega) hS, if_pos hE, hM, opC_back]
 refine ⟨e, dcI_gen hi hv h1 h2 (by omega) (by omega) e, by rw [dcL_gen hi hv h1 h2 (by omega) (by omega) e, Nat.add_sub_cancel], fun k hk => ?_⟩
 rw [dcF_gen hi hv h1 h2 (by omega) (by omega), hM]
 exact xor_back _ _ _ _ _ _ k hk
section
variable {l : List Ve} {m : Bf} {u : Int}
end
variable {ko : Nat} {kR : Array Value}
theorem wsw_any (B : Nat) (K : Ks) (id : Int) (on : Bool) (w : World) (h : KpW w B ko kR K) :
  Calls Tryz.prog 138 #[.pointer (some ⟨B, ko, none⟩), .int .i64 id, .bool on] w fun e w' => e = .returned (.int .i64 (swE K id)) ∧ KpW w' B ko kR (swK K id on) ∧ Chg B w w' := by
 refine (psw_any _ 1 B K id on w h.one).mono ?_
 rintro e w' ⟨rfl, T', hp, hf⟩
 exact ⟨rfl, hp.kw, hf.chg⟩
theorem wds_any (B : Nat) (K : Ks) (id ver : Int) (w : World) (h : KpW w B ko kR K) :
  Calls Tryz.prog 139 #[.pointer (some ⟨B, ko, none⟩), .int .i64 id, .int .i64 ver] w fun e w' => e = .returned (.int .i64 (dsE K id ver)) ∧ KpW w' B ko kR (dsK K id ver) ∧ Chg B w w' := by
 refine (pds_any _ 1 B K id ver w h.one).mono ?_
 rintro e w' ⟨rfl, T', hp, hf⟩
 exact ⟨rfl, hp.kw, hf.chg⟩
end Go.Proofs.YteffjpdcghlnlaaGreatDoor.Oct
