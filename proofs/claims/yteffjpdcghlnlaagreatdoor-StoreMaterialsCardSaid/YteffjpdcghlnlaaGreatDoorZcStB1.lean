import Derived.Test.YteffjpdcghlnlaaGreatDoorZcStX
import Derived.Test.YteffjpdcghlnlaaGreatDoorZcKpAll
import Derived.Test.YteffjpdcghlnlaaGreatDoorZcEvP
import Derived.Test.YteffjpdcghlnlaaGreatDoorZcSsT
import Derived.Test.YteffjpdcghlnlaaGreatDoorZcDrb
import Derived.Recover
import Derived.WalkSmall
import Derived.Test.YteffjpdcghlnlaaGreatDoorZcWiAll
set_option linter.unusedVariables false
set_option linter.unusedSimpArgs false
set_option maxHeartbeats 4000000
set_option maxRecDepth 20000
namespace Go.Proofs.YteffjpdcghlnlaaGreatDoor.Oct
open Go.ChangeShapes Go.WideShapes Go.ChangeAt Go.RowKit Go.Maps
def stC (d : St) (n : Int) (ks : Array Value) (mv : Option Nat) (g : Int) : Array Value := srcC (mtC ks mv g) d.1 d.2 n
theorem flt_snoc (pre : List (Array Value)) (a b : Array Value) : flt (pre ++ [a ++ b]) = flt (pre ++ [a]) ++ b := by
 unfold flt
 apply Array.ext'
 simp [List.flatMap_append]
theorem stC_mt (d : St) (n : Int) (ks : Array Value) (mv : Option Nat) (g : Int) : stC d n ks mv g = mtC (srcC ks d.1 d.2 n) mv g := by
 unfold stC mtC srcC
 exact flt_snoc [ba 32 d.1, ba 32 d.2, #[.int .i64 n]] ks _
theorem srcC_at {R : Array Value} {k v : Bf} {n : Int} {j : Nat} (h : j < R.size) : (srcC R k v n)[65 + j]? = R[j]? := by
 unfold srcC
 exact flt_get [ba 32 k, ba 32 v, #[.int .i64 n]] [] R (o := 65) (j := j) (by simp [szs, zG]) h
theorem srcC_low {R R' : Array Value} {k v : Bf} {n : Int} {j : Nat} (h : j < 65) : (srcC R k v n)[j]? = (srcC R' k v n)[j]? := by
 unfold srcC
 have e := fun (X : Array Value) => flt_at [ba 32 k, ba 32 v, #[.int .i64 n]] [] X j
 have hz : szs [ba 32 k, ba 32 v, #[.int .i64 n]] = 65 := by simp [szs, zG]
 have e1 := e R
 have e2 := e R'
 rw [hz, if_pos h] at e1 e2
 exact e1.trans e2.symm
section
variable {d : St} {n g : Int} {ks : Array Value} {mv : Option Nat} {K : Ks}
theorem ks_size (h : KsC 0 ksZ ks K) : ks.size = 1105 := by rw [h.size, ksZ_size]
theorem stC_size (h : ks.size = 1105) : (stC d n ks mv g).size = 1172 := by unfold stC; rw [src_size, mtC_size, h]
theorem src_full (h : ks.size = 1105) : (srcC ks d.1 d.2 n).size = 1170 := by rw [src_size, h]
theorem ones_mt {R : Array Value} (h : Ones R) : Ones (mtC R mv g) := by
 unfold Ones mtC at *
 have a : (Value.map mv).oneCell' = true := rfl
 have b : (Value.int .i64 g).oneCell' = true := rfl
 rw [Array.all_append, h]
 simp [a, b]
theorem stC_ones (h : KsC 0 ksZ ks K) : Ones (stC d n ks mv g) := src_ones _ _ _ _ (ones_mt h.ones)
theorem stC_ks (hz : ks.size = 1105) {j : Nat} (h : j < 1105) : (stC d n ks mv g)[65 + j]? = ks[j]? := by
 unfold stC
 rw [srcC_at (by rw [mtC_size, hz]; omega), mtC_else (by omega)]
theorem stC_keys (h : KsC 0 ksZ ks K) : KsC 65 (stC d n ks mv g) (stC d n ks mv g) K :=
 h.move rfl (by rw [stC_size (ks_size h)]; omega) (stC_ones h) (fun _ _ => rfl) fun j hj => by rw [Nat.zero_add, stC_ks (ks_size h) hj]
theorem stC_back {c' : Array Value} {K' : Ks} (hz : ks.size = 1105) (h : KsC 65 (stC d n ks mv g) c' K') : ∃ ks', c' = stC d n ks' mv g ∧ KsC 0 ksZ ks' K' := by
 have hs : c'.size = 1172 := by rw [h.size, stC_size hz]
 have hx : (ksX 65 c').size = 1105 := ksX_size (by omega)
 refine ⟨ksX 65 c', ?_, h.cut ksZ_size⟩
 apply Array.ext_getElem?
 intro j
 by_cases h1 : j < 65
 ·rw [h.oth j (.inl h1)]
  unfold stC
  exact srcC_low h1
 ·by_cases h2 : j < 1170
  ·obtain ⟨i, rfl⟩ : ∃ i, j = 65 + i := ⟨j - 65, by omega⟩
   rw [stC_ks hx (by omega), ksX_get (by omega) (by omega)]
  ·rw [h.oth j (.inr (by omega))]
   by_cases h3 : j < 1172
   ·obtain ⟨i, rfl⟩ : ∃ i, j = 65 + i := ⟨j - 65, by omega⟩
    unfold stC
    rw [srcC_at (by rw [mtC_size]; omega), srcC_at (by rw [mtC_size]; omega)]
    rcases (by omega : i = 1105 ∨ i = 1106) with rfl | rfl
    ·rw [mtC_0 hz, mtC_0 hx]
    ·rw [show (1106 : Nat) = 1105 + 1 from rfl, mtC_1 hz, mtC_1 hx]
   ·rw [Array.getElem?_eq_none (by rw [stC_size hz]; omega), Array.getElem?_eq_none (by rw [stC_size hx]; omega)]
end
structure StAt (T : Mk) (w : World) (t B : Nat) (x : Sx) : Prop where
 tg : T B = t
 at_ : ∃ ks mv, row w B = some (stC x.d x.n ks mv x.g) ∧ KsC 0 ksZ ks x.K ∧ MpV T w (t + 1) mv x.l
 ok : SxOk x
section
variable {T T' : Mk} {w w' : World} {t B : Nat} {x : Sx} {H : Nat → Prop}
theorem StAt.lt (h : StAt T w t B x) : B < w.heap.size := by obtain ⟨ks, mv, hr, -⟩ := h.at_; exact zK hr
theorem StAt.fr (h : StAt T w t B x) (hf : Fr T T' H w w') (h1 : ¬ H t) (h2 : ¬ H (t + 1)) (h0 : ¬ H 0) : StAt T' w' t B x := by
 obtain ⟨ks, mv, hr, hk, hm⟩ := h.at_
 exact ⟨by rw [hf.tag B (zK hr)]; exact h.tg, ⟨ks, mv, hf.rowAt hr (by rw [h.tg]; exact h1), hk, hm.fr hf h2 h0⟩, h.ok⟩
theorem StAt.keys (h : StAt T w t B x) : ∃ R, KpW w B 65 R x.K ∧ ∀ (ht : 0 < t) w' K', KpW w' B 65 R K' → Chg B w w' → ∀ tn, StAt (zH T w.heap.size tn) w' t B ⟨x.d, x.n, K', x.l, x.g⟩ := by
 obtain ⟨ks, mv, hr, hk, hm⟩ := h.at_
 refine ⟨stC x.d x.n ks mv x.g, ⟨⟨_, hr, stC_keys hk⟩, h.ok.K⟩, fun ht w' K' hk' hc tn => ?_⟩
 obtain ⟨c', hr', hc'⟩ := hk'.at_
 obtain ⟨ks', rfl, hks⟩ := stC_back (ks_size hk) hc'
 have hf := hc.fr (T := T) (H := fun c => c = t) h.tg tn
 exact ⟨by rw [zJ (zK hr)]; exact h.tg, ⟨ks', mv, hr', hks, hm.fr hf (by omega) (by omega)⟩, ⟨hk'.ok, h.ok.T, h.ok.c⟩⟩
theorem StAt.src (h : StAt T w t B x) : ∃ R, row w B = some (srcC R x.d.1 x.d.2 x.n) ∧ ∀ (ht : 0 < t) w' (d' : St) n', Put B (srcC R d'.1 d'.2 n') w w' → 1 ≤ n' → ∀ tn, StAt (zH T w.heap.size tn) w' t B ⟨d', n', x.K, x.l, x.g⟩ := by
 obtain ⟨ks, mv, hr, hk, hm⟩ := h.at_
 refine ⟨mtC ks mv x.g, hr, fun ht w' d' n' hp hn tn => ?_⟩
 have hb : Below w.heap.size (w.setRow B (srcC (mtC ks mv x.g) d'.1 d'.2 n')) w' := hp
 have hf : Fr T (zH T w.heap.size tn) (fun c => c = t) w w' := ⟨hb.1, hb.2, hb.3, hp.size, fun k hk hn => hp.block k hk (fun e => hn (by rw [e]; exact h.tg)), fun k hk => zJ hk⟩
 exact ⟨by rw [zJ (zK hr)]; exact h.tg, ⟨ks, mv, hp.row hr, hk, hm.fr hf (by omega) (by omega)⟩, ⟨h.ok.K, h.ok.T, hn⟩⟩
theorem StAt.tab (h : StAt T w t B x) : ∃ R mv, PtAt T w t B 1170 R mv x.l x.g ∧ ∀ T' w' mv' l' g', PtAt T' w' t B 1170 R mv' l' g' → SsOk l' g' → StAt T' w' t B ⟨x.d, x.n, x.K, l', g'⟩ := by
 obtain ⟨ks, mv, hr, hk, hm⟩ := h.at_
 refine ⟨srcC ks x.d.1 x.d.2 x.n, mv, ⟨by rw [← stC_mt]; exact hr, h.tg, hm, src_full (ks_size hk)⟩, fun T' w' mv' l' g' hp hs => ?_⟩
 exact ⟨hp.tg, ⟨ks, mv', by rw [stC_mt]; exact hp.row, hk, hp.mp⟩, ⟨h.ok.K, hs, h.ok.c⟩⟩
end
abbrev pnE (E : Int) : List PanicEntry := [{ v := .iface 31 (.int .i64 E), recovered := false }]
theorem xB (w : World) : Calls Tryz.prog 37 #[.int .i64 0] w fun e w' => e = .returned (.tuple #[]) ∧ w' = w := by
 go_enter Tryz.func37, Tryz.ntmps37
 go_wp2_with fail
 go_end0
 exact ⟨rfl, rfl⟩
theorem yW (E : Int) (h : E ≠ 0) (w : World) : Calls Tryz.prog 37 #[.int .i64 E] w fun e w' => e = .panicked (pnE E) ∧ w' = w := by
 have hne : ((E : Int) != 0) = true := by simp; omega
 clear h
 go_enter Tryz.func37, Tryz.ntmps37
 go_wp2_with fail
 exact ⟨rfl, rfl, rfl⟩
theorem musti_ok (v : Value) (w : World) : Calls Tryz.prog 39 #[v, .int .i64 0] w fun e w' => e = .returned v ∧ w' = w := by
 go_enter Tryz.func39, Tryz.ntmps39
 go_wp2_with fail
 refine (xB _).mono ?_
 rintro e w' ⟨rfl, rfl⟩
 go_wp2_with fail
 go_ret
 exact ⟨rfl, rfl⟩
theorem musti_bad (v : Value) (E : Int) (h : E ≠ 0) (w : World) : Calls Tryz.prog 39 #[v, .int .i64 E] w fun e w' => e = .panicked (pnE E) ∧ w' = w := by
 go_enter Tryz.func39, Tryz.ntmps39
 go_wp2_with fail
 refine (yW E h _).mono ?_
 rintro e w' ⟨rfl, rfl⟩
 go_wp2_with fail
 exact ⟨rfl, rfl, rfl⟩
theorem mustb_ok (v : Value) (w : World) : Calls Tryz.prog 124 #[v, .int .i64 0] w fun e w' => e = .returned v ∧ w' = w := by
 go_enter Tryz.func124, Tryz.ntmps124
 go_wp2_with fail
 refine (xB _).mono ?_
 rintro e w' ⟨rfl, rfl⟩
 go_wp2_with fail
 go_ret
 exact ⟨rfl, rfl⟩
theorem mustb_bad (v : Value) (E : Int) (h : E ≠ 0) (w : World) : Calls Tryz.prog 124 #[v, .int .i64 E] w fun e w' => e = .panicked (pnE E) ∧ w' = w := by
 go_enter Tryz.func124, Tryz.ntmps124
 go_wp2_with fail
 refine (yW E h _).mono ?_
 rintro e w' ⟨rfl, rfl⟩
 go_wp2_with fail
 exact ⟨rfl, rfl, rfl⟩
theorem ta_ok (x : Value) (w : World) : (Instr.typeAssert (.iface 31 x) 20 31 true).run Tryz.prog w = .ok (.tuple #[x, .bool true]) w := by kernel_rfl
theorem catchR_panicking (p : Nat) (E x : Int) (w : World) (hc : w.cell? ⟨p, 0, none⟩ = some (.int .i64 x)) (hz : w.frozen? ⟨p, 0, none⟩ = false) :
  CallsD Tryz.prog 132 #[.pointer (some ⟨p, 0, none⟩)] (.panicking (pnE E)) w fun e u' w' =>
   e = .returned (.tuple #[]) ∧ u' = .panicking [{ v := .iface 31 (.int .i64 E), recovered := true }] ∧ w' = w.setCell ⟨p, 0, none⟩ (.int .i64 E) := by
 have hta := ta_ok
 refine callsD_of_wpS Tryz.func132 rfl fun c₀ cs hu => ?_
 apply wpS_seq
 apply wpS_region
 simp [wpOpsS, go_sem, recoverD, hu, Tryz.ntmps132, Exit.thenS]
 refine wpS_of_wp ?_
 simp only [Array.replicate]
 go_wp2_with fail
 simp [bodyPostS, results, Tryz.results132, go_sem]
theorem catchR_idle (p : Nat) (w : World) :
  CallsD Tryz.prog 132 #[.pointer (some ⟨p, 0, none⟩)] .returning w fun e u' w' => e = .returned (.tuple #[]) ∧ u' = .returning ∧ w' = w := by
 refine callsD_of_wpS Tryz.func132 rfl fun c₀ cs hu => ?_
 apply wpS_seq
 apply wpS_region
 simp [wpOpsS, go_sem, recoverD, hu, Tryz.ntmps132, Exit.thenS]
 refine wpS_of_wp ?_
 simp only [Array.replicate]
 go_wp2_with fail
 simp only [bodyPostS, results, Tryz.results132, go_sem]
 cases c₀
 simp_all
theorem res_ci {P : Program} {fn : Func} {p u : Tmp} {ty ti : TypeId} (h : fn.results = #[.cell p ty, .cell u ti]) (tmps : Array Value) (w : World) (b q : Nat) (c : Array Value) (x : Int) (d : TypeDesc)
  (hp : tmps.getD p undef = .pointer (some ⟨b, 0, none⟩)) (hq : tmps.getD u undef = .pointer (some ⟨q, 0, none⟩)) (hr : row w b = some c) (hx : (loadVar ti ⟨q, 0, none⟩).run P w = .ok (.int .i64 x) w) (hu : P.underlying ty = some d) (hd : d.isRow = true) (hi : (P.info? ty).map (·.size) = some c.size) :
  (results fn tmps).run P w = .ok (.tuple #[.agg c, .int .i64 x]) w := by
 have hp2 : tmps[p]?.getD undef = .pointer (some ⟨b, 0, none⟩) := by simpa using hp
 have hq2 : tmps[u]?.getD undef = .pointer (some ⟨q, 0, none⟩) := by simpa using hq
 simp only [results, h]
 simp [hp2, hq2, asAddr, load_row hr hu hd hi, hx]
theorem Fr.up {T T' : Mk} {H : Nat → Prop} {w w' : World} (h : Fr T T' H w w') {b : Nat} (hb : w.heap.size ≤ b) (c : Array Value) : Fr T T' H w (w'.setRow b c) :=
 ⟨h.os, h.tape, h.output, by rw [setRow_sizeS]; exact h.size, fun k hk hn => by rw [setRow_other w' b k c (by omega)]; exact h.keep k hk hn, h.tag⟩
abbrev rpV (r : Rp) (A : Option Addr) (k : Nat) : Value := repV r.c r.n r.m (.slice A r.T k)
abbrev zR : Value := .slice none 0 0
def OutR (t B : Nat) (x : Sx) (r : Rp) (T : Mk) (w : World) : Ending → World → Prop := fun e w' => ∃ T', Fr T T' (H2 t) w w' ∧ StAt T' w' t B x ∧ ((∃ A k, e = .returned (rpV r A k) ∧ RdS T' w' 0 A r.T k r.f) ∨ (r.c ≠ 0 ∧ r = rpE r.c ∧ e = .panicked (pnE r.c)))
def OutC (t B : Nat) (x : Sx) (r : Rp) (T : Mk) (w : World) : Ending → World → Prop := fun e w' => ∃ T', Fr T T' (H2 t) w w' ∧ StAt T' w' t B x ∧ ((∃ A k, e = .returned (.tuple #[rpV r A k, .int .i64 0]) ∧ RdS T' w' 0 A r.T k r.f) ∨ (r.c ≠ 0 ∧ r = rpE r.c ∧ e = .returned (.tuple #[repZ, .int .i64 r.c])))
def OutV (t B : Nat) (x : Sx) (r : Rp) (T : Mk) (w : World) : Ending → World → Prop := fun e w' => ∃ T', Fr T T' (H2 t) w w' ∧ StAt T' w' t B x ∧ ∃ A k, e = .returned (rpV r A k) ∧ RdS T' w' 0 A r.T k r.f
theorem xI {t : Nat} : ¬ H2 t (t + 2) := by unfold H2; omega
theorem h2_0 {t : Nat} (ht : 0 < t) : ¬ H2 t 0 := by unfold H2; omega
theorem attR_any (T : Mk) (t B : Nat) (x : Sx) (r : Rp) (ht : 0 < t) (F : FuncId) (cap : Array Value) (w : World) (hen : Entr F)
  (h : ∀ W, W = (w.alloc (.cells #[.int .i64 0, .int .i64 0, .int .i64 0, zR] 33)).alloc (.cells #[.int .i64 0] 31) → Calls Tryz.prog F cap W (OutR t B x r (zH T w.heap.size (t + 2)) W)) :
  Calls Tryz.prog 76 #[.func (.func F) #[] cap] w (OutC t B x r T w) := by
 obtain ⟨w1, hw1⟩ : ∃ w1, w1 = (w.alloc (.cells #[.int .i64 0, .int .i64 0, .int .i64 0, zR] 33)).alloc (.cells #[.int .i64 0] 31) := ⟨_, rfl⟩
 have bw : Below w.heap.size w w1 := by rw [hw1]; exact ((Below.refl _ _).alloc (Nat.le_refl _) _).alloc (by simp) _
 have r0 : row w1 w.heap.size = some #[.int .i64 0, .int .i64 0, .int .i64 0, zR] := by rw [hw1]; exact zI (zA _ _ _ _ rfl) _
 have r1 : row w1 (w.heap.size + 1) = some #[.int .i64 0] := by rw [hw1]; exact zA _ _ _ _ (by simp)
 have hz1 : w1.heap.size = w.heap.size + 2 := by rw [hw1]; simp
 have H := Lib.hid (h w1 hw1)
 have F1 := Lib.hid (show Fr T (zH T w.heap.size (t + 2)) (H2 t) w w1 from Fr.new bw _)
 have TG := Lib.hid (show zH T w.heap.size (t + 2) w.heap.size = t + 2 ∧ zH T w.heap.size (t + 2) (w.heap.size + 1) = t + 2 from ⟨zN (Nat.le_refl _), zN (by omega)⟩)
 obtain ⟨T1, hT1⟩ : ∃ T1, T1 = zH T w.heap.size (t + 2) := ⟨_, rfl⟩
 rw [← hT1] at H F1 TG
 have R0 := Lib.hid r0
 have R1 := Lib.hid r1
 clear h bw r0 r1 hT1
 unfold Entr at hen
 have hmf : ∀ (fn : Fn) (first cap : Array Value) (w : World), (Instr.makeFunc fn first cap).run Tryz.prog w = .ok (.func fn first cap) w := fun _ _ _ _ => rfl
 go_enter_defers Tryz.func76, Tryz.ntmps76
 go_upto_region 1 with fail
 simp only [← hw1]
 clear hw1
 go_wp2_with fail
 refine H.out.mono ?_
 rintro e w2 ⟨T2, hf, hst, ⟨A, k, rfl, hrd⟩ | ⟨hne, hrp, rfl⟩⟩
 ·have q0 := hf.rowAt R0.out (by rw [TG.out.1]; exact xI)
  have q1 := hf.rowAt R1.out (by rw [TG.out.2]; exact xI)
  have t0 : T2 w.heap.size = t + 2 := by rw [hf.tag _ (by omega)]; exact TG.out.1
  have F2 := Lib.hid (F1.out.trans hf)
  obtain ⟨C, hC⟩ : ∃ C : Array Value, C = #[.int .i64 r.c, .int .i64 r.n, .int .i64 r.m, .slice A r.T k] := ⟨_, rfl⟩
  have q1' : row (w2.setRow w.heap.size C) (w.heap.size + 1) = some #[.int .i64 0] := by rw [zB _ _ _ _ (by omega)]; exact q1
  have z1 := zW q1' 0
  have k1 : (w2.setRow w.heap.size C).cell? ⟨w.heap.size + 1, 0, none⟩ = some (.int .i64 0) := by rw [zF q1']; rfl
  have hs : (w2.setRow w.heap.size C).setCell ⟨w.heap.size + 1, 0, none⟩ (.int .i64 0) = w2.setRow w.heap.size C := by rw [zP q1']; exact yE q1'
  have G := Lib.hid (Fr.row (T := T2) (H := fun c => c = t + 2) (w := w2) (B := w.heap.size) t0 C)
  have HST := Lib.hid (hst.fr G.out (by omega) (by omega) (by omega))
  have HRD := Lib.hid (hrd.fr G.out (by omega))
  have FF := Lib.hid (F2.out.up (Nat.le_refl _) C)
  have Q0 := Lib.hid (zD q0 C)
  rw [hC] at q1' z1 k1 hs HST HRD FF Q0
  clear hf hst hrd H q1 t0 F2 G hC
  go_wp2_with fail
  refine leaves_cons (f := 132) (args := #[.pointer (some ⟨w.heap.size + 1, 0, none⟩)]) (by simp) (by simp [go_sem]) ?_
  refine (catchR_idle (w.heap.size + 1) _).mono ?_
  rintro e u' w'' ⟨rfl, rfl, rfl⟩
  exact ⟨.tuple #[rpV r A k, .int .i64 0],
   res_ci Tryz.results76 _ _ w.heap.size (w.heap.size + 1) _ _ _ rfl rfl Q0.out (by simp [loadVar, go_sem, k1]) Tryz.underlying33 rfl (by kernel_rfl),
   T2, FF.out, HST.out, .inl ⟨A, k, rfl, HRD.out⟩⟩
 ·have q0 := hf.rowAt R0.out (by rw [TG.out.1]; exact xI)
  have q1 := hf.rowAt R1.out (by rw [TG.out.2]; exact xI)
  have t1 : T2 (w.heap.size + 1) = t + 2 := by rw [hf.tag _ (by omega)]; exact TG.out.2
  have F2 := Lib.hid (F1.out.trans hf)
  have hc : w2.cell? ⟨w.heap.size + 1, 0, none⟩ = some (.int .i64 0) := by rw [zF q1]; rfl
  have hz := zW q1 0
  have k1 : (w2.setCell ⟨w.heap.size + 1, 0, none⟩ (.int .i64 r.c)).cell? ⟨w.heap.size + 1, 0, none⟩ = some (.int .i64 r.c) := by rw [zP q1, zF (zD q1 _)]; rfl
  have q0' : row (w2.setCell ⟨w.heap.size + 1, 0, none⟩ (.int .i64 r.c)) w.heap.size = some #[.int .i64 0, .int .i64 0, .int .i64 0, zR] := by rw [zP q1, zB _ _ _ _ (by omega)]; exact q0
  have G := Lib.hid (Fr.row (T := T2) (H := fun c => c = t + 2) (w := w2) (B := w.heap.size + 1) t1 #[.int .i64 r.c])
  have HST := Lib.hid (show StAt T2 (w2.setCell ⟨w.heap.size + 1, 0, none⟩ (.int .i64 r.c)) t B x by rw [zP q1]; exact hst.fr G.out (by omega) (by omega) (by omega))
  have FF := Lib.hid (show Fr T T2 (H2 t) w (w2.setCell ⟨w.heap.size + 1, 0, none⟩ (.int .i64 r.c)) by rw [zP q1]; exact F2.out.up (by omega) _)
  have HN := Lib.hid (And.intro hne hrp)
  clear hf hst H q0 q1 t1 F2 G hne hrp
  go_wp2_with fail
  refine leaves_cons (f := 132) (args := #[.pointer (some ⟨w.heap.size + 1, 0, none⟩)]) (by simp) (by simp [go_sem]) ?_
  refine (catchR_panicking (w.heap.size + 1) r.c 0 _ hc hz).mono ?_
  rintro e u' w'' ⟨rfl, rfl, rfl⟩
  exact ⟨.tuple #[repZ, .int .i64 r.c],
   res_ci Tryz.results76 _ _ w.heap.size (w.heap.size + 1) _ _ _ rfl rfl q0' (by simp [loadVar, go_sem, k1]) Tryz.underlying33 rfl (by kernel_rfl),
   T2, FF.out, HST.out, .inr ⟨HN.out.1, HN.out.2, rfl⟩⟩
theorem rp_b0' (w : World) : (Instr.build 33 #[]).run Tryz.prog w = .ok (repV 0 0 0 (.slice none 0 0)) w := by kernel_rfl
theorem rp_b1' (E : Int) (w : World) : (Instr.build 33 #[(0, .int .i64 E)]).run Tryz.prog w = .ok (repV E 0 0 (.slice none 0 0)) w := by kernel_rfl
theorem replyOf_any (T : Mk) (t B : Nat) (x : Sx) (r : Rp) (ht : 0 < t) (F : FuncId) (cap : Array Value) (w : World) (hen : Entr F)
  (h : ∀ W, Below w.heap.size w W → Calls Tryz.prog F cap W (OutR t B x r (zH T w.heap.size (t + 2)) W)) :
  Calls Tryz.prog 35 #[.func (.func F) #[] cap] w (OutV t B x r T w) := by
 obtain ⟨w1, hw1⟩ : ∃ w1, w1 = w.alloc (.cells #[.int .i64 0, .int .i64 0, .int .i64 0, zR] 33) := ⟨_, rfl⟩
 have bw : Below w.heap.size w w1 := by rw [hw1]; exact (Below.refl _ _).alloc (Nat.le_refl _) _
 have r0 : row w1 w.heap.size = some #[.int .i64 0, .int .i64 0, .int .i64 0, zR] := by rw [hw1]; exact zA _ _ _ _ rfl
 have hz1 : w1.heap.size = w.heap.size + 1 := by rw [hw1]; simp
 have F1 := Lib.hid (show Fr T (zH T w.heap.size (t + 2)) (H2 t) w w1 from Fr.new bw _)
 have TG := Lib.hid (show zH T w.heap.size (t + 2) w.heap.size = t + 2 from zN (Nat.le_refl _))
 have H := Lib.hid (attR_any (zH T w.heap.size (t + 2)) t B x r ht F cap w1 hen fun W hW => by
  have b2 : Below w.heap.size w W := onto bw bw.size (by rw [hW]; exact ((Below.refl _ _).alloc (Nat.le_refl _) _).alloc (by simp) _)
  have e : zH (zH T w.heap.size (t + 2)) w1.heap.size (t + 2) = zH T w.heap.size (t + 2) := by
   funext k
   unfold zH
   split
   ·rfl
   ·rw [if_neg (by omega)]
  rw [e]
  exact h W b2)
 obtain ⟨T1, hT1⟩ : ∃ T1, T1 = zH T w.heap.size (t + 2) := ⟨_, rfl⟩
 rw [← hT1] at H F1 TG
 have R0 := Lib.hid r0
 clear h bw r0 hT1
 have bd0 := rp_b1'
 go_enter Tryz.func35, Tryz.ntmps35
 go_upto_region 1 with fail
 rw [← hw1]
 clear hw1
 go_wp2_with fail
 refine H.out.mono ?_
 rintro e w2 ⟨T2, hf, hst, ⟨A, k, rfl, hrd⟩ | ⟨hne, hrp, rfl⟩⟩
 ·have q0 := hf.rowAt R0.out (by rw [TG.out]; exact xI)
  have t0 : T2 w.heap.size = t + 2 := by rw [hf.tag _ (by omega)]; exact TG.out
  have hz2 := hf.size
  obtain ⟨C, hC⟩ : ∃ C : Array Value, C = #[.int .i64 r.c, .int .i64 r.n, .int .i64 r.m, .slice A r.T k] := ⟨_, rfl⟩
  have hb3 := (Below.refl w2.heap.size w2).alloc (Nat.le_refl _) (.cells C 33)
  obtain ⟨w3, hw3⟩ : ∃ w3, w3 = w2.alloc (.cells C 33) := ⟨_, rfl⟩
  have q3 : row w3 w2.heap.size = some C := by rw [hw3]; exact zA _ _ _ _ rfl
  rw [← hw3] at hb3
  have p0 := zC hb3 q0
  have F3 := (F1.out.trans hf).trans (Fr.new (T := T2) (H := H2 t) hb3 (t + 2))
  have G := Fr.row (T := zH T2 w2.heap.size (t + 2)) (H := fun c => c = t + 2) (w := w3) (B := w.heap.size) (by rw [zJ (by omega)]; exact t0) C
  have HST := Lib.hid ((hst.fr (Fr.new (H := fun _ => False) hb3 (t + 2)) (fun h => h) (fun h => h) (fun h => h)).fr G (by omega) (by omega) (by omega))
  have HRD := Lib.hid ((hrd.fr (Fr.new (H := fun _ => False) hb3 (t + 2)) (fun h => h)).fr G (by omega))
  have FF := Lib.hid (F3.up (Nat.le_refl _) C)
  have P0 := Lib.hid (zD p0 C)
  have Q3 := Lib.hid q3
  rw [hC] at hw3 q3 HST HRD FF P0 Q3
  clear hf hst hrd H F3 G hC hb3
  go_upto_region 2 with fail
  rw [← hw3]
  clear hw3 Q3
  go_wp2_with fail
  exact bodyPost_ret (v := rpV r A k) (yV Tryz.results35 _ _ w.heap.size _ _ rfl P0.out Tryz.underlying33 rfl (by kernel_rfl)) rfl ⟨_, FF.out, HST.out, A, k, rfl, HRD.out⟩
 ·have q0 := hf.rowAt R0.out (by rw [TG.out]; exact xI)
  have t0 : T2 w.heap.size = t + 2 := by rw [hf.tag _ (by omega)]; exact TG.out
  have hz2 := hf.size
  have hb3 := (Below.refl w2.heap.size w2).alloc (Nat.le_refl _) (.cells #[.int .i64 0, .int .i64 0, .int .i64 0, zR] 33)
  obtain ⟨w3, hw3⟩ : ∃ w3, w3 = w2.alloc (.cells #[.int .i64 0, .int .i64 0, .int .i64 0, zR] 33) := ⟨_, rfl⟩
  rw [← hw3] at hb3
  have p0 := zC hb3 q0
  obtain ⟨C, hC⟩ : ∃ C : Array Value, C = #[.int .i64 r.c, .int .i64 0, .int .i64 0, zR] := ⟨_, rfl⟩
  have F3 := (F1.out.trans hf).trans (Fr.new (T := T2) (H := H2 t) hb3 (t + 2))
  have G := Fr.row (T := zH T2 w2.heap.size (t + 2)) (H := fun c => c = t + 2) (w := w3) (B := w.heap.size) (by rw [zJ (by omega)]; exact t0) C
  have HST := Lib.hid ((hst.fr (Fr.new (H := fun _ => False) hb3 (t + 2)) (fun h => h) (fun h => h) (fun h => h)).fr G (by omega) (by omega) (by omega))
  have FF := Lib.hid (F3.up (Nat.le_refl _) C)
  have P0 := Lib.hid (zD p0 C)
  rw [hC] at HST FF P0
  have HRP := Lib.hid hrp
  obtain ⟨E, hE⟩ : ∃ E, E = r.c := ⟨_, rfl⟩
  rw [← hE] at hne HST FF P0 HRP ⊢
  have HE := Lib.hid hE
  have hnb : (E != 0) = true := by simpa using hne
  clear hf hst H F3 G hC hb3 hrp hE
  go_upto_region 2 with fail
  rw [← hw3]
  clear hw3
  go_wp2_with fail
  refine bodyPost_ret (v := repV E 0 0 zR) (yV Tryz.results35 _ _ w.heap.size _ _ rfl P0.out Tryz.underlying33 rfl (by kernel_rfl)) rfl ⟨_, FF.out, HST.out, none, 0, ?_, ?_⟩
  ·rw [HRP.out]; rfl
  ·rw [HRP.out]; exact RdS.nil _ _ _ _
theorem co_i : (Tryz.prog.info? 36).map (·.size) = some 7 := by kernel_rfl
@[go_sem ↓] theorem co_l (p : Value) : Instr.loadAt 36 p = ldA 36 p := rfl
@[go_sem ↓] theorem co_s (p v : Value) : Instr.storeAt 36 p v = stA 36 p v := rfl
@[go_sem] theorem co_ld (w : World) (b o : Nat) : (ldA 36 (.pointer (some ⟨b, o, none⟩))).run Tryz.prog w = ldR Tryz.prog 36 7 w b o (row w b) := ld_rowS _ _ Tryz.underlying36 rfl 7 co_i w b o
@[go_sem] theorem co_ldx (P : Program) (t : Nat) (w : World) (b : Nat) (x0 x1 x2 x3 x4 x5 x6 : Value) : ldR P t 7 w b 0 (some #[x0, x1, x2, x3, x4, x5, x6]) = .ok (.agg #[x0, x1, x2, x3, x4, x5, x6]) w := ldR_whole P t 7 w b _ rfl
abbrev cmV (c : Cm) (A : Option Addr) (a : Nat) (A' : Option Addr) (a' : Nat) : Value := comV c.k c.s c.q c.i c.n (.slice A c.T a) (.slice A' c.U a')
abbrev cmA (c : Cm) (A : Option Addr) (a : Nat) (A' : Option Addr) (a' : Nat) : Array Value := #[.int .i64 c.k, .int .i64 c.s, .int .i64 c.q, .int .i64 c.i, .int .i64 c.n, .slice A c.T a, .slice A' c.U a']
structure CmR (T : Mk) (w : World) (tc : Nat) (c : Cm) (A : Option Addr) (a : Nat) (A' : Option Addr) (a' : Nat) : Prop where
 d : RdS T w tc A c.T a c.f
 b : RdS T w tc A' c.U a' c.h
abbrev off3 (t tc : Nat) : Prop := tc < t ∨ t + 2 < tc
section
variable {T T' : Mk} {w w' : World} {t B tc : Nat} {c : Cm} {A A' : Option Addr} {a a' : Nat} {H : Nat → Prop}
theorem CmR.fr (h : CmR T w tc c A a A' a') (hf : Fr T T' H w w') (hn : ¬ H tc) : CmR T' w' tc c A a A' a' := ⟨h.d.fr hf hn, h.b.fr hf hn⟩
theorem RdS.offB {n k : Nat} {f : Bf} (h : RdS T w tc A n k f) (hB : T B ≠ tc) : Off B n A := fun hn a ha e => hB (by rw [← e]; exact h.tg hn a ha)
end
theorem arr_key (a : Addr) (c : Nat) (w : World) : (Instr.arrayAt 61 (.slice (some a) 32 c)).run Tryz.prog w = .ok (.pointer (some a)) w := by
 simp [Instr.arrayAt, run_underlying key_u]
theorem pmat_any16 (T : Mk) (t B : Nat) (x : Sx) (w : World) (hS : StAt T w t B x) (ht : 0 < t) (htab : Tab w) (h0 : off3 t (T 0)) (hn : x.n ≤ 1048576) :
  Calls Tryz.prog 136 #[.pointer (some ⟨B, 0, none⟩)] w fun e w' => e = .returned (.agg (ba 32 (drM x.d))) ∧ ∃ T', Fr T T' (H2 t) w w' ∧ StAt T' w' t B ⟨drD x.d, x.n + 1, x.K, x.l, x.g⟩ := by
 obtain ⟨R, hr, hput⟩ := hS.src
 have hB : 0 < B := by
  rcases Nat.eq_zero_or_pos B with e | e
  ·have := hS.tg; rw [e] at this; omega
  ·exact e
 obtain ⟨w1, hw1⟩ : ∃ w1, w1 = w.alloc (.cells (ba 32 fun _ => 0#8) 61) := ⟨_, rfl⟩
 have b1 : Below w.heap.size w w1 := by rw [hw1]; exact (Below.refl _ _).alloc (Nat.le_refl _) _
 have r1 : row w1 w.heap.size = some (ba 32 fun _ => 0#8) := by rw [hw1]; exact zA _ _ _ _ rfl
 have H1 := Lib.hid (ddraw_any x.d B 32 0 0 none (fun _ => 0#8) x.n w1 (htab.below b1 htab.pos) (zC b1 hr) hB (Sl.nothing _ _ _ _ _) (by omega) (fun h => absurd h (by omega)) (by omega) hn (by have := hS.ok.c; omega))
 have HP := Lib.hid hput
 have HS := Lib.hid hS
 have B1 := Lib.hid b1
 have R1 := Lib.hid r1
 have hak := arr_key
 have hBl := hS.lt
 have hz1 : w1.heap.size = w.heap.size + 1 := by rw [hw1]; simp
 clear hput b1 r1 hr hS htab
 go_enter Tryz.func136, Tryz.ntmps136
 go_upto_region 1 with fail
 rw [← hw1]
 clear hw1
 go_wp2_with fail
 refine H1.out.mono ?_
 rintro e w2 ⟨g, rfl, hg, hrg, hp⟩
 have P2 := Lib.hid hp
 have RG := hrg
 have r2 := hp.other (by omega) R1.out
 clear hp hrg H1
 go_wp2_with fail
 refine (mustb_ok _ _).mono ?_
 rintro e w2' ⟨rfl, rfl⟩
 have hBl2 := P2.out.size
 go_wp2_with fail
 have hst := HP.out ht w2' (drD x.d) (x.n + 1) (Put.behind B1.out hBl P2.out) (by have := HS.out.ok.c; omega) (t + 2)
 have hf : Fr T (zH T w.heap.size (t + 2)) (H2 t) w w2' := by
  have hb : Below w1.heap.size (w1.setRow B (srcC R (drD x.d).1 (drD x.d).2 (x.n + 1))) w2' := P2.out
  exact (Fr.new (H := H2 t) B1.out (t + 2)).trans ⟨hb.1, hb.2, hb.3, P2.out.size, fun k hk hn => P2.out.block k hk (fun e => hn (by rw [e, zJ hBl, HS.out.tg]; exact .inl rfl)), fun k hk => rfl⟩
 have G := Fr.row (T := zH T w.heap.size (t + 2)) (H := fun c => c = t + 2) (w := w2') (B := w.heap.size) (zN (Nat.le_refl _)) (ba 32 (drM x.d))
 exact bodyPost_ret (v := .agg (ba 32 (drM x.d))) (yV Tryz.results136 _ _ w.heap.size _ _ rfl (zD r2 _) key_u rfl (by rw [zG]; exact key_i)) rfl ⟨rfl, _, hf.up (Nat.le_refl _) _, hst.fr G (by omega) (by omega) (by omega)⟩
structure ExIn (T : Mk) (w : World) (t B tc : Nat) (x : Sx) (c : Cm) (A : Option Addr) (a : Nat) (A' : Option Addr) (a' : Nat) : Prop where
 st : StAt T w t B x
 t0 : 0 < t
 tab : Tab w
 m0 : off3 t (T 0)
 cm : CmR T w tc c A a A' a'
 mc : off3 t tc
 n : x.n ≤ 1048576
 chk : chkE c.k c.s c.q c.i c.n c.T c.U = 0
section
variable {T T' : Mk} {w w' : World} {t B tc : Nat} {x : Sx} {c : Cm} {A A' : Option Addr} {a a' : Nat} {H : Nat → Prop}
theorem ExIn.below (h : ExIn T w t B tc x c A a A' a') (hb : Below w.heap.size w w') : ExIn (zH T w.heap.size (t + 2)) w' t B tc x c A a A' a' := by
 have hf := Fr.new (T := T) (H := fun _ => False) hb (t + 2)
 exact ⟨h.st.fr hf (fun h => h) (fun h => h) (fun h => h), h.t0, h.tab.below hb h.tab.pos, by rw [zJ h.tab.pos]; exact h.m0, h.cm.fr hf (fun h => h), h.mc, h.n, h.chk⟩
theorem ExIn.tB (h : ExIn T w t B tc x c A a A' a') : T B ≠ tc := by have := h.st.tg; have := h.mc; omega
theorem ExIn.B0 (h : ExIn T w t B tc x c A a A' a') : 0 < B := by
 rcases Nat.eq_zero_or_pos B with e | e
 ·have := h.st.tg; have := h.m0; rw [e] at *; omega
 ·exact e
end
abbrev RdCm (Z : Nat) (cc : Array Value) : World → Prop := fun y => row y Z = some cc
theorem rp_b12 (n m : Int) (w : World) : (Instr.build 33 #[(1, .int .i64 n), (2, .int .i64 m)]).run Tryz.prog w = .ok (repV 0 n m (.slice none 0 0)) w := by kernel_rfl
theorem repE_c {E : Int} {r : Rp} (h : E ≠ 0) : rpO E r = rpE E := by unfold rpO; rw [if_neg h]
theorem repO_c {E : Int} {r : Rp} (h : E = 0) : rpO E r = r := by unfold rpO; rw [if_pos h]
theorem pex3 (T : Mk) (t B tc : Nat) (x : Sx) (c : Cm) (A A' : Option Addr) (a a' : Nat) (w : World) (h : ExIn T w t B tc x c A a A' a') (hk : c.k = 3) :
  Calls Tryz.prog 83 #[.pointer (some ⟨B, 0, none⟩), cmV c A a A' a'] w (OutR t B ⟨exD x c, exC x c, exK x c, x.l, x.g⟩ (exR x c) T w) := by
 have HR := Lib.hid (show exR x c = rpO (crE x.K) ⟨0, crN x.K, 1, 0, fun _ => 0#8⟩ from if_pos hk)
 have HX := Lib.hid (show exD x c = drD x.d ∧ exC x c = x.n + 1 ∧ exK x c = crK x.K (drM x.d) from ⟨if_pos (.inl hk), if_pos (.inl hk), if_pos hk⟩)
 obtain ⟨Z, hZ⟩ : ∃ Z, Z = w.heap.size := ⟨_, rfl⟩
 obtain ⟨w1, hw1⟩ : ∃ w1, w1 = (w.alloc (.cells (cmA c A a A' a') 36)).alloc (.cells #[.int .i64 0, .int .i64 0, .int .i64 0, zR] 33) := ⟨_, rfl⟩
 have bw : Below w.heap.size w w1 := by rw [hw1]; exact ((Below.refl _ _).alloc (Nat.le_refl _) _).alloc (by simp) _
 have rc : row w1 Z = some (cmA c A a A' a') := by rw [hw1, hZ]; exact zI (zA _ _ _ _ rfl) _
 have rr : row w1 (Z + 1) = some #[.int .i64 0, .int .i64 0, .int .i64 0, zR] := by rw [hw1, hZ]; exact zA _ _ _ _ (by simp)
 have hz1 : w1.heap.size = Z + 2 := by rw [hw1, hZ]; simp
 have X1 := Lib.hid (h.below bw)
 have F1 := Lib.hid (show Fr T (zH T w.heap.size (t + 2)) (H2 t) w w1 from Fr.new bw _)
 have TG := Lib.hid (show zH T w.heap.size (t + 2) Z = t + 2 ∧ zH T w.heap.size (t + 2) (Z + 1) = t + 2 from ⟨zN (by omega), zN (by omega)⟩)
 obtain ⟨T1, hT1⟩ : ∃ T1, T1 = zH T w.heap.size (t + 2) := ⟨_, rfl⟩
 rw [← hT1] at X1 F1 TG
 have HZ := Lib.hid hZ
 have RC := Lib.hid rc
 have RR := Lib.hid rr
 have ht := h.t0
 have bd1 := rp_b12
 have HK := Lib.hid hk
 clear h bw rc rr hT1 hZ hk
 go_enter Tryz.func83, Tryz.ntmps83
 go_upto_region 1 with fail
 rw [← hw1, ← HZ.out]
 clear hw1
 obtain ⟨a0, a1, a2, a3, a4, a5, a6⟩ := zX RC.out
 rw [HK.out] at a0
 go_upto_region 3 with fail
 refine yB [([0, 1, 2, 3], 4, false), ([], 5, false), ([6, 7], 8, false), ([9], 10, true)] [] (fun _ => True) (by kernel_rfl) (by kernel_rfl) (fun _ _ _ _ _ h => h) trivial ?_
 clear a0 a1 a2 a3 a4 a5 a6
 have b2 := zL (Below.refl w1.heap.size w1) 1
 have X2 := X1.out.below b2
 have F2 := F1.out.trans (Fr.new (T := T1) (H := H2 t) b2 (t + 2))
 have RR2 := Lib.hid (zC b2 RR.out)
 have TG2 := Lib.hid (show zH T1 w1.heap.size (t + 2) (Z + 1) = t + 2 by rw [zJ (by omega)]; exact TG.out.2)
 have hz2 : (w1.drewN 1).heap.size = Z + 2 := hz1
 obtain ⟨T2, hT2⟩ : ∃ T2, T2 = zH T1 w1.heap.size (t + 2) := ⟨_, rfl⟩
 obtain ⟨w2, hw2⟩ : ∃ w2, w2 = w1.drewN 1 := ⟨_, rfl⟩
 rw [← hT2, ← hw2] at X2 F2
 rw [← hw2] at RR2 hz2 ⊢
 rw [← hT2] at TG2
 replace X2 := Lib.hid X2
 replace F2 := Lib.hid F2
 clear hT2 hw2 b2 X1 F1 RR TG RC hz1
 have H3 := Lib.hid (pmat_any16 T2 t B x w2 X2.out.st ht X2.out.tab X2.out.m0 X2.out.n)
 simp only [wpFl, pk, List.getElem?_cons_zero, List.getElem?_cons_succ]
 repeat (go_big_quiet_step (fail))
 refine wpQuiet_nil ?_
 go_wp2_with fail
 refine H3.out.mono ?_
 rintro e w3 ⟨rfl, T3, hf3, hs3⟩
 obtain ⟨R, hk3, hput⟩ := hs3.keys
 have F3 := Lib.hid (F2.out.trans hf3)
 have RR3 := Lib.hid (hf3.rowAt RR2.out (by rw [TG2.out]; exact xI))
 have TG3 := Lib.hid (show T3 (Z + 1) = t + 2 by rw [hf3.tag _ (by omega)]; exact TG2.out)
 have PT := Lib.hid hput
 have S3 := Lib.hid hs3
 have H4 := Lib.hid (wcr_any B x.K (drM x.d) w3 hk3)
 have hz3 := hf3.size
 have hBZ : B ≠ Z + 1 := fun e => by have := hs3.tg; have := TG3.out; rw [e] at *; omega
 clear hf3 hs3 hk3 hput H3 RR2 TG2 F2
 go_wp2_with fail
 refine ⟨fun _ => True, trivial, .inr ⟨trivial, fun _ h => h⟩, ?_⟩
 show wpQuiet _ _ _ _ _ _
 refine wpQuiet_nil ?_
 go_wp2_with fail
 refine H4.out.mono ?_
 rintro e w4 ⟨rfl, hk4, hc4⟩
 have hst4 := PT.out ht w4 (crK x.K (drM x.d)) hk4 hc4 (t + 2)
 have hf4 := hc4.fr (T := T3) (H := H2 t) (by rw [S3.out.tg]; exact .inl rfl) (t + 2)
 have F4 := Lib.hid (F3.out.trans hf4)
 have S4 := Lib.hid hst4
 have RR4 := Lib.hid (hc4.row RR3.out (fun e => hBZ e.symm))
 have TG4 := Lib.hid (show zH T3 w3.heap.size (t + 2) (Z + 1) = t + 2 by rw [zJ (by omega)]; exact TG3.out)
 obtain ⟨T4, hT4⟩ : ∃ T4, T4 = zH T3 w3.heap.size (t + 2) := ⟨_, rfl⟩
 rw [← hT4] at F4 S4 TG4
 clear hst4 hf4 hk4 hc4 hT4 H4 PT S3 F3 RR3 TG3
 obtain ⟨N, hN⟩ : ∃ N, N = crN x.K := ⟨_, rfl⟩
 obtain ⟨E, hE⟩ : ∃ E, E = crE x.K := ⟨_, rfl⟩
 rw [← hN, ← hE]
 have HN := Lib.hid hN
 have HE := Lib.hid hE
 clear hN hE
 go_wp2_with fail
 refine ⟨fun _ => True, trivial, .inr ⟨trivial, fun _ h => h⟩, ?_⟩
 show wpQuiet _ _ _ _ _ _
 repeat (go_big_quiet_step (fail))
 refine wpQuiet_nil ?_
 by_cases h0 : E = 0
 ·subst h0
  go_wp2_with fail
  refine (musti_ok _ _).mono ?_
  rintro e w5 ⟨rfl, rfl⟩
  go_wp2_with fail
  refine ⟨fun _ => True, trivial, .inr ⟨trivial, fun _ h => h⟩, ?_⟩
  show wpQuiet _ _ _ _ _ _
  repeat (go_big_quiet_step (fail))
  refine wpQuiet_nil ?_
  have rr := RR4.out
  go_wp2_with fail
  have G := Fr.row (T := T4) (H := fun c => c = t + 2) (w := w5) (B := Z + 1) TG4.out #[.int .i64 0, .int .i64 N, .int .i64 1, zR]
  have ST := Lib.hid (S4.out.fr G (by omega) (by omega) (by omega))
  have FF := Lib.hid (F4.out.up (b := Z + 1) (by have := HZ.out; omega) #[.int .i64 0, .int .i64 N, .int .i64 1, zR])
  have RF := Lib.hid (zD rr #[.int .i64 0, .int .i64 N, .int .i64 1, zR])
  clear G rr
  refine ⟨fun _ => True, trivial, ?_⟩
  show wpQuiet _ _ _ _ _ _
  refine wpQuiet_nil ?_
  go_wp2_with fail
  refine bodyPost_ret (v := repV 0 N 1 zR) (yV Tryz.results83 _ _ (Z + 1) _ _ rfl RF.out Tryz.underlying33 rfl (by kernel_rfl)) rfl ?_
  rw [HR.out, repO_c HE.out.symm, HX.out.1, HX.out.2.1, HX.out.2.2, ← HN.out]
  exact ⟨_, FF.out, ST.out, .inl ⟨none, 0, rfl, RdS.nil _ _ _ _⟩⟩
 ·go_wp2_with fail
  refine (musti_bad _ E h0 _).mono ?_
  rintro e w5 ⟨rfl, rfl⟩
  go_wp2_with fail
  rw [HR.out, repE_c (by rw [← HE.out]; exact h0), HX.out.1, HX.out.2.1, HX.out.2.2, ← HE.out]
  exact ⟨rfl, _, F4.out, S4.out, .inr ⟨h0, rfl, rfl⟩⟩
theorem pex5 (T : Mk) (t B tc : Nat) (x : Sx) (c : Cm) (A A' : Option Addr) (a a' : Nat) (w : World) (h : ExIn T w t B tc x c A a A' a') (hk : c.k = 5) :
  Calls Tryz.prog 83 #[.pointer (some ⟨B, 0, none⟩), cmV c A a A' a'] w (OutR t B ⟨exD x c, exC x c, exK x c, x.l, x.g⟩ (exR x c) T w) := by
 have HR := Lib.hid (show exR x c = rpE (swE x.K c.i) from (by unfold exR; rw [if_neg (by omega), if_neg (by omega), if_pos hk]))
 have HX := Lib.hid (show exD x c = x.d ∧ exC x c = x.n ∧ exK x c = swK x.K c.i (decide (c.n = 1)) from ⟨(by unfold exD; rw [if_neg (by omega), if_neg (by omega)]), (by unfold exC; rw [if_neg (by omega), if_neg (by omega)]), (by unfold exK; rw [if_neg (by omega), if_neg (by omega), if_pos hk])⟩)
 obtain ⟨Z, hZ⟩ : ∃ Z, Z = w.heap.size := ⟨_, rfl⟩
 obtain ⟨w1, hw1⟩ : ∃ w1, w1 = (w.alloc (.cells (cmA c A a A' a') 36)).alloc (.cells #[.int .i64 0, .int .i64 0, .int .i64 0, zR] 33) := ⟨_, rfl⟩
 have bw : Below w.heap.size w w1 := by rw [hw1]; exact ((Below.refl _ _).alloc (Nat.le_refl _) _).alloc (by simp) _
 have rc : row w1 Z = some (cmA c A a A' a') := by rw [hw1, hZ]; exact zI (zA _ _ _ _ rfl) _
 have rr : row w1 (Z + 1) = some #[.int .i64 0, .int .i64 0, .int .i64 0, zR] := by rw [hw1, hZ]; exact zA _ _ _ _ (by simp)
 have hz1 : w1.heap.size = Z + 2 := by rw [hw1, hZ]; simp
 have X1 := Lib.hid (h.below bw)
 have F1 := Lib.hid (show Fr T (zH T w.heap.size (t + 2)) (H2 t) w w1 from Fr.new bw _)
 have TG := Lib.hid (show zH T w.heap.size (t + 2) Z = t + 2 ∧ zH T w.heap.size (t + 2) (Z + 1) = t + 2 from ⟨zN (by omega), zN (by omega)⟩)
 obtain ⟨T1, hT1⟩ : ∃ T1, T1 = zH T w.heap.size (t + 2) := ⟨_, rfl⟩
 rw [← hT1] at X1 F1 TG
 have HZ := Lib.hid hZ
 have RC := Lib.hid rc
 have RR := Lib.hid rr
 have ht := h.t0
 have HK := Lib.hid hk
 have bd0 := rp_b0'
 clear h bw rc rr hT1 hZ hk
 go_enter Tryz.func83, Tryz.ntmps83
 go_upto_region 1 with fail
 rw [← hw1, ← HZ.out]
 clear hw1
 obtain ⟨a0, a1, a2, a3, a4, a5, a6⟩ := zX RC.out
 rw [HK.out] at a0
 go_upto_region 7 with fail
 refine yB [([0, 1, 2, 3, 4, 5, 6, 7], 8, false), ([], 9, true)] [] (RdCm Z (cmA c A a A' a')) (by kernel_rfl) (by kernel_rfl) (fun _ _ _ _ _ h => h) (by show row _ _ = _; rw [zQ]; exact RC.out) ?_
 clear a0 a1 a2 a3 a4 a5 a6
 have b2 := zL (Below.refl w1.heap.size w1) 1
 have X2 := X1.out.below b2
 have F2 := F1.out.trans (Fr.new (T := T1) (H := H2 t) b2 (t + 2))
 have RR2 := Lib.hid (zC b2 RR.out)
 have RC2 := Lib.hid (zC b2 RC.out)
 have TG2 := Lib.hid (show zH T1 w1.heap.size (t + 2) Z = t + 2 ∧ zH T1 w1.heap.size (t + 2) (Z + 1) = t + 2 by rw [zJ (by omega), zJ (by omega)]; exact TG.out)
 have hz2 : (w1.drewN 1).heap.size = Z + 2 := hz1
 obtain ⟨T2, hT2⟩ : ∃ T2, T2 = zH T1 w1.heap.size (t + 2) := ⟨_, rfl⟩
 obtain ⟨w2, hw2⟩ : ∃ w2, w2 = w1.drewN 1 := ⟨_, rfl⟩
 rw [← hT2, ← hw2] at X2 F2
 rw [← hw2] at RR2 RC2 hz2 ⊢
 rw [← hT2] at TG2
 replace X2 := Lib.hid X2
 replace F2 := Lib.hid F2
 clear hT2 hw2 b2 X1 F1 RR TG RC hz1
 have hne : Nonempty (In (RdCm Z (cmA c A a A' a'))) := ⟨⟨w2, RC2.out⟩⟩
 have Q0 : ∀ y : In (RdCm Z (cmA c A a A' a')), row y.val Z = some (cmA c A a A' a') := fun y => y.ok
 have Q3 : ∀ y : In (RdCm Z (cmA c A a A' a')), y.val.cell? ⟨Z, 3, none⟩ = some (.int .i64 c.i) := fun y => (zX y.ok).2.2.2.1
 have Q4 : ∀ y : In (RdCm Z (cmA c A a A' a')), y.val.cell? ⟨Z, 4, none⟩ = some (.int .i64 c.n) := fun y => (zX y.ok).2.2.2.2.1
 have Q5 : ∀ y : In (RdCm Z (cmA c A a A' a')), y.val.cell? ⟨Z, 5, none⟩ = some (.slice A c.T a) := fun y => (zX y.ok).2.2.2.2.2.1
 have Q6 : ∀ y : In (RdCm Z (cmA c A a A' a')), y.val.cell? ⟨Z, 6, none⟩ = some (.slice A' c.U a') := fun y => (zX y.ok).2.2.2.2.2.2
 simp only [wpFl, pk, List.getElem?_cons_zero, List.getElem?_cons_succ]
 refine yR ?_
 repeat (go_big_quiet_step (fail))
 refine wpQuiet_nil ?_
 clear Q0 Q3 Q4 Q5 Q6 hne
 obtain ⟨R, hk2, hput⟩ := X2.out.st.keys
 have PT := Lib.hid hput
 have H4 := Lib.hid (wsw_any B x.K c.i (decide (c.n = 1)) w2 hk2)
 have hBZ : B ≠ Z ∧ B ≠ Z + 1 := by
  have h1 := X2.out.st.tg
  have h2 := TG2.out
  exact ⟨fun e => by rw [e] at h1; omega, fun e => by rw [e] at h1; omega⟩
 clear hk2 hput
 go_wp2_with fail
 refine H4.out.mono ?_
 rintro e w4 ⟨rfl, hk4, hc4⟩
 have hst4 := PT.out ht w4 (swK x.K c.i (decide (c.n = 1))) hk4 hc4 (t + 2)
 have hf4 := hc4.fr (T := T2) (H := H2 t) (by rw [X2.out.st.tg]; exact .inl rfl) (t + 2)
 have F4 := Lib.hid (F2.out.trans hf4)
 have S4 := Lib.hid hst4
 have RR4 := Lib.hid (hc4.row RR2.out (fun e => hBZ.2 e.symm))
 have RC4 := Lib.hid (hc4.row RC2.out (fun e => hBZ.1 e.symm))
 have TG4 := Lib.hid (show zH T2 w2.heap.size (t + 2) (Z + 1) = t + 2 by rw [zJ (by omega)]; exact TG2.out.2)
 have hz4 := hc4.size
 obtain ⟨T4, hT4⟩ : ∃ T4, T4 = zH T2 w2.heap.size (t + 2) := ⟨_, rfl⟩
 rw [← hT4] at F4 S4 TG4
 clear hst4 hf4 hk4 hc4 hT4 H4 PT X2 F2 RR2 RC2 TG2 hBZ
 obtain ⟨E, hE⟩ : ∃ E, E = swE x.K c.i := ⟨_, rfl⟩
 rw [← hE]
 have HE := Lib.hid hE
 clear hE
 by_cases h0 : E = 0
 ·subst h0
  go_wp2_with fail
  refine ⟨RdCm Z (cmA c A a A' a'), RC4.out, .inr ⟨RC4.out, fun _ h => h⟩, ?_⟩
  show wpQuiet _ _ _ _ _ _
  refine wpQuiet_nil ?_
  go_wp2_with fail
  refine (xB _).mono ?_
  rintro e w5 ⟨rfl, rfl⟩
  go_wp2_with fail
  first | refine ⟨RdCm Z (cmA c A a A' a'), RC4.out, .inr ⟨RC4.out, fun _ h => h⟩, ?_⟩ | refine ⟨RdCm Z (cmA c A a A' a'), RC4.out, ?_⟩
  show wpQuiet _ _ _ _ _ _
  refine wpQuiet_nil ?_
  have rr := RR4.out
  have G := Fr.row (T := T4) (H := fun c => c = t + 2) (w := w5) (B := Z + 1) TG4.out #[.int .i64 0, .int .i64 0, .int .i64 0, zR]
  have ST := Lib.hid (S4.out.fr G (by omega) (by omega) (by omega))
  have FF := Lib.hid (F4.out.up (b := Z + 1) (by have := HZ.out; omega) #[.int .i64 0, .int .i64 0, .int .i64 0, zR])
  have RF := Lib.hid (zD rr #[.int .i64 0, .int .i64 0, .int .i64 0, zR])
  clear G
  go_wp2_with fail
  refine bodyPost_ret (v := repV 0 0 0 zR) (yV Tryz.results83 _ _ (Z + 1) _ _ rfl RF.out Tryz.underlying33 rfl (by kernel_rfl)) rfl ?_
  rw [HR.out, HX.out.1, HX.out.2.1, HX.out.2.2, ← HE.out]
  exact ⟨_, FF.out, ST.out, .inl ⟨none, 0, rfl, RdS.nil _ _ _ _⟩⟩
 ·go_wp2_with fail
  refine ⟨RdCm Z (cmA c A a A' a'), RC4.out, .inr ⟨RC4.out, fun _ h => h⟩, ?_⟩
  show wpQuiet _ _ _ _ _ _
  refine wpQuiet_nil ?_
  go_wp2_with fail
  refine (yW E h0 _).mono ?_
  rintro e w5 ⟨rfl, rfl⟩
  go_wp2_with fail
  rw [HR.out, HX.out.1, HX.out.2.1, HX.out.2.2, ← HE.out]
  exact ⟨rfl, _, F4.out, S4.out, .inr ⟨h0, rfl, rfl⟩⟩
theorem pex6 (T : Mk) (t B tc : Nat) (x : Sx) (c : Cm) (A A' : Option Addr) (a a' : Nat) (w : World) (h : ExIn T w t B tc x c A a A' a') (hk : c.k = 6) :
  Calls Tryz.prog 83 #[.pointer (some ⟨B, 0, none⟩), cmV c A a A' a'] w (OutR t B ⟨exD x c, exC x c, exK x c, x.l, x.g⟩ (exR x c) T w) := by
 have HR := Lib.hid (show exR x c = rpE (dsE x.K c.i c.n) from (by unfold exR; rw [if_neg (by omega), if_neg (by omega), if_neg (by omega), if_pos hk]))
 have HX := Lib.hid (show exD x c = x.d ∧ exC x c = x.n ∧ exK x c = dsK x.K c.i c.n from ⟨(by unfold exD; rw [if_neg (by omega), if_neg (by omega)]), (by unfold exC; rw [if_neg (by omega), if_neg (by omega)]), (by unfold exK; rw [if_neg (by omega), if_neg (by omega), if_neg (by omega), if_pos hk])⟩)
 obtain ⟨Z, hZ⟩ : ∃ Z, Z = w.heap.size := ⟨_, rfl⟩
 obtain ⟨w1, hw1⟩ : ∃ w1, w1 = (w.alloc (.cells (cmA c A a A' a') 36)).alloc (.cells #[.int .i64 0, .int .i64 0, .int .i64 0, zR] 33) := ⟨_, rfl⟩
 have bw : Below w.heap.size w w1 := by rw [hw1]; exact ((Below.refl _ _).alloc (Nat.le_refl _) _).alloc (by simp) _
 have rc : row w1 Z = some (cmA c A a A' a') := by rw [hw1, hZ]; exact zI (zA _ _ _ _ rfl) _
 have rr : row w1 (Z + 1) = some #[.int .i64 0, .int .i64 0, .int .i64 0, zR] := by rw [hw1, hZ]; exact zA _ _ _ _ (by simp)
 have hz1 : w1.heap.size = Z + 2 := by rw [hw1, hZ]; simp
 have X1 := Lib.hid (h.below bw)
 have F1 := Lib.hid (show Fr T (zH T w.heap.size (t + 2)) (H2 t) w w1 from Fr.new bw _)
 have TG := Lib.hid (show zH T w.heap.size (t + 2) Z = t + 2 ∧ zH T w.heap.size (t + 2) (Z + 1) = t + 2 from ⟨zN (by omega), zN (by omega)⟩)
 obtain ⟨T1, hT1⟩ : ∃ T1, T1 = zH T w.heap.size (t + 2) := ⟨_, rfl⟩
 rw [← hT1] at X1 F1 TG
 have HZ := Lib.hid hZ
 have RC := Lib.hid rc
 have RR := Lib.hid rr
 have ht := h.t0
 have HK := Lib.hid hk
 have bd0 := rp_b0'
 clear h bw rc rr hT1 hZ hk
 go_enter Tryz.func83, Tryz.ntmps83
 go_upto_region 1 with fail
 rw [← hw1, ← HZ.out]
 clear hw1
 obtain ⟨a0, a1, a2, a3, a4, a5, a6⟩ := zX RC.out
 rw [HK.out] at a0
 go_upto_region 9 with fail
 refine yB [([0, 1, 2, 3, 4, 5, 6], 7, false), ([], 8, true)] [] (RdCm Z (cmA c A a A' a')) (by kernel_rfl) (by kernel_rfl) (fun _ _ _ _ _ h => h) (by show row _ _ = _; rw [zQ]; exact RC.out) ?_
 clear a0 a1 a2 a3 a4 a5 a6
 have b2 := zL (Below.refl w1.heap.size w1) 1
 have X2 := X1.out.below b2
 have F2 := F1.out.trans (Fr.new (T := T1) (H := H2 t) b2 (t + 2))
 have RR2 := Lib.hid (zC b2 RR.out)
 have RC2 := Lib.hid (zC b2 RC.out)
 have TG2 := Lib.hid (show zH T1 w1.heap.size (t + 2) Z = t + 2 ∧ zH T1 w1.heap.size (t + 2) (Z + 1) = t + 2 by rw [zJ (by omega), zJ (by omega)]; exact TG.out)
 have hz2 : (w1.drewN 1).heap.size = Z + 2 := hz1
 obtain ⟨T2, hT2⟩ : ∃ T2, T2 = zH T1 w1.heap.size (t + 2) := ⟨_, rfl⟩
 obtain ⟨w2, hw2⟩ : ∃ w2, w2 = w1.drewN 1 := ⟨_, rfl⟩
 rw [← hT2, ← hw2] at X2 F2
 rw [← hw2] at RR2 RC2 hz2 ⊢
 rw [← hT2] at TG2
 replace X2 := Lib.hid X2
 replace F2 := Lib.hid F2
 clear hT2 hw2 b2 X1 F1 RR TG RC hz1
 have hne : Nonempty (In (RdCm Z (cmA c A a A' a'))) := ⟨⟨w2, RC2.out⟩⟩
 have Q0 : ∀ y : In (RdCm Z (cmA c A a A' a')), row y.val Z = some (cmA c A a A' a') := fun y => y.ok
 have Q3 : ∀ y : In (RdCm Z (cmA c A a A' a')), y.val.cell? ⟨Z, 3, none⟩ = some (.int .i64 c.i) := fun y => (zX y.ok).2.2.2.1
 have Q4 : ∀ y : In (RdCm Z (cmA c A a A' a')), y.val.cell? ⟨Z, 4, none⟩ = some (.int .i64 c.n) := fun y => (zX y.ok).2.2.2.2.1
 have Q5 : ∀ y : In (RdCm Z (cmA c A a A' a')), y.val.cell? ⟨Z, 5, none⟩ = some (.slice A c.T a) := fun y => (zX y.ok).2.2.2.2.2.1
 have Q6 : ∀ y : In (RdCm Z (cmA c A a A' a')), y.val.cell? ⟨Z, 6, none⟩ = some (.slice A' c.U a') := fun y => (zX y.ok).2.2.2.2.2.2
 simp only [wpFl, pk, List.getElem?_cons_zero, List.getElem?_cons_succ]
 refine yR ?_
 repeat (go_big_quiet_step (fail))
 refine wpQuiet_nil ?_
 clear Q0 Q3 Q4 Q5 Q6 hne
 obtain ⟨R, hk2, hput⟩ := X2.out.st.keys
 have PT := Lib.hid hput
 have H4 := Lib.hid (wds_any B x.K c.i c.n w2 hk2)
 have hBZ : B ≠ Z ∧ B ≠ Z + 1 := by
  have h1 := X2.out.st.tg
  have h2 := TG2.out
  exact ⟨fun e => by rw [e] at h1; omega, fun e => by rw [e] at h1; omega⟩
 clear hk2 hput
 go_wp2_with fail
 refine H4.out.mono ?_
 rintro e w4 ⟨rfl, hk4, hc4⟩
 have hst4 := PT.out ht w4 (dsK x.K c.i c.n) hk4 hc4 (t + 2)
 have hf4 := hc4.fr (T := T2) (H := H2 t) (by rw [X2.out.st.tg]; exact .inl rfl) (t + 2)
 have F4 := Lib.hid (F2.out.trans hf4)
 have S4 := Lib.hid hst4
 have RR4 := Lib.hid (hc4.row RR2.out (fun e => hBZ.2 e.symm))
 have RC4 := Lib.hid (hc4.row RC2.out (fun e => hBZ.1 e.symm))
 have TG4 := Lib.hid (show zH T2 w2.heap.size (t + 2) (Z + 1) = t + 2 by rw [zJ (by omega)]; exact TG2.out.2)
 have hz4 := hc4.size
 obtain ⟨T4, hT4⟩ : ∃ T4, T4 = zH T2 w2.heap.size (t + 2) := ⟨_, rfl⟩
 rw [← hT4] at F4 S4 TG4
 clear hst4 hf4 hk4 hc4 hT4 H4 PT X2 F2 RR2 RC2 TG2 hBZ
 obtain ⟨E, hE⟩ : ∃ E, E = dsE x.K c.i c.n := ⟨_, rfl⟩
 rw [← hE]
 have HE := Lib.hid hE
 clear hE
 by_cases h0 : E = 0
 ·subst h0
  go_wp2_with fail
  refine ⟨RdCm Z (cmA c A a A' a'), RC4.out, .inr ⟨RC4.out, fun _ h => h⟩, ?_⟩
  show wpQuiet _ _ _ _ _ _
  refine wpQuiet_nil ?_
  go_wp2_with fail
  refine (xB _).mono ?_
  rintro e w5 ⟨rfl, rfl⟩
  go_wp2_with fail
  first | refine ⟨RdCm Z (cmA c A a A' a'), RC4.out, .inr ⟨RC4.out, fun _ h => h⟩, ?_⟩ | refine ⟨RdCm Z (cmA c A a A' a'), RC4.out, ?_⟩
  show wpQuiet _ _ _ _ _ _
  refine wpQuiet_nil ?_
  have rr := RR4.out
  have G := Fr.row (T := T4) (H := fun c => c = t + 2) (w := w5) (B := Z + 1) TG4.out #[.int .i64 0, .int .i64 0, .int .i64 0, zR]
  have ST := Lib.hid (S4.out.fr G (by omega) (by omega) (by omega))
  have FF := Lib.hid (F4.out.up (b := Z + 1) (by have := HZ.out; omega) #[.int .i64 0, .int .i64 0, .int .i64 0, zR])
  have RF := Lib.hid (zD rr #[.int .i64 0, .int .i64 0, .int .i64 0, zR])
  clear G
  go_wp2_with fail
  refine bodyPost_ret (v := repV 0 0 0 zR) (yV Tryz.results83 _ _ (Z + 1) _ _ rfl RF.out Tryz.underlying33 rfl (by kernel_rfl)) rfl ?_
  rw [HR.out, HX.out.1, HX.out.2.1, HX.out.2.2, ← HE.out]
  exact ⟨_, FF.out, ST.out, .inl ⟨none, 0, rfl, RdS.nil _ _ _ _⟩⟩
 ·go_wp2_with fail
  refine ⟨RdCm Z (cmA c A a A' a'), RC4.out, .inr ⟨RC4.out, fun _ h => h⟩, ?_⟩
  show wpQuiet _ _ _ _ _ _
  refine wpQuiet_nil ?_
  go_wp2_with fail
  refine (yW E h0 _).mono ?_
  rintro e w5 ⟨rfl, rfl⟩
  go_wp2_with fail
  rw [HR.out, HX.out.1, HX.out.2.1, HX.out.2.2, ← HE.out]
  exact ⟨rfl, _, F4.out, S4.out, .inr ⟨h0, rfl, rfl⟩⟩
theorem pex4 (T : Mk) (t B tc : Nat) (x : Sx) (c : Cm) (A A' : Option Addr) (a a' : Nat) (w : World) (h : ExIn T w t B tc x c A a A' a') (hk : c.k = 4) :
  Calls Tryz.prog 83 #[.pointer (some ⟨B, 0, none⟩), cmV c A a A' a'] w (OutR t B ⟨exD x c, exC x c, exK x c, x.l, x.g⟩ (exR x c) T w) := by
 have HR := Lib.hid (show exR x c = rpO (rtE x.K c.i) ⟨0, c.i, rtN x.K c.i, 0, fun _ => 0#8⟩ from (by unfold exR; rw [if_neg (by omega), if_pos hk]))
 have HX := Lib.hid (show exD x c = drD x.d ∧ exC x c = x.n + 1 ∧ exK x c = rtK x.K c.i (drM x.d) from ⟨if_pos (.inr hk), if_pos (.inr hk), (by unfold exK; rw [if_neg (by omega), if_pos hk])⟩)
 obtain ⟨Z, hZ⟩ : ∃ Z, Z = w.heap.size := ⟨_, rfl⟩
 obtain ⟨w1, hw1⟩ : ∃ w1, w1 = (w.alloc (.cells (cmA c A a A' a') 36)).alloc (.cells #[.int .i64 0, .int .i64 0, .int .i64 0, zR] 33) := ⟨_, rfl⟩
 have bw : Below w.heap.size w w1 := by rw [hw1]; exact ((Below.refl _ _).alloc (Nat.le_refl _) _).alloc (by simp) _
 have rc : row w1 Z = some (cmA c A a A' a') := by rw [hw1, hZ]; exact zI (zA _ _ _ _ rfl) _
 have rr : row w1 (Z + 1) = some #[.int .i64 0, .int .i64 0, .int .i64 0, zR] := by rw [hw1, hZ]; exact zA _ _ _ _ (by simp)
 have hz1 : w1.heap.size = Z + 2 := by rw [hw1, hZ]; simp
 have X1 := Lib.hid (h.below bw)
 have F1 := Lib.hid (show Fr T (zH T w.heap.size (t + 2)) (H2 t) w w1 from Fr.new bw _)
 have TG := Lib.hid (show zH T w.heap.size (t + 2) Z = t + 2 ∧ zH T w.heap.size (t + 2) (Z + 1) = t + 2 from ⟨zN (by omega), zN (by omega)⟩)
 obtain ⟨T1, hT1⟩ : ∃ T1, T1 = zH T w.heap.size (t + 2) := ⟨_, rfl⟩
 rw [← hT1] at X1 F1 TG
 have HZ := Lib.hid hZ
 have RC := Lib.hid rc
 have RR := Lib.hid rr
 have ht := h.t0
 have HK := Lib.hid hk
 have bd1 := rp_b12
 clear h bw rc rr hT1 hZ hk
 go_enter Tryz.func83, Tryz.ntmps83
 go_upto_region 1 with fail
 rw [← hw1, ← HZ.out]
 clear hw1
 obtain ⟨a0, a1, a2, a3, a4, a5, a6⟩ := zX RC.out
 rw [HK.out] at a0
 go_upto_region 5 with fail
 refine yB [([0, 1, 2, 3, 4, 5, 6, 7], 8, false), ([], 9, false), ([10, 11], 12, false), ([13], 14, true)] [] (RdCm Z (cmA c A a A' a')) (by kernel_rfl) (by kernel_rfl) (fun _ _ _ _ _ h => h) (by show row _ _ = _; rw [zQ]; exact RC.out) ?_
 clear a0 a1 a2 a3 a4 a5 a6
 have b2 := zL (Below.refl w1.heap.size w1) 1
 have X2 := X1.out.below b2
 have F2 := F1.out.trans (Fr.new (T := T1) (H := H2 t) b2 (t + 2))
 have RR2 := Lib.hid (zC b2 RR.out)
 have RC2 := Lib.hid (zC b2 RC.out)
 have TG2 := Lib.hid (show zH T1 w1.heap.size (t + 2) Z = t + 2 ∧ zH T1 w1.heap.size (t + 2) (Z + 1) = t + 2 by rw [zJ (by omega), zJ (by omega)]; exact TG.out)
 have hz2 : (w1.drewN 1).heap.size = Z + 2 := hz1
 obtain ⟨T2, hT2⟩ : ∃ T2, T2 = zH T1 w1.heap.size (t + 2) := ⟨_, rfl⟩
 obtain ⟨w2, hw2⟩ : ∃ w2, w2 = w1.drewN 1 := ⟨_, rfl⟩
 rw [← hT2, ← hw2] at X2 F2
 rw [← hw2] at RR2 RC2 hz2 ⊢
 rw [← hT2] at TG2
 replace X2 := Lib.hid X2
 replace F2 := Lib.hid F2
 clear hT2 hw2 b2 X1 F1 RR TG RC hz1
 have hne : Nonempty (In (RdCm Z (cmA c A a A' a'))) := ⟨⟨w2, RC2.out⟩⟩
 have Q0 : ∀ y : In (RdCm Z (cmA c A a A' a')), row y.val Z = some (cmA c A a A' a') := fun y => y.ok
 have Q3 : ∀ y : In (RdCm Z (cmA c A a A' a')), y.val.cell? ⟨Z, 3, none⟩ = some (.int .i64 c.i) := fun y => (zX y.ok).2.2.2.1
 have Q4 : ∀ y : In (RdCm Z (cmA c A a A' a')), y.val.cell? ⟨Z, 4, none⟩ = some (.int .i64 c.n) := fun y => (zX y.ok).2.2.2.2.1
 have Q5 : ∀ y : In (RdCm Z (cmA c A a A' a')), y.val.cell? ⟨Z, 5, none⟩ = some (.slice A c.T a) := fun y => (zX y.ok).2.2.2.2.2.1
 have Q6 : ∀ y : In (RdCm Z (cmA c A a A' a')), y.val.cell? ⟨Z, 6, none⟩ = some (.slice A' c.U a') := fun y => (zX y.ok).2.2.2.2.2.2
 simp only [wpFl, pk, List.getElem?_cons_zero, List.getElem?_cons_succ]
 refine yR ?_
 repeat (go_big_quiet_step (fail))
 refine wpQuiet_nil ?_
 clear Q0 Q3 Q4 Q5 Q6 hne
 have H3 := Lib.hid (pmat_any16 T2 t B x w2 X2.out.st ht X2.out.tab X2.out.m0 X2.out.n)
 go_wp2_with fail
 refine H3.out.mono ?_
 rintro e w3 ⟨rfl, T3, hf3, hs3⟩
 obtain ⟨R, hk3, hput⟩ := hs3.keys
 have F3 := Lib.hid (F2.out.trans hf3)
 have RR3 := Lib.hid (hf3.rowAt RR2.out (by rw [TG2.out.2]; exact xI))
 have RC3 := Lib.hid (hf3.rowAt RC2.out (by rw [TG2.out.1]; exact xI))
 have TG3 := Lib.hid (show T3 Z = t + 2 ∧ T3 (Z + 1) = t + 2 by rw [hf3.tag _ (by omega), hf3.tag _ (by omega)]; exact TG2.out)
 have PT := Lib.hid hput
 have S3 := Lib.hid hs3
 have H4 := Lib.hid (wrt_any B x.K c.i (drM x.d) w3 hk3)
 have hz3 := hf3.size
 have hBZ : B ≠ Z ∧ B ≠ Z + 1 := by
  have h1 := hs3.tg
  have h2 := TG3.out
  exact ⟨fun e => by rw [e] at h1; omega, fun e => by rw [e] at h1; omega⟩
 clear hf3 hs3 hk3 hput H3 RR2 RC2 TG2 F2
 go_wp2_with fail
 refine ⟨RdCm Z (cmA c A a A' a'), RC3.out, .inr ⟨RC3.out, fun _ h => h⟩, ?_⟩
 show wpQuiet _ _ _ _ _ _
 refine wpQuiet_nil ?_
 go_wp2_with fail
 refine H4.out.mono ?_
 rintro e w4 ⟨rfl, hk4, hc4⟩
 have hst4 := PT.out ht w4 (rtK x.K c.i (drM x.d)) hk4 hc4 (t + 2)
 have hf4 := hc4.fr (T := T3) (H := H2 t) (by rw [S3.out.tg]; exact .inl rfl) (t + 2)
 have F4 := Lib.hid (F3.out.trans hf4)
 have S4 := Lib.hid hst4
 have RR4 := Lib.hid (hc4.row RR3.out (fun e => hBZ.2 e.symm))
 have RC4 := Lib.hid (hc4.row RC3.out (fun e => hBZ.1 e.symm))
 have TG4 := Lib.hid (show zH T3 w3.heap.size (t + 2) (Z + 1) = t + 2 by rw [zJ (by omega)]; exact TG3.out.2)
 have hz4 := hc4.size
 obtain ⟨T4, hT4⟩ : ∃ T4, T4 = zH T3 w3.heap.size (t + 2) := ⟨_, rfl⟩
 rw [← hT4] at F4 S4 TG4
 clear hst4 hf4 hk4 hc4 hT4 H4 PT S3 F3 RR3 RC3 TG3 hBZ
 obtain ⟨N, hN⟩ : ∃ N, N = rtN x.K c.i := ⟨_, rfl⟩
 obtain ⟨E, hE⟩ : ∃ E, E = rtE x.K c.i := ⟨_, rfl⟩
 rw [← hN, ← hE]
 have HN := Lib.hid hN
 have HE := Lib.hid hE
 clear hN hE
 go_wp2_with fail
 refine ⟨RdCm Z (cmA c A a A' a'), RC4.out, .inr ⟨RC4.out, fun _ h => h⟩, ?_⟩
 show wpQuiet _ _ _ _ _ _
 have hne : Nonempty (In (RdCm Z (cmA c A a A' a'))) := ⟨⟨w4, RC4.out⟩⟩
 refine yR ?_
 repeat (go_big_quiet_step (fail))
 refine wpQuiet_nil ?_
 clear hne
 by_cases h0 : E = 0
 ·subst h0
  go_wp2_with fail
  refine (musti_ok _ _).mono ?_
  rintro e w5 ⟨rfl, rfl⟩
  go_wp2_with fail
  refine ⟨RdCm Z (cmA c A a A' a'), RC4.out, .inr ⟨RC4.out, fun _ h => h⟩, ?_⟩
  show wpQuiet _ _ _ _ _ _
  have hne : Nonempty (In (RdCm Z (cmA c A a A' a'))) := ⟨⟨w5, RC4.out⟩⟩
  refine yR ?_
  repeat (go_big_quiet_step (fail))
  refine wpQuiet_nil ?_
  clear hne
  have rr := RR4.out
  go_wp2_with fail
  have G := Fr.row (T := T4) (H := fun c => c = t + 2) (w := w5) (B := Z + 1) TG4.out #[.int .i64 0, .int .i64 c.i, .int .i64 N, zR]
  have ST := Lib.hid (S4.out.fr G (by omega) (by omega) (by omega))
  have FF := Lib.hid (F4.out.up (b := Z + 1) (by have := HZ.out; omega) #[.int .i64 0, .int .i64 c.i, .int .i64 N, zR])
  have RF := Lib.hid (zD rr #[.int .i64 0, .int .i64 c.i, .int .i64 N, zR])
  have RC5 := Lib.hid (show row (w5.setRow (Z + 1) #[.int .i64 0, .int .i64 c.i, .int .i64 N, zR]) Z = some (cmA c A a A' a') by rw [zB _ _ _ _ (by omega)]; exact RC4.out)
  clear G rr
  first | refine ⟨RdCm Z (cmA c A a A' a'), RC5.out, .inl trivial, ?_⟩ | refine ⟨RdCm Z (cmA c A a A' a'), RC5.out, ?_⟩
  show wpQuiet _ _ _ _ _ _
  refine wpQuiet_nil ?_
  go_wp2_with fail
  refine bodyPost_ret (v := repV 0 c.i N zR) (yV Tryz.results83 _ _ (Z + 1) _ _ rfl RF.out Tryz.underlying33 rfl (by kernel_rfl)) rfl ?_
  rw [HR.out, repO_c HE.out.symm, HX.out.1, HX.out.2.1, HX.out.2.2, ← HN.out]
  exact ⟨_, FF.out, ST.out, .inl ⟨none, 0, rfl, RdS.nil _ _ _ _⟩⟩
 ·go_wp2_with fail
  refine (musti_bad _ E h0 _).mono ?_
  rintro e w5 ⟨rfl, rfl⟩
  go_wp2_with fail
  rw [HR.out, repE_c (by rw [← HE.out]; exact h0), HX.out.1, HX.out.2.1, HX.out.2.2, ← HE.out]
  exact ⟨rfl, _, F4.out, S4.out, .inr ⟨h0, rfl, rfl⟩⟩
theorem rp_b123 (n m : Int) (A : Option Addr) (L k : Nat) (w : World) : (Instr.build 33 #[(1, .int .i64 n), (2, .int .i64 m), (3, .slice A L k)]).run Tryz.prog w = .ok (repV 0 n m (.slice A L k)) w := by kernel_rfl
theorem rp_b23 (m : Int) (A : Option Addr) (L k : Nat) (w : World) : (Instr.build 33 #[(2, .int .i64 m), (3, .slice A L k)]).run Tryz.prog w = .ok (repV 0 0 m (.slice A L k)) w := by kernel_rfl
theorem rp_b3 (A : Option Addr) (L k : Nat) (w : World) : (Instr.build 33 #[(3, .slice A L k)]).run Tryz.prog w = .ok (repV 0 0 0 (.slice A L k)) w := by kernel_rfl
theorem pex7 (T : Mk) (t B tc : Nat) (x : Sx) (c : Cm) (A A' : Option Addr) (a a' : Nat) (w : World) (h : ExIn T w t B tc x c A a A' a') (hk : c.k = 7) :
  Calls Tryz.prog 83 #[.pointer (some ⟨B, 0, none⟩), cmV c A a A' a'] w (OutR t B ⟨exD x c, exC x c, exK x c, x.l, x.g⟩ (exR x c) T w) := by
 have HR := Lib.hid (show exR x c = rpO (ecE x.K c.i c.T c.U) ⟨0, c.i, enV x.K c.i c.T c.U, enL x.K c.i c.T c.U, enF x.K c.i c.f c.T c.h c.U⟩ from (by unfold exR; rw [if_neg (by omega), if_neg (by omega), if_neg (by omega), if_neg (by omega), if_pos hk]))
 have HX := Lib.hid (show exD x c = x.d ∧ exC x c = x.n ∧ exK x c = enK x.K c.i c.T c.U from ⟨(by unfold exD; rw [if_neg (by omega), if_neg (by omega)]), (by unfold exC; rw [if_neg (by omega), if_neg (by omega)]), (by unfold exK; rw [if_neg (by omega), if_neg (by omega), if_neg (by omega), if_neg (by omega), if_pos hk])⟩)
 obtain ⟨Z, hZ⟩ : ∃ Z, Z = w.heap.size := ⟨_, rfl⟩
 obtain ⟨w1, hw1⟩ : ∃ w1, w1 = (w.alloc (.cells (cmA c A a A' a') 36)).alloc (.cells #[.int .i64 0, .int .i64 0, .int .i64 0, zR] 33) := ⟨_, rfl⟩
 have bw : Below w.heap.size w w1 := by rw [hw1]; exact ((Below.refl _ _).alloc (Nat.le_refl _) _).alloc (by simp) _
 have rc : row w1 Z = some (cmA c A a A' a') := by rw [hw1, hZ]; exact zI (zA _ _ _ _ rfl) _
 have rr : row w1 (Z + 1) = some #[.int .i64 0, .int .i64 0, .int .i64 0, zR] := by rw [hw1, hZ]; exact zA _ _ _ _ (by simp)
 have hz1 : w1.heap.size = Z + 2 := by rw [hw1, hZ]; simp
 have X1 := Lib.hid (h.below bw)
 have F1 := Lib.hid (show Fr T (zH T w.heap.size (t + 2)) (H2 t) w w1 from Fr.new bw _)
 have TG := Lib.hid (show zH T w.heap.size (t + 2) Z = t + 2 ∧ zH T w.heap.size (t + 2) (Z + 1) = t + 2 from ⟨zN (by omega), zN (by omega)⟩)
 obtain ⟨T1, hT1⟩ : ∃ T1, T1 = zH T w.heap.size (t + 2) := ⟨_, rfl⟩
 rw [← hT1] at X1 F1 TG
 have HZ := Lib.hid hZ
 have RC := Lib.hid rc
 have RR := Lib.hid rr
 have ht := h.t0
 have HK := Lib.hid hk
 have bd1 := rp_b123
 clear h bw rc rr hT1 hZ hk
 go_enter Tryz.func83, Tryz.ntmps83
 go_upto_region 1 with fail
 rw [← hw1, ← HZ.out]
 clear hw1
 obtain ⟨a0, a1, a2, a3, a4, a5, a6⟩ := zX RC.out
 rw [HK.out] at a0
 go_upto_region 11 with fail
 refine yB [([0, 1, 2, 3, 4, 5, 6, 7, 8], 9, true)] [10, 11, 12, 13, 14, 15, 16] (RdCm Z (cmA c A a A' a')) (by kernel_rfl) (by kernel_rfl) (fun _ _ _ _ _ h => h) (by show row _ _ = _; rw [zQ]; exact RC.out) ?_
 clear a0 a1 a2 a3 a4 a5 a6
 have b2 := zL (Below.refl w1.heap.size w1) 1
 have X2 := X1.out.below b2
 have F2 := F1.out.trans (Fr.new (T := T1) (H := H2 t) b2 (t + 2))
 have RR2 := Lib.hid (zC b2 RR.out)
 have RC2 := Lib.hid (zC b2 RC.out)
 have TG2 := Lib.hid (show zH T1 w1.heap.size (t + 2) Z = t + 2 ∧ zH T1 w1.heap.size (t + 2) (Z + 1) = t + 2 by rw [zJ (by omega), zJ (by omega)]; exact TG.out)
 have hz2 : (w1.drewN 1).heap.size = Z + 2 := hz1
 obtain ⟨T2, hT2⟩ : ∃ T2, T2 = zH T1 w1.heap.size (t + 2) := ⟨_, rfl⟩
 obtain ⟨w2, hw2⟩ : ∃ w2, w2 = w1.drewN 1 := ⟨_, rfl⟩
 rw [← hT2, ← hw2] at X2 F2
 rw [← hw2] at RR2 RC2 hz2 ⊢
 rw [← hT2] at TG2
 replace X2 := Lib.hid X2
 replace F2 := Lib.hid F2
 clear hT2 hw2 b2 X1 F1 RR TG RC hz1
 have hne : Nonempty (In (RdCm Z (cmA c A a A' a'))) := ⟨⟨w2, RC2.out⟩⟩
 have Q0 : ∀ y : In (RdCm Z (cmA c A a A' a')), row y.val Z = some (cmA c A a A' a') := fun y => y.ok
 have Q3 : ∀ y : In (RdCm Z (cmA c A a A' a')), y.val.cell? ⟨Z, 3, none⟩ = some (.int .i64 c.i) := fun y => (zX y.ok).2.2.2.1
 have Q4 : ∀ y : In (RdCm Z (cmA c A a A' a')), y.val.cell? ⟨Z, 4, none⟩ = some (.int .i64 c.n) := fun y => (zX y.ok).2.2.2.2.1
 have Q5 : ∀ y : In (RdCm Z (cmA c A a A' a')), y.val.cell? ⟨Z, 5, none⟩ = some (.slice A c.T a) := fun y => (zX y.ok).2.2.2.2.2.1
 have Q6 : ∀ y : In (RdCm Z (cmA c A a A' a')), y.val.cell? ⟨Z, 6, none⟩ = some (.slice A' c.U a') := fun y => (zX y.ok).2.2.2.2.2.2
 simp only [wpFl, pk, List.getElem?_cons_zero, List.getElem?_cons_succ]
 refine yR ?_
 repeat (go_big_quiet_step (fail))
 refine wpQuiet_nil ?_
 clear Q0 Q3 Q4 Q5 Q6 hne
 obtain ⟨R, hk2, hput⟩ := X2.out.st.keys
 have PT := Lib.hid hput
 have H4 := Lib.hid (pen_any B x.K c.i c.f c.T a A c.h c.U a' A' w2 hk2 X2.out.cm.d.sl (X2.out.cm.d.offB X2.out.tB) X2.out.cm.b.sl (X2.out.cm.b.offB X2.out.tB))
 have hBZ : B ≠ Z ∧ B ≠ Z + 1 := by
  have h1 := X2.out.st.tg
  have h2 := TG2.out
  exact ⟨fun e => by rw [e] at h1; omega, fun e => by rw [e] at h1; omega⟩
 clear hk2 hput
 go_wp2_with fail
 refine H4.out.mono ?_
 rintro e w4 ⟨v, rfl, ho4, hk4, hc4⟩
 obtain ⟨A4, k4, rfl, -, -, -⟩ := ho4.sl
 have D4 := Lib.hid (ho4.rdS T2 0)
 have hst4 := PT.out ht w4 (enK x.K c.i c.T c.U) hk4 hc4 0
 have hf4 := hc4.fr (T := T2) (H := H2 t) (by rw [X2.out.st.tg]; exact .inl rfl) 0
 have F4 := Lib.hid (F2.out.trans hf4)
 have S4 := Lib.hid hst4
 have RR4 := Lib.hid (hc4.row RR2.out (fun e => hBZ.2 e.symm))
 have RC4 := Lib.hid (hc4.row RC2.out (fun e => hBZ.1 e.symm))
 have TG4 := Lib.hid (show zH T2 w2.heap.size 0 (Z + 1) = t + 2 by rw [zJ (by omega)]; exact TG2.out.2)
 have hz4 := hc4.size
 obtain ⟨T4, hT4⟩ : ∃ T4, T4 = zH T2 w2.heap.size 0 := ⟨_, rfl⟩
 rw [← hT4] at F4 S4 TG4 D4
 clear hst4 hf4 hk4 hc4 hT4 H4 PT X2 F2 RR2 RC2 TG2 hBZ ho4
 obtain ⟨E, hE⟩ : ∃ E, E = ecE x.K c.i c.T c.U := ⟨_, rfl⟩
 obtain ⟨V, hV⟩ : ∃ V, V = enV x.K c.i c.T c.U := ⟨_, rfl⟩
 obtain ⟨L, hL⟩ : ∃ L, L = enL x.K c.i c.T c.U := ⟨_, rfl⟩
 rw [← hL] at D4
 rw [← hE, ← hV, ← hL]
 have HE := Lib.hid hE
 have HV := Lib.hid hV
 have HL := Lib.hid hL
 clear hE hV hL
 go_wp2_with fail
 first | refine ⟨RdCm Z (cmA c A a A' a'), RC4.out, .inr ⟨RC4.out, fun _ h => h⟩, ?_⟩ | refine ⟨RdCm Z (cmA c A a A' a'), RC4.out, ?_⟩
 show wpQuiet _ _ _ _ _ _
 have hne : Nonempty (In (RdCm Z (cmA c A a A' a'))) := ⟨⟨w4, RC4.out⟩⟩
 refine yR ?_
 repeat (go_big_quiet_step (fail))
 refine wpQuiet_nil ?_
 clear hne
 by_cases h0 : E = 0
 ·subst h0
  go_wp2_with fail
  refine (xB _).mono ?_
  rintro e w5 ⟨rfl, rfl⟩
  obtain ⟨a0, a1, a2, a3, a4, a5, a6⟩ := zX RC4.out
  have rr := RR4.out
  have G := Fr.row (T := T4) (H := fun c => c = t + 2) (w := w5) (B := Z + 1) TG4.out #[.int .i64 0, .int .i64 c.i, .int .i64 V, .slice A4 L k4]
  have ST := Lib.hid (S4.out.fr G (by omega) (by omega) (by omega))
  have DD := Lib.hid (D4.out.fr G (by omega))
  have FF := Lib.hid (F4.out.up (b := Z + 1) (by have := HZ.out; omega) #[.int .i64 0, .int .i64 c.i, .int .i64 V, .slice A4 L k4])
  have RF := Lib.hid (zD rr #[.int .i64 0, .int .i64 c.i, .int .i64 V, .slice A4 L k4])
  clear G
  go_wp2_with fail
  refine bodyPost_ret (v := repV 0 c.i V (.slice A4 L k4)) (yV Tryz.results83 _ _ (Z + 1) _ _ rfl RF.out Tryz.underlying33 rfl (by kernel_rfl)) rfl ?_
  rw [HR.out, repO_c HE.out.symm, HX.out.1, HX.out.2.1, HX.out.2.2, ← HV.out, ← HL.out]
  exact ⟨_, FF.out, ST.out, .inl ⟨A4, k4, rfl, DD.out⟩⟩
 ·go_wp2_with fail
  refine (yW E h0 _).mono ?_
  rintro e w5 ⟨rfl, rfl⟩
  go_wp2_with fail
  rw [HR.out, repE_c (by rw [← HE.out]; exact h0), HX.out.1, HX.out.2.1, HX.out.2.2, ← HE.out]
  exact ⟨rfl, _, F4.out, S4.out, .inr ⟨h0, rfl, rfl⟩⟩
theorem pex9 (T : Mk) (t B tc : Nat) (x : Sx) (c : Cm) (A A' : Option Addr) (a a' : Nat) (w : World) (h : ExIn T w t B tc x c A a A' a') (hk : c.k = 9) :
  Calls Tryz.prog 83 #[.pointer (some ⟨B, 0, none⟩), cmV c A a A' a'] w (OutR t B ⟨exD x c, exC x c, exK x c, x.l, x.g⟩ (exR x c) T w) := by
 have HR := Lib.hid (show exR x c = rpO (rwE x.K c.T c.f c.h c.U) ⟨0, 0, rwV x.K c.T c.f c.h c.U, rwL x.K c.T c.f c.h c.U, rwF x.K c.T c.f c.h c.U⟩ from (by unfold exR; rw [if_neg (by omega), if_neg (by omega), if_neg (by omega), if_neg (by omega), if_neg (by omega), if_neg (by omega), if_pos hk]))
 have HX := Lib.hid (show exD x c = x.d ∧ exC x c = x.n ∧ exK x c = rwK x.K c.T c.f c.h c.U from ⟨(by unfold exD; rw [if_neg (by omega), if_neg (by omega)]), (by unfold exC; rw [if_neg (by omega), if_neg (by omega)]), (by unfold exK; rw [if_neg (by omega), if_neg (by omega), if_neg (by omega), if_neg (by omega), if_neg (by omega), if_pos hk])⟩)
 obtain ⟨Z, hZ⟩ : ∃ Z, Z = w.heap.size := ⟨_, rfl⟩
 obtain ⟨w1, hw1⟩ : ∃ w1, w1 = (w.alloc (.cells (cmA c A a A' a') 36)).alloc (.cells #[.int .i64 0, .int .i64 0, .int .i64 0, zR] 33) := ⟨_, rfl⟩
 have bw : Below w.heap.size w w1 := by rw [hw1]; exact ((Below.refl _ _).alloc (Nat.le_refl _) _).alloc (by simp) _
 have rc : row w1 Z = some (cmA c A a A' a') := by rw [hw1, hZ]; exact zI (zA _ _ _ _ rfl) _
 have rr : row w1 (Z + 1) = some #[.int .i64 0, .int .i64 0, .int .i64 0, zR] := by rw [hw1, hZ]; exact zA _ _ _ _ (by simp)
 have hz1 : w1.heap.size = Z + 2 := by rw [hw1, hZ]; simp
 have X1 := Lib.hid (h.below bw)
 have F1 := Lib.hid (show Fr T (zH T w.heap.size (t + 2)) (H2 t) w w1 from Fr.new bw _)
 have TG := Lib.hid (show zH T w.heap.size (t + 2) Z = t + 2 ∧ zH T w.heap.size (t + 2) (Z + 1) = t + 2 from ⟨zN (by omega), zN (by omega)⟩)
 obtain ⟨T1, hT1⟩ : ∃ T1, T1 = zH T w.heap.size (t + 2) := ⟨_, rfl⟩
 rw [← hT1] at X1 F1 TG
 have HZ := Lib.hid hZ
 have RC := Lib.hid rc
 have RR := Lib.hid rr
 have ht := h.t0
 have HK := Lib.hid hk
 have bd1 := rp_b23
 clear h bw rc rr hT1 hZ hk
 go_enter Tryz.func83, Tryz.ntmps83
 go_upto_region 1 with fail
 rw [← hw1, ← HZ.out]
 clear hw1
 obtain ⟨a0, a1, a2, a3, a4, a5, a6⟩ := zX RC.out
 rw [HK.out] at a0
 go_upto_region 17 with fail
 refine yB [([0, 1, 2, 3, 4, 5, 6], 7, true)] [8, 9, 10, 11, 12, 13, 14] (RdCm Z (cmA c A a A' a')) (by kernel_rfl) (by kernel_rfl) (fun _ _ _ _ _ h => h) (by show row _ _ = _; rw [zQ]; exact RC.out) ?_
 clear a0 a1 a2 a3 a4 a5 a6
 have b2 := zL (Below.refl w1.heap.size w1) 1
 have X2 := X1.out.below b2
 have F2 := F1.out.trans (Fr.new (T := T1) (H := H2 t) b2 (t + 2))
 have RR2 := Lib.hid (zC b2 RR.out)
 have RC2 := Lib.hid (zC b2 RC.out)
 have TG2 := Lib.hid (show zH T1 w1.heap.size (t + 2) Z = t + 2 ∧ zH T1 w1.heap.size (t + 2) (Z + 1) = t + 2 by rw [zJ (by omega), zJ (by omega)]; exact TG.out)
 have hz2 : (w1.drewN 1).heap.size = Z + 2 := hz1
 obtain ⟨T2, hT2⟩ : ∃ T2, T2 = zH T1 w1.heap.size (t + 2) := ⟨_, rfl⟩
 obtain ⟨w2, hw2⟩ : ∃ w2, w2 = w1.drewN 1 := ⟨_, rfl⟩
 rw [← hT2, ← hw2] at X2 F2
 rw [← hw2] at RR2 RC2 hz2 ⊢
 rw [← hT2] at TG2
 replace X2 := Lib.hid X2
 replace F2 := Lib.hid F2
 clear hT2 hw2 b2 X1 F1 RR TG RC hz1
 have hne : Nonempty (In (RdCm Z (cmA c A a A' a'))) := ⟨⟨w2, RC2.out⟩⟩
 have Q0 : ∀ y : In (RdCm Z (cmA c A a A' a')), row y.val Z = some (cmA c A a A' a') := fun y => y.ok
 have Q3 : ∀ y : In (RdCm Z (cmA c A a A' a')), y.val.cell? ⟨Z, 3, none⟩ = some (.int .i64 c.i) := fun y => (zX y.ok).2.2.2.1
 have Q4 : ∀ y : In (RdCm Z (cmA c A a A' a')), y.val.cell? ⟨Z, 4, none⟩ = some (.int .i64 c.n) := fun y => (zX y.ok).2.2.2.2.1
 have Q5 : ∀ y : In (RdCm Z (cmA c A a A' a')), y.val.cell? ⟨Z, 5, none⟩ = some (.slice A c.T a) := fun y => (zX y.ok).2.2.2.2.2.1
 have Q6 : ∀ y : In (RdCm Z (cmA c A a A' a')), y.val.cell? ⟨Z, 6, none⟩ = some (.slice A' c.U a') := fun y => (zX y.ok).2.2.2.2.2.2
 simp only [wpFl, pk, List.getElem?_cons_zero, List.getElem?_cons_succ]
 refine yR ?_
 repeat (go_big_quiet_step (fail))
 refine wpQuiet_nil ?_
 clear Q0 Q3 Q4 Q5 Q6 hne
 obtain ⟨R, hk2, hput⟩ := X2.out.st.keys
 have PT := Lib.hid hput
 have H4 := Lib.hid (prw_any B x.K c.f c.T a A c.h c.U a' A' w2 hk2 X2.out.cm.d.sl (by have := chk_ok X2.out.chk; omega) X2.out.cm.b.sl (X2.out.cm.b.offB X2.out.tB))
 have hBZ : B ≠ Z ∧ B ≠ Z + 1 := by
  have h1 := X2.out.st.tg
  have h2 := TG2.out
  exact ⟨fun e => by rw [e] at h1; omega, fun e => by rw [e] at h1; omega⟩
 clear hk2 hput
 go_wp2_with fail
 refine H4.out.mono ?_
 rintro e w4 ⟨v, rfl, ho4, hk4, hc4⟩
 obtain ⟨A4, k4, rfl, -, -, -⟩ := ho4.sl
 have D4 := Lib.hid (ho4.rdS T2 0)
 have hst4 := PT.out ht w4 (rwK x.K c.T c.f c.h c.U) hk4 hc4 0
 have hf4 := hc4.fr (T := T2) (H := H2 t) (by rw [X2.out.st.tg]; exact .inl rfl) 0
 have F4 := Lib.hid (F2.out.trans hf4)
 have S4 := Lib.hid hst4
 have RR4 := Lib.hid (hc4.row RR2.out (fun e => hBZ.2 e.symm))
 have RC4 := Lib.hid (hc4.row RC2.out (fun e => hBZ.1 e.symm))
 have TG4 := Lib.hid (show zH T2 w2.heap.size 0 (Z + 1) = t + 2 by rw [zJ (by omega)]; exact TG2.out.2)
 have hz4 := hc4.size
 obtain ⟨T4, hT4⟩ : ∃ T4, T4 = zH T2 w2.heap.size 0 := ⟨_, rfl⟩
 rw [← hT4] at F4 S4 TG4 D4
 clear hst4 hf4 hk4 hc4 hT4 H4 PT X2 F2 RR2 RC2 TG2 hBZ ho4
 obtain ⟨E, hE⟩ : ∃ E, E = rwE x.K c.T c.f c.h c.U := ⟨_, rfl⟩
 obtain ⟨V, hV⟩ : ∃ V, V = rwV x.K c.T c.f c.h c.U := ⟨_, rfl⟩
 obtain ⟨L, hL⟩ : ∃ L, L = rwL x.K c.T c.f c.h c.U := ⟨_, rfl⟩
 rw [← hL] at D4
 rw [← hE, ← hV, ← hL]
 have HE := Lib.hid hE
 have HV := Lib.hid hV
 have HL := Lib.hid hL
 clear hE hV hL
 go_wp2_with fail
 first | refine ⟨RdCm Z (cmA c A a A' a'), RC4.out, .inr ⟨RC4.out, fun _ h => h⟩, ?_⟩ | refine ⟨RdCm Z (cmA c A a A' a'), RC4.out, ?_⟩
 show wpQuiet _ _ _ _ _ _
 have hne : Nonempty (In (RdCm Z (cmA c A a A' a'))) := ⟨⟨w4, RC4.out⟩⟩
 refine yR ?_
 repeat (go_big_quiet_step (fail))
 refine wpQuiet_nil ?_
 clear hne
 by_cases h0 : E = 0
 ·subst h0
  go_wp2_with fail
  refine (xB _).mono ?_
  rintro e w5 ⟨rfl, rfl⟩
  obtain ⟨a0, a1, a2, a3, a4, a5, a6⟩ := zX RC4.out
  have rr := RR4.out
  have G := Fr.row (T := T4) (H := fun c => c = t + 2) (w := w5) (B := Z + 1) TG4.out #[.int .i64 0, .int .i64 0, .int .i64 V, .slice A4 L k4]
  have ST := Lib.hid (S4.out.fr G (by omega) (by omega) (by omega))
  have DD := Lib.hid (D4.out.fr G (by omega))
  have FF := Lib.hid (F4.out.up (b := Z + 1) (by have := HZ.out; omega) #[.int .i64 0, .int .i64 0, .int .i64 V, .slice A4 L k4])
  have RF := Lib.hid (zD rr #[.int .i64 0, .int .i64 0, .int .i64 V, .slice A4 L k4])
  clear G
  go_wp2_with fail
  refine bodyPost_ret (v := repV 0 0 V (.slice A4 L k4)) (yV Tryz.results83 _ _ (Z + 1) _ _ rfl RF.out Tryz.underlying33 rfl (by kernel_rfl)) rfl ?_
  rw [HR.out, repO_c HE.out.symm, HX.out.1, HX.out.2.1, HX.out.2.2, ← HV.out, ← HL.out]
  exact ⟨_, FF.out, ST.out, .inl ⟨A4, k4, rfl, DD.out⟩⟩
 ·go_wp2_with fail
  refine (yW E h0 _).mono ?_
  rintro e w5 ⟨rfl, rfl⟩
  go_wp2_with fail
  rw [HR.out, repE_c (by rw [← HE.out]; exact h0), HX.out.1, HX.out.2.1, HX.out.2.2, ← HE.out]
  exact ⟨rfl, _, F4.out, S4.out, .inr ⟨h0, rfl, rfl⟩⟩
theorem pex8 (T : Mk) (t B tc : Nat) (x : Sx) (c : Cm) (A A' : Option Addr) (a a' : Nat) (w : World) (h : ExIn T w t B tc x c A a A' a') (hk : c.k = 8) :
  Calls Tryz.prog 83 #[.pointer (some ⟨B, 0, none⟩), cmV c A a A' a'] w (OutR t B ⟨exD x c, exC x c, exK x c, x.l, x.g⟩ (exR x c) T w) := by
 have HR := Lib.hid (show exR x c = rpO (dcE x.K c.T c.f c.h c.U) ⟨0, 0, 0, dcL x.K c.T c.f c.h c.U, dcF x.K c.T c.f⟩ from (by unfold exR; rw [if_neg (by omega), if_neg (by omega), if_neg (by omega), if_neg (by omega), if_neg (by omega), if_pos hk]))
 have HX := Lib.hid (show exD x c = x.d ∧ exC x c = x.n ∧ exK x c = x.K from ⟨(by unfold exD; rw [if_neg (by omega), if_neg (by omega)]), (by unfold exC; rw [if_neg (by omega), if_neg (by omega)]), (by unfold exK; rw [if_neg (by omega), if_neg (by omega), if_neg (by omega), if_neg (by omega), if_neg (by omega), if_neg (by omega)])⟩)
 obtain ⟨Z, hZ⟩ : ∃ Z, Z = w.heap.size := ⟨_, rfl⟩
 obtain ⟨w1, hw1⟩ : ∃ w1, w1 = (w.alloc (.cells (cmA c A a A' a') 36)).alloc (.cells #[.int .i64 0, .int .i64 0, .int .i64 0, zR] 33) := ⟨_, rfl⟩
 have bw : Below w.heap.size w w1 := by rw [hw1]; exact ((Below.refl _ _).alloc (Nat.le_refl _) _).alloc (by simp) _
 have rc : row w1 Z = some (cmA c A a A' a') := by rw [hw1, hZ]; exact zI (zA _ _ _ _ rfl) _
 have rr : row w1 (Z + 1) = some #[.int .i64 0, .int .i64 0, .int .i64 0, zR] := by rw [hw1, hZ]; exact zA _ _ _ _ (by simp)
 have hz1 : w1.heap.size = Z + 2 := by rw [hw1, hZ]; simp
 have X1 := Lib.hid (h.below bw)
 have F1 := Lib.hid (show Fr T (zH T w.heap.size (t + 2)) (H2 t) w w1 from Fr.new bw _)
 have TG := Lib.hid (show zH T w.heap.size (t + 2) Z = t + 2 ∧ zH T w.heap.size (t + 2) (Z + 1) = t + 2 from ⟨zN (by omega), zN (by omega)⟩)
 obtain ⟨T1, hT1⟩ : ∃ T1, T1 = zH T w.heap.size (t + 2) := ⟨_, rfl⟩
 rw [← hT1] at X1 F1 TG
 have HZ := Lib.hid hZ
 have RC := Lib.hid rc
 have RR := Lib.hid rr
 have ht := h.t0
 have HK := Lib.hid hk
 have bd1 := rp_b3
 clear h bw rc rr hT1 hZ hk
 go_enter Tryz.func83, Tryz.ntmps83
 go_upto_region 1 with fail
 rw [← hw1, ← HZ.out]
 clear hw1
 obtain ⟨a0, a1, a2, a3, a4, a5, a6⟩ := zX RC.out
 rw [HK.out] at a0
 go_upto_region 15 with fail
 refine yB [([0, 1, 2, 3, 4, 5, 6], 7, false), ([8, 9], 10, false), ([11], 12, true)] [] (RdCm Z (cmA c A a A' a')) (by kernel_rfl) (by kernel_rfl) (fun _ _ _ _ _ h => h) (by show row _ _ = _; rw [zQ]; exact RC.out) ?_
 clear a0 a1 a2 a3 a4 a5 a6
 have b2 := zL (Below.refl w1.heap.size w1) 1
 have X2 := X1.out.below b2
 have F2 := F1.out.trans (Fr.new (T := T1) (H := H2 t) b2 (t + 2))
 have RR2 := Lib.hid (zC b2 RR.out)
 have RC2 := Lib.hid (zC b2 RC.out)
 have TG2 := Lib.hid (show zH T1 w1.heap.size (t + 2) Z = t + 2 ∧ zH T1 w1.heap.size (t + 2) (Z + 1) = t + 2 by rw [zJ (by omega), zJ (by omega)]; exact TG.out)
 have hz2 : (w1.drewN 1).heap.size = Z + 2 := hz1
 obtain ⟨T2, hT2⟩ : ∃ T2, T2 = zH T1 w1.heap.size (t + 2) := ⟨_, rfl⟩
 obtain ⟨w2, hw2⟩ : ∃ w2, w2 = w1.drewN 1 := ⟨_, rfl⟩
 rw [← hT2, ← hw2] at X2 F2
 rw [← hw2] at RR2 RC2 hz2 ⊢
 rw [← hT2] at TG2
 replace X2 := Lib.hid X2
 replace F2 := Lib.hid F2
 clear hT2 hw2 b2 X1 F1 RR TG RC hz1
 have hne : Nonempty (In (RdCm Z (cmA c A a A' a'))) := ⟨⟨w2, RC2.out⟩⟩
 have Q0 : ∀ y : In (RdCm Z (cmA c A a A' a')), row y.val Z = some (cmA c A a A' a') := fun y => y.ok
 have Q3 : ∀ y : In (RdCm Z (cmA c A a A' a')), y.val.cell? ⟨Z, 3, none⟩ = some (.int .i64 c.i) := fun y => (zX y.ok).2.2.2.1
 have Q4 : ∀ y : In (RdCm Z (cmA c A a A' a')), y.val.cell? ⟨Z, 4, none⟩ = some (.int .i64 c.n) := fun y => (zX y.ok).2.2.2.2.1
 have Q5 : ∀ y : In (RdCm Z (cmA c A a A' a')), y.val.cell? ⟨Z, 5, none⟩ = some (.slice A c.T a) := fun y => (zX y.ok).2.2.2.2.2.1
 have Q6 : ∀ y : In (RdCm Z (cmA c A a A' a')), y.val.cell? ⟨Z, 6, none⟩ = some (.slice A' c.U a') := fun y => (zX y.ok).2.2.2.2.2.2
 simp only [wpFl, pk, List.getElem?_cons_zero, List.getElem?_cons_succ]
 refine yR ?_
 repeat (go_big_quiet_step (fail))
 refine wpQuiet_nil ?_
 clear Q0 Q3 Q4 Q5 Q6 hne
 obtain ⟨R, hk2, -⟩ := X2.out.st.keys
 have H4 := Lib.hid (pdc_any B x.K c.f c.T a A c.h c.U a' A' w2 hk2 X2.out.cm.d.sl (by have := chk_ok X2.out.chk; omega) X2.out.cm.b.sl)
 clear hk2
 go_wp2_with fail
 refine H4.out.mono ?_
 rintro e w4 ⟨v, rfl, ho4, hb4⟩
 obtain ⟨A4, k4, rfl, -, -, -⟩ := ho4.sl
 have D4 := Lib.hid (ho4.rdS T2 0)
 have F4 := Lib.hid (F2.out.trans (Fr.new (T := T2) (H := H2 t) hb4 0))
 have S4 := Lib.hid (X2.out.st.fr (Fr.new (T := T2) (H := fun _ => False) hb4 0) (fun h => h) (fun h => h) (fun h => h))
 have RR4 := Lib.hid (zC hb4 RR2.out)
 have RC4 := Lib.hid (zC hb4 RC2.out)
 have TG4 := Lib.hid (show zH T2 w2.heap.size 0 (Z + 1) = t + 2 by rw [zJ (by omega)]; exact TG2.out.2)
 have hz4 := hb4.size
 obtain ⟨T4, hT4⟩ : ∃ T4, T4 = zH T2 w2.heap.size 0 := ⟨_, rfl⟩
 rw [← hT4] at F4 S4 TG4 D4
 clear hb4 hT4 H4 X2 F2 RR2 RC2 TG2 ho4
 obtain ⟨E, hE⟩ : ∃ E, E = dcE x.K c.T c.f c.h c.U := ⟨_, rfl⟩
 obtain ⟨L, hL⟩ : ∃ L, L = dcL x.K c.T c.f c.h c.U := ⟨_, rfl⟩
 rw [← hL] at D4
 rw [← hE, ← hL]
 have HE := Lib.hid hE
 have HL := Lib.hid hL
 clear hE hL
 go_wp2_with fail
 refine ⟨RdCm Z (cmA c A a A' a'), RC4.out, .inr ⟨RC4.out, fun _ h => h⟩, ?_⟩
 show wpQuiet _ _ _ _ _ _
 have hne : Nonempty (In (RdCm Z (cmA c A a A' a'))) := ⟨⟨w4, RC4.out⟩⟩
 refine yR ?_
 repeat (go_big_quiet_step (fail))
 refine wpQuiet_nil ?_
 clear hne
 by_cases h0 : E = 0
 ·subst h0
  go_wp2_with fail
  refine (mustb_ok _ _).mono ?_
  rintro e w5 ⟨rfl, rfl⟩
  go_wp2_with fail
  refine ⟨RdCm Z (cmA c A a A' a'), RC4.out, .inr ⟨RC4.out, fun _ h => h⟩, ?_⟩
  show wpQuiet _ _ _ _ _ _
  have hne : Nonempty (In (RdCm Z (cmA c A a A' a'))) := ⟨⟨w5, RC4.out⟩⟩
  refine yR ?_
  repeat (go_big_quiet_step (fail))
  refine wpQuiet_nil ?_
  clear hne
  have rr := RR4.out
  have G := Fr.row (T := T4) (H := fun c => c = t + 2) (w := w5) (B := Z + 1) TG4.out #[.int .i64 0, .int .i64 0, .int .i64 0, .slice A4 L k4]
  have ST := Lib.hid (S4.out.fr G (by omega) (by omega) (by omega))
  have DD := Lib.hid (D4.out.fr G (by omega))
  have FF := Lib.hid (F4.out.up (b := Z + 1) (by have := HZ.out; omega) #[.int .i64 0, .int .i64 0, .int .i64 0, .slice A4 L k4])
  have RF := Lib.hid (zD rr #[.int .i64 0, .int .i64 0, .int .i64 0, .slice A4 L k4])
  have RC5 := Lib.hid (show row (w5.setRow (Z + 1) #[.int .i64 0, .int .i64 0, .int .i64 0, .slice A4 L k4]) Z = some (cmA c A a A' a') by rw [zB _ _ _ _ (by omega)]; exact RC4.out)
  clear G
  go_wp2_with fail
  first | refine ⟨RdCm Z (cmA c A a A' a'), RC5.out, .inl trivial, ?_⟩ | refine ⟨RdCm Z (cmA c A a A' a'), RC5.out, ?_⟩
  show wpQuiet _ _ _ _ _ _
  refine wpQuiet_nil ?_
  go_wp2_with fail
  refine bodyPost_ret (v := repV 0 0 0 (.slice A4 L k4)) (yV Tryz.results83 _ _ (Z + 1) _ _ rfl RF.out Tryz.underlying33 rfl (by kernel_rfl)) rfl ?_
  rw [HR.out, repO_c HE.out.symm, HX.out.1, HX.out.2.1, HX.out.2.2, ← HL.out]
  exact ⟨_, FF.out, ST.out, .inl ⟨A4, k4, rfl, DD.out⟩⟩
 ·go_wp2_with fail
  refine (mustb_bad _ E h0 _).mono ?_
  rintro e w5 ⟨rfl, rfl⟩
  go_wp2_with fail
  rw [HR.out, repE_c (by rw [← HE.out]; exact h0), HX.out.1, HX.out.2.1, HX.out.2.2, ← HE.out]
  exact ⟨rfl, _, F4.out, S4.out, .inr ⟨h0, rfl, rfl⟩⟩
theorem pex10 (T : Mk) (t B tc : Nat) (x : Sx) (c : Cm) (A A' : Option Addr) (a a' : Nat) (w : World) (h : ExIn T w t B tc x c A a A' a') (hk : c.k = 10) :
  Calls Tryz.prog 83 #[.pointer (some ⟨B, 0, none⟩), cmV c A a A' a'] w (OutR t B ⟨exD x c, exC x c, exK x c, x.l, x.g⟩ (exR x c) T w) := by
 have HR := Lib.hid (show exR x c = rpE 0 from (by unfold exR; rw [if_neg (by omega), if_neg (by omega), if_neg (by omega), if_neg (by omega), if_neg (by omega), if_neg (by omega), if_neg (by omega)]))
 have HX := Lib.hid (show exD x c = updS x.d c.f c.T ∧ exC x c = 1 ∧ exK x c = x.K from ⟨(by unfold exD; rw [if_neg (by omega), if_pos hk]), (by unfold exC; rw [if_neg (by omega), if_pos hk]), (by unfold exK; rw [if_neg (by omega), if_neg (by omega), if_neg (by omega), if_neg (by omega), if_neg (by omega), if_neg (by omega)])⟩)
 obtain ⟨Z, hZ⟩ : ∃ Z, Z = w.heap.size := ⟨_, rfl⟩
 obtain ⟨w1, hw1⟩ : ∃ w1, w1 = (w.alloc (.cells (cmA c A a A' a') 36)).alloc (.cells #[.int .i64 0, .int .i64 0, .int .i64 0, zR] 33) := ⟨_, rfl⟩
 have bw : Below w.heap.size w w1 := by rw [hw1]; exact ((Below.refl _ _).alloc (Nat.le_refl _) _).alloc (by simp) _
 have rc : row w1 Z = some (cmA c A a A' a') := by rw [hw1, hZ]; exact zI (zA _ _ _ _ rfl) _
 have rr : row w1 (Z + 1) = some #[.int .i64 0, .int .i64 0, .int .i64 0, zR] := by rw [hw1, hZ]; exact zA _ _ _ _ (by simp)
 have hz1 : w1.heap.size = Z + 2 := by rw [hw1, hZ]; simp
 have X1 := Lib.hid (h.below bw)
 have F1 := Lib.hid (show Fr T (zH T w.heap.size (t + 2)) (H2 t) w w1 from Fr.new bw _)
 have TG := Lib.hid (show zH T w.heap.size (t + 2) Z = t + 2 ∧ zH T w.heap.size (t + 2) (Z + 1) = t + 2 from ⟨zN (by omega), zN (by omega)⟩)
 obtain ⟨T1, hT1⟩ : ∃ T1, T1 = zH T w.heap.size (t + 2) := ⟨_, rfl⟩
 rw [← hT1] at X1 F1 TG
 have HZ := Lib.hid hZ
 have RC := Lib.hid rc
 have RR := Lib.hid rr
 have ht := h.t0
 have HK := Lib.hid hk
 have bd0 := rp_b0'
 clear h bw rc rr hT1 hZ hk
 go_enter Tryz.func83, Tryz.ntmps83
 go_upto_region 1 with fail
 rw [← hw1, ← HZ.out]
 clear hw1
 obtain ⟨a0, a1, a2, a3, a4, a5, a6⟩ := zX RC.out
 rw [HK.out] at a0
 go_upto_region 21 with fail
 refine yB [([0, 1, 2, 3, 4], 5, true)] [] (RdCm Z (cmA c A a A' a')) (by kernel_rfl) (by kernel_rfl) (fun _ _ _ _ _ h => h) (by show row _ _ = _; rw [zQ]; exact RC.out) ?_
 clear a0 a1 a2 a3 a4 a5 a6
 have b2 := zL (Below.refl w1.heap.size w1) 1
 have X2 := X1.out.below b2
 have F2 := F1.out.trans (Fr.new (T := T1) (H := H2 t) b2 (t + 2))
 have RR2 := Lib.hid (zC b2 RR.out)
 have RC2 := Lib.hid (zC b2 RC.out)
 have TG2 := Lib.hid (show zH T1 w1.heap.size (t + 2) Z = t + 2 ∧ zH T1 w1.heap.size (t + 2) (Z + 1) = t + 2 by rw [zJ (by omega), zJ (by omega)]; exact TG.out)
 have hz2 : (w1.drewN 1).heap.size = Z + 2 := hz1
 obtain ⟨T2, hT2⟩ : ∃ T2, T2 = zH T1 w1.heap.size (t + 2) := ⟨_, rfl⟩
 obtain ⟨w2, hw2⟩ : ∃ w2, w2 = w1.drewN 1 := ⟨_, rfl⟩
 rw [← hT2, ← hw2] at X2 F2
 rw [← hw2] at RR2 RC2 hz2 ⊢
 rw [← hT2] at TG2
 replace X2 := Lib.hid X2
 replace F2 := Lib.hid F2
 clear hT2 hw2 b2 X1 F1 RR TG RC hz1
 have hne : Nonempty (In (RdCm Z (cmA c A a A' a'))) := ⟨⟨w2, RC2.out⟩⟩
 have Q0 : ∀ y : In (RdCm Z (cmA c A a A' a')), row y.val Z = some (cmA c A a A' a') := fun y => y.ok
 have Q3 : ∀ y : In (RdCm Z (cmA c A a A' a')), y.val.cell? ⟨Z, 3, none⟩ = some (.int .i64 c.i) := fun y => (zX y.ok).2.2.2.1
 have Q4 : ∀ y : In (RdCm Z (cmA c A a A' a')), y.val.cell? ⟨Z, 4, none⟩ = some (.int .i64 c.n) := fun y => (zX y.ok).2.2.2.2.1
 have Q5 : ∀ y : In (RdCm Z (cmA c A a A' a')), y.val.cell? ⟨Z, 5, none⟩ = some (.slice A c.T a) := fun y => (zX y.ok).2.2.2.2.2.1
 have Q6 : ∀ y : In (RdCm Z (cmA c A a A' a')), y.val.cell? ⟨Z, 6, none⟩ = some (.slice A' c.U a') := fun y => (zX y.ok).2.2.2.2.2.2
 simp only [wpFl, pk, List.getElem?_cons_zero, List.getElem?_cons_succ]
 refine yR ?_
 repeat (go_big_quiet_step (fail))
 refine wpQuiet_nil ?_
 clear Q0 Q3 Q4 Q5 Q6 hne
 obtain ⟨R, hr2, hput⟩ := X2.out.st.src
 have PT := Lib.hid hput
 have H4 := Lib.hid (dreseed_any x.d x.n B c.f c.T a A w2 X2.out.tab hr2 X2.out.B0 X2.out.cm.d.sl (by have := chk_ok X2.out.chk; omega) (X2.out.cm.d.offB X2.out.tB))
 have hBZ : B ≠ Z ∧ B ≠ Z + 1 := by
  have h1 := X2.out.st.tg
  have h2 := TG2.out
  exact ⟨fun e => by rw [e] at h1; omega, fun e => by rw [e] at h1; omega⟩
 clear hr2 hput
 go_wp2_with fail
 refine H4.out.mono ?_
 rintro e w4 ⟨rfl, hp4⟩
 have hst4 := PT.out ht w4 (updS x.d c.f c.T) 1 hp4 (Int.le_refl 1) (t + 2)
 have hf4 : Fr T2 (zH T2 w2.heap.size (t + 2)) (H2 t) w2 w4 := by
  have hb : Below w2.heap.size (w2.setRow B (srcC R (updS x.d c.f c.T).1 (updS x.d c.f c.T).2 1)) w4 := hp4
  exact ⟨hb.1, hb.2, hb.3, hp4.size, fun k hk hn => hp4.block k hk (fun e => hn (by rw [e, X2.out.st.tg]; exact .inl rfl)), fun k hk => zJ hk⟩
 have F4 := Lib.hid (F2.out.trans hf4)
 have S4 := Lib.hid hst4
 have RR4 := Lib.hid (hp4.other (fun e => hBZ.2 e.symm) RR2.out)
 have RC4 := Lib.hid (hp4.other (fun e => hBZ.1 e.symm) RC2.out)
 have TG4 := Lib.hid (show zH T2 w2.heap.size (t + 2) (Z + 1) = t + 2 by rw [zJ (by omega)]; exact TG2.out.2)
 have hz4 := hp4.size
 obtain ⟨T4, hT4⟩ : ∃ T4, T4 = zH T2 w2.heap.size (t + 2) := ⟨_, rfl⟩
 rw [← hT4] at F4 S4 TG4
 clear hst4 hf4 hp4 hT4 H4 PT X2 F2 RR2 RC2 TG2 hBZ
 go_wp2_with fail
 first | refine ⟨RdCm Z (cmA c A a A' a'), RC4.out, .inl trivial, ?_⟩ | refine ⟨RdCm Z (cmA c A a A' a'), RC4.out, .inr ⟨RC4.out, fun _ h => h⟩, ?_⟩ | refine ⟨RdCm Z (cmA c A a A' a'), RC4.out, ?_⟩
 show wpQuiet _ _ _ _ _ _
 refine wpQuiet_nil ?_
 have rr := RR4.out
 have G := Fr.row (T := T4) (H := fun c => c = t + 2) (w := w4) (B := Z + 1) TG4.out #[.int .i64 0, .int .i64 0, .int .i64 0, zR]
 have ST := Lib.hid (S4.out.fr G (by omega) (by omega) (by omega))
 have FF := Lib.hid (F4.out.up (b := Z + 1) (by have := HZ.out; omega) #[.int .i64 0, .int .i64 0, .int .i64 0, zR])
 have RF := Lib.hid (zD rr #[.int .i64 0, .int .i64 0, .int .i64 0, zR])
 clear G
 go_wp2_with fail
 refine bodyPost_ret (v := repV 0 0 0 zR) (yV Tryz.results83 _ _ (Z + 1) _ _ rfl RF.out Tryz.underlying33 rfl (by kernel_rfl)) rfl ?_
 rw [HR.out, HX.out.1, HX.out.2.1, HX.out.2.2]
 exact ⟨_, FF.out, ST.out, .inl ⟨none, 0, rfl, RdS.nil _ _ _ _⟩⟩
theorem chk_kind {k s q i n : Int} {T U : Nat} (h : chkE k s q i n T U = 0) : 1 ≤ k ∧ k ≤ 10 := by
 have h' : chkB k s q i n T U = true := by
  unfold chkE at h
  cases hb : chkB k s q i n T U with
  | true => rfl
  | false => rw [hb] at h; simp at h
 have hk : kiB k = true := by
  unfold chkB at h'
  cases hb : kiB k with
  | true => rfl
  | false => rw [hb] at h'; simp at h'
 unfold kiB at hk
 simpa using hk
theorem pexec_any (T : Mk) (t B tc : Nat) (x : Sx) (c : Cm) (A A' : Option Addr) (a a' : Nat) (w : World) (h : ExIn T w t B tc x c A a A' a') (h1 : c.k ≠ 1) (h2 : c.k ≠ 2) :
  Calls Tryz.prog 83 #[.pointer (some ⟨B, 0, none⟩), cmV c A a A' a'] w (OutR t B ⟨exD x c, exC x c, exK x c, x.l, x.g⟩ (exR x c) T w) := by
 have hk := chk_kind h.chk
 rcases (by omega : c.k = 3 ∨ c.k = 4 ∨ c.k = 5 ∨ c.k = 6 ∨ c.k = 7 ∨ c.k = 8 ∨ c.k = 9 ∨ c.k = 10) with hc | hc | hc | hc | hc | hc | hc | hc
 ·exact pex3 T t B tc x c A A' a a' w h hc
 ·exact pex4 T t B tc x c A A' a a' w h hc
 ·exact pex5 T t B tc x c A A' a a' w h hc
 ·exact pex6 T t B tc x c A A' a a' w h hc
 ·exact pex7 T t B tc x c A A' a a' w h hc
 ·exact pex8 T t B tc x c A A' a a' w h hc
 ·exact pex9 T t B tc x c A A' a a' w h hc
 ·exact pex10 T t B tc x c A A' a a' w h hc
theorem prq1_any (T : Mk) (t B tc : Nat) (x : Sx) (c : Cm) (A A' : Option Addr) (a a' : Nat) (Zs Zc : Nat) (w : World) (h : ExIn T w t B tc x c A a A' a') (h1 : c.k ≠ 1) (h2 : c.k ≠ 2)
  (hs : row w Zs = some #[.pointer (some ⟨B, 0, none⟩)]) (hc : row w Zc = some (cmA c A a A' a')) :
  Calls Tryz.prog 82 #[.pointer (some ⟨Zs, 0, none⟩), .pointer (some ⟨Zc, 0, none⟩)] w (OutR t B ⟨exD x c, exC x c, exK x c, x.l, x.g⟩ (exR x c) T w) := by
 obtain ⟨w1, hw1⟩ : ∃ w1, w1 = w.alloc (.cells #[.int .i64 0, .int .i64 0, .int .i64 0, zR] 33) := ⟨_, rfl⟩
 have bw : Below w.heap.size w w1 := by rw [hw1]; exact (Below.refl _ _).alloc (Nat.le_refl _) _
 have r0 : row w1 w.heap.size = some #[.int .i64 0, .int .i64 0, .int .i64 0, zR] := by rw [hw1]; exact zA _ _ _ _ rfl
 have hz1 : w1.heap.size = w.heap.size + 1 := by rw [hw1]; simp
 have F1 := Lib.hid (show Fr T (zH T w.heap.size (t + 2)) (H2 t) w w1 from Fr.new bw _)
 have TG := Lib.hid (show zH T w.heap.size (t + 2) w.heap.size = t + 2 from zN (Nat.le_refl _))
 have H := Lib.hid (pexec_any (zH T w.heap.size (t + 2)) t B tc x c A A' a a' w1 (h.below bw) h1 h2)
 have ht := h.t0
 have rs := zF (zC bw hs) 0
 have rs : w1.cell? ⟨Zs, 0, none⟩ = some (.pointer (some ⟨B, 0, none⟩)) := rs
 have rc := zC bw hc
 obtain ⟨T1, hT1⟩ : ∃ T1, T1 = zH T w.heap.size (t + 2) := ⟨_, rfl⟩
 rw [← hT1] at H F1 TG
 have R0 := Lib.hid r0
 clear h bw r0 hT1 hs hc h1 h2
 go_enter Tryz.func82, Tryz.ntmps82
 go_upto_region 1 with fail
 rw [← hw1]
 clear hw1
 go_wp2_with fail
 refine H.out.mono ?_
 rintro e w2 ⟨T2, hf, hst, ⟨A5, k5, rfl, hrd⟩ | ⟨hne, hrp, rfl⟩⟩
 ·have q0 := hf.rowAt R0.out (by rw [TG.out]; exact xI)
  have t0 : T2 w.heap.size = t + 2 := by rw [hf.tag _ (by omega)]; exact TG.out
  obtain ⟨C, hC⟩ : ∃ C : Array Value, C = #[.int .i64 (exR x c).c, .int .i64 (exR x c).n, .int .i64 (exR x c).m, .slice A5 (exR x c).T k5] := ⟨_, rfl⟩
  have G := Fr.row (T := T2) (H := fun c => c = t + 2) (w := w2) (B := w.heap.size) t0 C
  have HST := Lib.hid (hst.fr G (by omega) (by omega) (by omega))
  have HRD := Lib.hid (hrd.fr G (by omega))
  have FF := Lib.hid ((F1.out.trans hf).up (Nat.le_refl _) C)
  have P0 := Lib.hid (zD q0 C)
  rw [hC] at HST HRD FF P0
  clear hf hst hrd H G hC rs rc
  obtain ⟨r, hr⟩ : ∃ r, r = exR x c := ⟨_, rfl⟩
  rw [← hr] at HST HRD FF P0 ⊢
  have HRR := Lib.hid hr
  clear hr
  go_wp2_with fail
  refine bodyPost_ret (v := rpV r A5 k5) (yV Tryz.results82 _ _ w.heap.size _ _ rfl P0.out Tryz.underlying33 rfl (by kernel_rfl)) rfl ?_
  rw [← HRR.out]
  exact ⟨_, FF.out, HST.out, .inl ⟨A5, k5, rfl, HRD.out⟩⟩
 ·have HN := Lib.hid (And.intro hne hrp)
  have HF := Lib.hid (F1.out.trans hf)
  have HS := Lib.hid hst
  clear hne hrp hf hst
  go_wp2_with fail
  exact ⟨rfl, _, HF.out, HS.out, .inr ⟨HN.out.1, HN.out.2, rfl⟩⟩
theorem chk_s {k s q i n : Int} {T U : Nat} (h : chkE k s q i n T U = 0) : s ≤ 1099511627776 ∧ i ≤ 1099511627776 := by
 have h' : chkB k s q i n T U = true := by unfold chkE at h; cases hb : chkB k s q i n T U with
  | true => rfl
  | false => rw [hb] at h; simp at h
 have hk := chk_kind h
 have hcase : k = 1 ∨ k = 2 ∨ k = 3 ∨ k = 4 ∨ k = 5 ∨ k = 6 ∨ k = 7 ∨ k = 8 ∨ k = 9 ∨ k = 10 := by omega
 clear h hk
 rcases hcase with rfl | rfl | rfl | rfl | rfl | rfl | rfl | rfl | rfl | rfl
 all_goals
  simp [chkB, kiB, fitB, inB, sh, shN] at h'
  omega
def Bel (w y : World) : Prop := Below w.heap.size w y
theorem Bel.alloc {w : World} : ∀ (y : World) (z : Obj), Bel w y → Bel w (y.alloc z) := fun y z h => Below.alloc h (Below.size h) z
theorem rp_z (w : World) : (zeroValue 33).run Tryz.prog w = .ok (repV 0 0 0 zR) w := Tryz.zeroValue33 w
def rqX (x : Sx) (c : Cm) : Sx := if akE x.l c.s c.q ≠ 0 then x else if akB x.l c.s c.q = true then x else ⟨exD x c, exC x c, exK x c, dnL x.l (exS x c), x.g⟩
def rqR (x : Sx) (c : Cm) : Rp := if akE x.l c.s c.q ≠ 0 then rpE (akE x.l c.s c.q) else if akB x.l c.s c.q = true then seR (akS x.l c.s c.q) else exR x c
theorem preq_any (T : Mk) (t B tc : Nat) (x : Sx) (c : Cm) (A A' : Option Addr) (a a' : Nat) (w : World) (h : ExIn T w t B tc x c A a A' a') (h1 : c.k ≠ 1) (h2 : c.k ≠ 2) :
  Calls Tryz.prog 42 #[.pointer (some ⟨B, 0, none⟩), cmV c A a A' a'] w (OutR t B (rqX x c) (rqR x c) T w) := by
 obtain ⟨Z, hZ⟩ : ∃ Z, Z = w.heap.size := ⟨_, rfl⟩
 obtain ⟨w1, hw1⟩ : ∃ w1, w1 = ((w.alloc (.cells #[.pointer (some ⟨B, 0, none⟩)] 25)).alloc (.cells (cmA c A a A' a') 36)).alloc (.cells #[.int .i64 0, .int .i64 0, .int .i64 0, zR] 33) := ⟨_, rfl⟩
 have bw : Below w.heap.size w w1 := by rw [hw1]; exact (((Below.refl _ _).alloc (Nat.le_refl _) _).alloc (by simp) _).alloc (by simp; omega) _
 have rs : row w1 Z = some #[.pointer (some ⟨B, 0, none⟩)] := by rw [hw1, hZ]; exact zI (zI (zA _ _ _ _ rfl) _) _
 have rc : row w1 (Z + 1) = some (cmA c A a A' a') := by rw [hw1, hZ]; exact zI (zA _ _ _ _ (by simp)) _
 have rr : row w1 (Z + 2) = some #[.int .i64 0, .int .i64 0, .int .i64 0, zR] := by rw [hw1, hZ]; exact zA _ _ _ _ (by simp)
 have hz1 : w1.heap.size = Z + 3 := by rw [hw1, hZ]; simp
 have X1 := Lib.hid (h.below bw)
 have F1 := Lib.hid (show Fr T (zH T w.heap.size (t + 2)) (H2 t) w w1 from Fr.new bw _)
 have TG := Lib.hid (show zH T w.heap.size (t + 2) Z = t + 2 ∧ zH T w.heap.size (t + 2) (Z + 1) = t + 2 ∧ zH T w.heap.size (t + 2) (Z + 2) = t + 2 from ⟨zN (by omega), zN (by omega), zN (by omega)⟩)
 obtain ⟨T1, hT1⟩ : ∃ T1, T1 = zH T w.heap.size (t + 2) := ⟨_, rfl⟩
 rw [← hT1] at X1 F1 TG
 have HZ := Lib.hid hZ
 have RS := Lib.hid rs
 have RC := Lib.hid rc
 have RR := Lib.hid rr
 have ht := h.t0
 have HK := Lib.hid (And.intro h1 h2)
 clear h bw rs rc rr hT1 hZ h1 h2
 go_enter Tryz.func42, Tryz.ntmps42
 go_upto_region 1 with fail
 rw [← hw1, ← HZ.out]
 clear hw1
 refine flow_many [.inl [0, 1, 2, 3, 4, 5, 6], pS 12, pE 7, .inl [8, 9, 10, 11], pU 12, pE 13, .inl [14, 15]] (Bel w1) [] (by kernel_rfl) (by kernel_rfl) (fun _ _ _ _ _ h => h) (fun _ _ _ _ _ h => h) Bel.alloc (zL (Below.refl _ _) 1) (fun k hk => by cases hk) ?_
 have hne : Nonempty (In (Bel w1)) := ⟨⟨w1, Below.refl _ _⟩⟩
 have k0 : ∀ y : In (Bel w1), y.val.cell? ⟨Z, 0, none⟩ = some (.pointer (some ⟨B, 0, none⟩)) := fun y => zF (zC y.ok RS.out) 0
 have k1 : ∀ y : In (Bel w1), y.val.cell? ⟨Z + 1, 1, none⟩ = some (.int .i64 c.s) := fun y => (zX (zC y.ok RC.out)).2.1
 have k2 : ∀ y : In (Bel w1), y.val.cell? ⟨Z + 1, 2, none⟩ = some (.int .i64 c.q) := fun y => (zX (zC y.ok RC.out)).2.2.1
 refine wpM_q ?_
 simp only [pk, List.getElem?_cons_zero, List.getElem?_cons_succ]
 repeat (go_big_quiet_step (fail))
 refine wpQuiet_nil ?_
 clear k0 k1 k2 hne
 refine wpM_s (fun p' => .pointer (some ⟨p', 0, none⟩)) (.cells #[.int .i64 0, .int .i64 0, .int .i64 0, zR] 33) _ rfl rfl (fun w => by simp only [execOp, go_sem, Sem.run_bind, Result.andThen, rp_z w]; rfl) ?_
 refine wpM_e _ rfl (fun y hy => ?_)
 have b2 := y.below
 have X2 := X1.out.below hy
 obtain ⟨R, mv, hpt, htab⟩ := X2.st.tab
 have H2' := Lib.hid (pask_any (zH T1 w1.heap.size (t + 2)) t B mv x.l x.g c.s c.q y.val hpt X2.st.ok.T (by unfold i64B; have := chk_ok X1.out.chk; have := (chk_s X1.out.chk).1; omega))
 have Y2 := Lib.hid hy
 obtain ⟨w2, hw2⟩ : ∃ w2, w2 = y.val := ⟨_, rfl⟩
 rw [← hw2] at H2' Y2 ⊢
 clear hw2 b2 X2 hpt htab hy y
 go_wp2_with fail
 refine H2'.out.mono ?_
 rintro e w3 ⟨A3, k3, rfl, ho3, hb3⟩
 obtain ⟨S, hS⟩ : ∃ S, S = akS x.l c.s c.q := ⟨_, rfl⟩
 obtain ⟨b, hbb⟩ : ∃ b, b = akB x.l c.s c.q := ⟨_, rfl⟩
 obtain ⟨E, hE⟩ : ∃ E, E = akE x.l c.s c.q := ⟨_, rfl⟩
 rw [← hS] at ho3 ⊢
 rw [← hbb, ← hE]
 have HS := Lib.hid hS
 have HBB := Lib.hid hbb
 have HE := Lib.hid hE
 obtain ⟨zc, hzc⟩ : ∃ z, z = S.c := ⟨_, rfl⟩
 obtain ⟨zn, hzn⟩ : ∃ z, z = S.n := ⟨_, rfl⟩
 obtain ⟨zm, hzm⟩ : ∃ z, z = S.m := ⟨_, rfl⟩
 obtain ⟨zT, hzT⟩ : ∃ z, z = S.T := ⟨_, rfl⟩
 rw [← hzT] at ho3
 rw [← hzc, ← hzn, ← hzm, ← hzT]
 have HSV := Lib.hid (And.intro hzc (And.intro hzn (And.intro hzm hzT)))
 have O3w := Lib.hid ho3
 have O3 := Lib.hid (ho3.base (show w1.heap.size ≤ w2.heap.size from Y2.out.size))
 have Y3 := Lib.hid (show Bel w1 w3 from onto Y2.out Y2.out.size hb3)
 have hb3' := Lib.hid hb3
 have hz3 : w2.heap.size ≤ w3.heap.size := hb3.size
 clear hS hbb hE hzc hzn hzm hzT ho3 hb3 H2'
 go_wp2_with fail
 refine yD (Value.slice A3 zT k3).ownBlock.toList (Frm.of hb3'.out) (fun k hk => ?_) Y3.out Bel.alloc ?_
 ·have := World.ownsRow.lt O3w.out k (by simpa using hk)
  exact ⟨.inr this.1, this.2⟩
 clear hb3' O3w
 have hne : Nonempty (In (Bel w1)) := ⟨⟨w3, Y3.out⟩⟩
 refine wpM_q ?_
 simp only [pk, List.getElem?_cons_zero, List.getElem?_cons_succ]
 repeat (go_big_quiet_step (fail))
 refine wpQuiet_nil ?_
 clear hne
 refine wpM_u _ _ _ 5 (.head _) rfl rfl (fun y hy p hp1 hp2 hp3 hp4 => ?_)
 refine wpM_e _ rfl (fun y2 hy2 => ?_)
 have rp := zC y2.below (row_of hp4)
 have O4 := (O3.out.below y.below (Nat.le_refl _)).below y2.below (Nat.le_refl _)
 obtain ⟨w4, hw4⟩ : ∃ w4, w4 = y2.val := ⟨_, rfl⟩
 rw [← hw4] at hy2 rp O4 ⊢
 have Y4 := Lib.hid hy2
 have O4 := Lib.hid O4
 have hpne : (Value.slice A3 zT k3).ownBlock ≠ some p := fun e => hp3 (by simp [e])
 have hpl := zK rp
 clear hw4 hy hp2 hp3 hp4 O3 Y3 hz3 y2 y hy2
 go_wp2_with fail
 obtain ⟨C, hC⟩ : ∃ C : Array Value, C = #[.int .i64 zc, .int .i64 zn, .int .i64 zm, .slice A3 zT k3] := ⟨_, rfl⟩
 rw [← hC]
 have HC := Lib.hid hC
 have O5 := Lib.hid (O4.out.setRow p hpne C)
 have Y5 := Lib.hid (show Bel w1 (w4.setRow p C) from zE Y4.out hp1 C)
 have P5 := Lib.hid (zD rp C)
 have FM := Lib.hid (show Frm (p :: (Value.slice A3 zT k3).ownBlock.toList) w4 (w4.setRow p C) from ⟨by rw [setRow_sizeS]; exact Nat.le_refl _, fun k hk hn => setRow_other w4 p k C (fun e => hn (by rw [e]; simp))⟩)
 obtain ⟨w5, hw5⟩ : ∃ w5, w5 = w4.setRow p C := ⟨_, rfl⟩
 rw [← hw5] at O5 Y5 P5 FM ⊢
 clear hC rp O4 Y4 hw5
 refine yD [] FM.out hot_none Y5.out Bel.alloc ?_
 have hne : Nonempty (In (Bel w1)) := ⟨⟨w5, Y5.out⟩⟩
 refine wpM_q ?_
 simp only [pk, List.getElem?_cons_zero, List.getElem?_cons_succ]
 repeat (go_big_quiet_step (fail))
 refine wpQuiet_nil ?_
 clear hne FM
 refine wpM_nil (fun y => ?_)
 have Y6 := Lib.hid (show Bel w1 y.val from onto Y5.out Y5.out.size y.below)
 have O6 := Lib.hid (O5.out.below y.below (Nat.le_refl _))
 have P6 := Lib.hid (zC y.below P5.out)
 obtain ⟨w6, hw6⟩ : ∃ w6, w6 = y.val := ⟨_, rfl⟩
 rw [← hw6] at Y6 O6 P6 ⊢
 clear hw6 y Y5 O5 P5
 rw [show Z + 1 + 1 = Z + 2 from rfl]
 have FA := Lib.hid (fun tn => F1.out.trans (Fr.new (T := T1) (H := H2 t) Y6.out tn))
 have SA := Lib.hid (fun tn => X1.out.st.fr (Fr.new (T := T1) (H := fun _ => False) Y6.out tn) (fun h => h) (fun h => h) (fun h => h))
 by_cases h0 : E = 0
 ·have E0 := Lib.hid (show akE x.l c.s c.q = 0 by rw [← HE.out]; exact h0)
  subst h0
  go_wp2_with fail
  refine (xB _).mono ?_
  rintro e w7 ⟨rfl, rfl⟩
  cases b with
  | true =>
   have hX := Lib.hid (show rqX x c = x ∧ rqR x c = seR S by
    unfold rqX rqR
    rw [if_neg (fun h => h E0.out), if_pos HBB.out.symm, if_neg (fun h => h E0.out), if_pos HBB.out.symm, HS.out]
    exact ⟨rfl, rfl⟩)
   have r6 := P6.out
   rw [HC.out] at r6
   have q6 := zC Y6.out RR.out
   go_wp2_with fail
   have D6 := O6.out.rdS T1 0
   have t2 : zH T1 w1.heap.size 0 (Z + 2) = t + 2 := by rw [zJ (by omega)]; exact TG.out.2.2
   have G := Fr.row (T := zH T1 w1.heap.size 0) (H := fun c => c = t + 2) (w := w7) (B := Z + 2) t2 #[.int .i64 zc, .int .i64 zn, .int .i64 zm, .slice A3 zT k3]
   have ST := (SA.out 0).fr G (by omega) (by omega) (by omega)
   have DD := D6.fr G (by omega)
   have FF := (FA.out 0).up (b := Z + 2) (by have := HZ.out; omega) #[.int .i64 zc, .int .i64 zn, .int .i64 zm, .slice A3 zT k3]
   refine bodyPost_ret (v := repV zc zn zm (.slice A3 zT k3)) (yV Tryz.results42 _ _ (Z + 2) _ _ rfl (zD q6 _) Tryz.underlying33 rfl (by kernel_rfl)) rfl ?_
   rw [hX.out.1, hX.out.2]
   refine ⟨_, FF, ST, .inl ⟨A3, k3, ?_, ?_⟩⟩
   ·rw [HSV.out.1, HSV.out.2.1, HSV.out.2.2.1, HSV.out.2.2.2]; rfl
   ·show RdS _ _ 0 A3 S.T k3 S.f
    rw [← HSV.out.2.2.2]; exact DD
  | false =>
   obtain ⟨hd1, hd2⟩ := dn_new (l := x.l) (x := exS x c) E0.out HBB.out.symm
   have hX := Lib.hid (show rqX x c = ⟨exD x c, exC x c, exK x c, dnL x.l (exS x c), x.g⟩ ∧ rqR x c = exR x c by
    unfold rqX rqR
    rw [if_neg (fun h => h E0.out), if_neg (by rw [← HBB.out]; decide), if_neg (fun h => h E0.out), if_neg (by rw [← HBB.out]; decide)]
    exact ⟨rfl, rfl⟩)
   have X7 := X1.out.below Y6.out
   have F7 := FA.out (t + 2)
   have TG7 := Lib.hid (show zH T1 w1.heap.size (t + 2) Z = t + 2 ∧ zH T1 w1.heap.size (t + 2) (Z + 1) = t + 2 ∧ zH T1 w1.heap.size (t + 2) (Z + 2) = t + 2 by rw [zJ (by omega), zJ (by omega), zJ (by omega)]; exact TG.out)
   obtain ⟨T7, hT7⟩ : ∃ T7, T7 = zH T1 w1.heap.size (t + 2) := ⟨_, rfl⟩
   rw [← hT7] at X7 F7 TG7
   have hz7 : Z + 3 ≤ w7.heap.size := by have := Below.size Y6.out; omega
   have RS7 := Lib.hid (zC Y6.out RS.out)
   have RC7 := Lib.hid (zC Y6.out RC.out)
   have RR7 := Lib.hid (zC Y6.out RR.out)
   have H8 := Lib.hid (replyOf_any T7 t B ⟨exD x c, exC x c, exK x c, x.l, x.g⟩ (exR x c) ht 82 #[.pointer (some ⟨Z, 0, none⟩), .pointer (some ⟨Z + 1, 0, none⟩)] w7 (entr (fn := Tryz.f82) (by kernel_rfl) (by kernel_rfl) (by kernel_rfl)) fun W hW =>
    prq1_any (zH T7 w7.heap.size (t + 2)) t B tc x c A A' a a' Z (Z + 1) W (X7.below hW) HK.out.1 HK.out.2 (zC hW RS7.out) (zC hW RC7.out))
   have HF7 := Lib.hid F7
   have HX7 := Lib.hid X7
   have HD := Lib.hid (And.intro hd1 hd2)
   have hmf : ∀ (fn : Fn) (first cap : Array Value) (w : World), (Instr.makeFunc fn first cap).run Tryz.prog w = .ok (.func fn first cap) w := fun _ _ _ _ => rfl
   clear hd1 hd2 X7 F7 hT7 FA SA P6 O6 Y6 X1 F1 TG RS RC RR HS HSV HC hpne
   go_wp2_with fail
   refine H8.out.mono ?_
   rintro e w8 ⟨T8, hf8, hs8, A8, k8, rfl, hr8⟩
   obtain ⟨r, hr⟩ : ∃ r, r = exR x c := ⟨_, rfl⟩
   obtain ⟨C8, hC8⟩ : ∃ C : Array Value, C = #[.int .i64 r.c, .int .i64 r.n, .int .i64 r.m, .slice A8 r.T k8] := ⟨_, rfl⟩
   have HRR := Lib.hid hr
   rw [← hr] at hr8 ⊢
   have hb9 := (Below.refl w8.heap.size w8).alloc (Nat.le_refl _) (.cells C8 33)
   obtain ⟨w9, hw9⟩ : ∃ w9, w9 = w8.alloc (.cells C8 33) := ⟨_, rfl⟩
   have rG := zA w8 C8 33 _ rfl
   have hz9 : w9.heap.size = w8.heap.size + 1 := by rw [hw9]; simp
   rw [← hw9] at hb9 rG
   have hz8 := hf8.size
   have f9 := Fr.new (T := T8) (H := H2 t) hb9 (t + 2)
   have f9' := Fr.new (T := T8) (H := fun _ => False) hb9 (t + 2)
   have F9 := Lib.hid ((HF7.out.trans hf8).trans f9)
   have S9 := Lib.hid (hs8.fr f9' (fun h => h) (fun h => h) (fun h => h))
   have D9 := Lib.hid (hr8.fr f9' (fun h => h))
   have RS9 := Lib.hid (zC hb9 (hf8.rowAt RS7.out (by rw [TG7.out.1]; exact xI)))
   have RC9 := Lib.hid (zC hb9 (hf8.rowAt RC7.out (by rw [TG7.out.2.1]; exact xI)))
   have RR9 := Lib.hid (zC hb9 (hf8.rowAt RR7.out (by rw [TG7.out.2.2]; exact xI)))
   have RG9 := Lib.hid rG
   have TG9 := Lib.hid (show zH T8 w8.heap.size (t + 2) Z = t + 2 ∧ zH T8 w8.heap.size (t + 2) (Z + 1) = t + 2 ∧ zH T8 w8.heap.size (t + 2) (Z + 2) = t + 2 ∧ zH T8 w8.heap.size (t + 2) w8.heap.size = t + 2 by
    rw [zJ (by omega), zJ (by omega), zJ (by omega), hf8.tag _ (by omega), hf8.tag _ (by omega), hf8.tag _ (by omega), zN (Nat.le_refl _)]
    exact ⟨TG7.out.1, TG7.out.2.1, TG7.out.2.2, rfl⟩)
   obtain ⟨T9, hT9⟩ : ∃ T9, T9 = zH T8 w8.heap.size (t + 2) := ⟨_, rfl⟩
   obtain ⟨G, hG⟩ : ∃ G, G = w8.heap.size := ⟨_, rfl⟩
   rw [← hT9] at F9 S9 D9 TG9
   rw [← hG] at RG9 TG9
   have HG := Lib.hid hG
   have HC8 := Lib.hid hC8
   rw [hC8] at hw9
   clear hr hC8 hb9 rG f9 f9' hf8 hs8 hr8 hT9 hG RS7 RC7 RR7 TG7 H8
   go_upto_region 6 with fail
   rw [← hw9, ← HG.out]
   clear hw9
   refine yB [([0, 1, 2, 3, 4, 5, 6, 7], 8, false), ([], 9, true)] [] (fun y => row y Z = some #[.pointer (some ⟨B, 0, none⟩)] ∧ row y (Z + 1) = some (cmA c A a A' a') ∧ row y G = some C8) (by kernel_rfl) (by kernel_rfl) (fun _ _ _ _ _ h => h) (by simp only [zQ]; exact ⟨RS9.out, RC9.out, RG9.out⟩) ?_
   have b10 := zL (Below.refl w9.heap.size w9) 1
   have f10 := Fr.new (T := T9) (H := H2 t) b10 (t + 2)
   have f10' := Fr.new (T := T9) (H := fun _ => False) b10 (t + 2)
   have F10 := Lib.hid (F9.out.trans f10)
   have S10 := Lib.hid (S9.out.fr f10' (fun h => h) (fun h => h) (fun h => h))
   have D10 := Lib.hid (D9.out.fr f10' (fun h => h))
   have RS10 := Lib.hid (zC b10 RS9.out)
   have RC10 := Lib.hid (zC b10 RC9.out)
   have RR10 := Lib.hid (zC b10 RR9.out)
   have RG10 := Lib.hid (zC b10 RG9.out)
   have hgl := zK RG9.out
   have TG10 := Lib.hid (show zH T9 w9.heap.size (t + 2) Z = t + 2 ∧ zH T9 w9.heap.size (t + 2) (Z + 1) = t + 2 ∧ zH T9 w9.heap.size (t + 2) (Z + 2) = t + 2 ∧ zH T9 w9.heap.size (t + 2) G = t + 2 by
    rw [zJ (by omega), zJ (by omega), zJ (by omega), zJ (by omega)]
    exact TG9.out)
   obtain ⟨T10, hT10⟩ : ∃ T10, T10 = zH T9 w9.heap.size (t + 2) := ⟨_, rfl⟩
   obtain ⟨w10, hw10⟩ : ∃ w10, w10 = w9.drewN 1 := ⟨_, rfl⟩
   rw [← hT10] at F10 S10 D10 TG10
   rw [← hw10] at F10 S10 D10 RS10 RC10 RR10 RG10 ⊢
   have hz10 : Z + 3 ≤ w10.heap.size ∧ G < w10.heap.size := ⟨by rw [hw10]; show Z + 3 ≤ w9.heap.size; omega, zK RG10.out⟩
   clear hT10 hw10 b10 f10 f10' F9 S9 D9 RS9 RC9 RR9 RG9 TG9
   have hne : Nonempty (In (fun y => row y Z = some #[.pointer (some ⟨B, 0, none⟩)] ∧ row y (Z + 1) = some (cmA c A a A' a') ∧ row y G = some C8)) := ⟨⟨w10, RS10.out, RC10.out, RG10.out⟩⟩
   have Q0 : ∀ y : In (fun y => row y Z = some #[.pointer (some ⟨B, 0, none⟩)] ∧ row y (Z + 1) = some (cmA c A a A' a') ∧ row y G = some C8), y.val.cell? ⟨Z, 0, none⟩ = some (.pointer (some ⟨B, 0, none⟩)) := fun y => zF y.ok.1 0
   have Q1 : ∀ y : In (fun y => row y Z = some #[.pointer (some ⟨B, 0, none⟩)] ∧ row y (Z + 1) = some (cmA c A a A' a') ∧ row y G = some C8), y.val.cell? ⟨Z + 1, 1, none⟩ = some (.int .i64 c.s) := fun y => (zX y.ok.2.1).2.1
   have Q2 : ∀ y : In (fun y => row y Z = some #[.pointer (some ⟨B, 0, none⟩)] ∧ row y (Z + 1) = some (cmA c A a A' a') ∧ row y G = some C8), y.val.cell? ⟨Z + 1, 2, none⟩ = some (.int .i64 c.q) := fun y => (zX y.ok.2.1).2.2.1
   have Q3 : ∀ y : In (fun y => row y Z = some #[.pointer (some ⟨B, 0, none⟩)] ∧ row y (Z + 1) = some (cmA c A a A' a') ∧ row y G = some C8), row y.val G = some #[.int .i64 r.c, .int .i64 r.n, .int .i64 r.m, .slice A8 r.T k8] := fun y => by rw [y.ok.2.2, HC8.out]
   simp only [wpFl, pk, List.getElem?_cons_zero, List.getElem?_cons_succ]
   refine yR ?_
   repeat (go_big_quiet_step (fail))
   refine wpQuiet_nil ?_
   clear Q0 Q1 Q2 Q3 hne
   obtain ⟨sx, hsx⟩ : ∃ sx : Se, sx = ⟨c.s, c.q, r.c, r.n, r.m, r.T, r.f⟩ := ⟨_, rfl⟩
   have HSX := Lib.hid (show exS x c = sx by rw [hsx, HRR.out]; rfl)
   have hrT : r.T ≤ 140737488355328 := by rw [HRR.out]; have := exR_T x c; omega
   obtain ⟨R10, mv10, hpt, htab⟩ := S10.out.tab
   have HT := Lib.hid htab
   have H11 := pdone_any T10 t B mv10 x.l x.g sx A8 k8 w10 hpt ht S10.out.ok.T (by rw [hsx]; unfold i64B; show -9223372036854775808 ≤ c.s ∧ c.s < 9223372036854775808; have := chk_ok HX7.out.chk; have := (chk_s HX7.out.chk).1; omega) (tx := 0) (by rw [hsx]; exact D10.out) (h2_0 ht) (by rw [hsx]; exact hrT)
   have HDN := Lib.hid (show dnE x.l sx.id sx.q = 0 by rw [← HSX.out]; exact HD.out.1)
   rw [HDN.out] at H11
   have H11 := Lib.hid (show Calls Tryz.prog 84 #[.pointer (some ⟨B, 1170, none⟩), .int .i64 c.s, .int .i64 c.q, repV r.c r.n r.m (.slice A8 r.T k8)] w10 _ by rw [hsx] at H11; exact H11)
   clear hpt htab
   go_wp2_with fail
   refine H11.out.mono ?_
   rintro e w11 ⟨rfl, T11, mv11, hf11, hp11⟩
   have ST11 := Lib.hid (HT.out T11 w11 mv11 (dnL x.l (exS x c)) x.g (by rw [HSX.out, hsx]; exact hp11) (HX7.out.st.ok.T.dn _ (Nat.le_trans (exR_T x c) (by omega))))
   have D11 := Lib.hid (D10.out.fr hf11 (h2_0 ht))
   have F11 := Lib.hid (F10.out.trans hf11)
   have RS11 := Lib.hid (hf11.rowAt RS10.out (by rw [TG10.out.1]; exact xI))
   have RC11 := Lib.hid (hf11.rowAt RC10.out (by rw [TG10.out.2.1]; exact xI))
   have RR11 := Lib.hid (hf11.rowAt RR10.out (by rw [TG10.out.2.2.1]; exact xI))
   have RG11 := Lib.hid (hf11.rowAt RG10.out (by rw [TG10.out.2.2.2]; exact xI))
   have t11 : T11 (Z + 2) = t + 2 := by rw [hf11.tag _ (by omega)]; exact TG10.out.2.2.1
   have hsx' := Lib.hid hsx
   clear hf11 hp11 H11 HT RS10 RC10 RR10 RG10 D10 S10 F10 hsx
   go_wp2_with fail
   refine ⟨(fun y => row y Z = some #[.pointer (some ⟨B, 0, none⟩)] ∧ row y (Z + 1) = some (cmA c A a A' a') ∧ row y G = some C8), ⟨RS11.out, RC11.out, RG11.out⟩, .inr ⟨⟨RS11.out, RC11.out, RG11.out⟩, fun _ h => h⟩, ?_⟩
   show wpQuiet _ _ _ _ _ _
   refine wpQuiet_nil ?_
   go_wp2_with fail
   refine (xB _).mono ?_
   rintro e w12 ⟨rfl, rfl⟩
   go_wp2_with fail
   first | refine ⟨(fun y => row y Z = some #[.pointer (some ⟨B, 0, none⟩)] ∧ row y (Z + 1) = some (cmA c A a A' a') ∧ row y G = some C8), ⟨RS11.out, RC11.out, RG11.out⟩, .inl trivial, ?_⟩ | refine ⟨(fun y => row y Z = some #[.pointer (some ⟨B, 0, none⟩)] ∧ row y (Z + 1) = some (cmA c A a A' a') ∧ row y G = some C8), ⟨RS11.out, RC11.out, RG11.out⟩, ?_⟩
   show wpQuiet _ _ _ _ _ _
   refine wpQuiet_nil ?_
   have rg := RG11.out
   rw [HC8.out] at rg
   have rr := RR11.out
   have G2 := Fr.row (T := T11) (H := fun c => c = t + 2) (w := w12) (B := Z + 2) t11 #[.int .i64 r.c, .int .i64 r.n, .int .i64 r.m, .slice A8 r.T k8]
   have ST := Lib.hid (ST11.out.fr G2 (by omega) (by omega) (by omega))
   have DD := Lib.hid (D11.out.fr G2 (by omega))
   have FF := Lib.hid (F11.out.up (b := Z + 2) (by have := HZ.out; omega) #[.int .i64 r.c, .int .i64 r.n, .int .i64 r.m, .slice A8 r.T k8])
   clear G2
   go_wp2_with fail
   refine bodyPost_ret (v := repV r.c r.n r.m (.slice A8 r.T k8)) (yV Tryz.results42 _ _ (Z + 2) _ _ rfl (zD rr _) Tryz.underlying33 rfl (by kernel_rfl)) rfl ?_
   rw [hX.out.1, hX.out.2, ← HRR.out]
   exact ⟨_, FF.out, ST.out, .inl ⟨A8, k8, rfl, DD.out⟩⟩
 ·have hX := Lib.hid (show rqX x c = x ∧ rqR x c = rpE E by
   unfold rqX rqR
   rw [if_pos (by rw [← HE.out]; exact h0), if_pos (by rw [← HE.out]; exact h0), ← HE.out]
   exact ⟨rfl, rfl⟩)
  go_wp2_with fail
  refine (yW E h0 _).mono ?_
  rintro e w7 ⟨rfl, rfl⟩
  go_wp2_with fail
  rw [hX.out.1, hX.out.2]
  exact ⟨rfl, _, FA.out 0, SA.out 0, .inr ⟨h0, rfl, rfl⟩⟩
structure ApIn (T : Mk) (w : World) (t B tc : Nat) (x : Sx) (c : Cm) (A : Option Addr) (a : Nat) (A' : Option Addr) (a' : Nat) : Prop where
 st : StAt T w t B x
 t0 : 0 < t
 tab : Tab w
 m0 : off3 t (T 0)
 cm : CmR T w tc c A a A' a'
 mc : off3 t tc
 n : x.n ≤ 1048576
section
variable {T T' : Mk} {w w' : World} {t B tc : Nat} {x : Sx} {c : Cm} {A A' : Option Addr} {a a' : Nat}
theorem ApIn.ex (h : ApIn T w t B tc x c A a A' a') (hc : chkE c.k c.s c.q c.i c.n c.T c.U = 0) : ExIn T w t B tc x c A a A' a' := ⟨h.st, h.t0, h.tab, h.m0, h.cm, h.mc, h.n, hc⟩
theorem ApIn.below (h : ApIn T w t B tc x c A a A' a') (hb : Below w.heap.size w w') : ApIn (zH T w.heap.size (t + 2)) w' t B tc x c A a A' a' := by
 have hf := Fr.new (T := T) (H := fun _ => False) hb (t + 2)
 exact ⟨h.st.fr hf (fun h => h) (fun h => h) (fun h => h), h.t0, h.tab.below hb h.tab.pos, by rw [zJ h.tab.pos]; exact h.m0, h.cm.fr hf (fun h => h), h.mc, h.n⟩
end
theorem chk_01 {k s q i n : Int} {T U : Nat} (h : chkE k s q i n T U ≠ 0) : chkE k s q i n T U = 1 := by
 unfold chkE at h ⊢
 split
 ·rename_i h2; rw [if_pos h2] at h; exact absurd rfl h
 ·rfl
theorem rp_b1n (n : Int) (w : World) : (Instr.build 33 #[(1, .int .i64 n)]).run Tryz.prog w = .ok (repV 0 n 0 (.slice none 0 0)) w := by kernel_rfl
theorem op_bad {l : List Se} {g : Int} (h : opE l g ≠ 0) : opE l g = 134 ∧ opN l g = 0 := by
 unfold opE opN at *
 split at h
 ·rename_i e; exact ⟨if_pos e, if_pos e⟩
 ·exact absurd rfl h
theorem pap1_any (T : Mk) (t B tc : Nat) (x : Sx) (c : Cm) (A A' : Option Addr) (a a' : Nat) (Zc Zs : Nat) (w : World) (h : ApIn T w t B tc x c A a A' a')
  (hc : row w Zc = some (cmA c A a A' a')) (hs : row w Zs = some #[.pointer (some ⟨B, 0, none⟩)]) (mk1 : off3 t (T Zc) ∨ T Zc = t + 2) (mk2 : off3 t (T Zs) ∨ T Zs = t + 2) :
  Calls Tryz.prog 36 #[.pointer (some ⟨Zc, 0, none⟩), .pointer (some ⟨Zs, 0, none⟩)] w (OutR t B (apX x c) (apR x c) T w) := by
 obtain ⟨w1, hw1⟩ : ∃ w1, w1 = w.alloc (.cells #[.int .i64 0, .int .i64 0, .int .i64 0, zR] 33) := ⟨_, rfl⟩
 have bw : Below w.heap.size w w1 := by rw [hw1]; exact (Below.refl _ _).alloc (Nat.le_refl _) _
 have r0 : row w1 w.heap.size = some #[.int .i64 0, .int .i64 0, .int .i64 0, zR] := by rw [hw1]; exact zA _ _ _ _ rfl
 have hz1 : w1.heap.size = w.heap.size + 1 := by rw [hw1]; simp
 have F1 := Lib.hid (show Fr T (zH T w.heap.size (t + 2)) (H2 t) w w1 from Fr.new bw _)
 have TG := Lib.hid (show zH T w.heap.size (t + 2) w.heap.size = t + 2 from zN (Nat.le_refl _))
 have X1 := Lib.hid (h.below bw)
 have ht := h.t0
 have RS := Lib.hid (zC bw hs)
 have RC := Lib.hid (zC bw hc)
 have R0 := Lib.hid r0
 have r1 := zC bw hc
 obtain ⟨T1, hT1⟩ : ∃ T1, T1 = zH T w.heap.size (t + 2) := ⟨_, rfl⟩
 rw [← hT1] at X1 F1 TG
 have H1 := Lib.hid (check_any c.k c.s c.q c.i c.n c.T c.U a a' A A' w1)
 have hTk := Lib.hid hT1
 have hl1 := zK hc
 have hl2 := zK hs
 clear h bw r0 hT1 hs hc
 go_enter Tryz.func36, Tryz.ntmps36
 go_upto_region 1 with fail
 rw [← hw1]
 clear hw1
 go_wp2_with fail
 refine H1.out.mono ?_
 rintro e w2 ⟨rfl, hb2⟩
 have X2 := X1.out.below hb2
 have F2 := F1.out.trans (Fr.new (T := T1) (H := H2 t) hb2 (t + 2))
 have TG2 := Lib.hid (show zH T1 w1.heap.size (t + 2) w.heap.size = t + 2 by rw [zJ (by omega)]; exact TG.out)
 have RS2 := Lib.hid (zC hb2 RS.out)
 have RC2 := Lib.hid (zC hb2 RC.out)
 have RR2 := Lib.hid (zC hb2 R0.out)
 obtain ⟨T2, hT2⟩ : ∃ T2, T2 = zH T1 w1.heap.size (t + 2) := ⟨_, rfl⟩
 rw [← hT2] at X2 F2 TG2
 replace X2 := Lib.hid X2
 replace F2 := Lib.hid F2
 have hz2 := hb2.size
 have MK := Lib.hid (show ¬ H2 t (T2 Zc) ∧ ¬ H2 t (T2 Zs) by
  have l1 := zK RC.out
  have l2 := zK RS.out
  have e1 : T2 Zc = T Zc := by rw [hT2, zJ l1, hTk.out, zJ hl1]
  have e2 : T2 Zs = T Zs := by rw [hT2, zJ l2, hTk.out, zJ hl2]
  rw [e1, e2]
  unfold H2 off3 at *
  omega)
 clear hb2 hT2 H1 X1 F1 TG RS RC R0 r1 mk1 mk2 hTk hl1 hl2
 by_cases hck : chkE c.k c.s c.q c.i c.n c.T c.U = 0
 ·have HC := Lib.hid hck
  have EX := Lib.hid (X2.out.ex hck)
  rw [hck]
  clear hck
  go_wp2_with fail
  refine (xB _).mono ?_
  rintro e w3 ⟨rfl, rfl⟩
  obtain ⟨a0, a1, a2, a3, a4, a5, a6⟩ := zX RC2.out
  have rs0 := zF RS2.out 0
  have rs0 : w3.cell? ⟨Zs, 0, none⟩ = some (.pointer (some ⟨B, 0, none⟩)) := rs0
  by_cases hk1 : c.k = 1
  ·have HX := Lib.hid (show apX x c = ⟨x.d, x.n, x.K, opSe x.l x.g, opG x.l x.g⟩ ∧ apR x c = ⟨opE x.l x.g, opN x.l x.g, 0, 0, fun _ => 0#8⟩ by
    unfold apX apR
    rw [if_neg (fun h => h HC.out), if_pos hk1, if_neg (fun h => h HC.out), if_pos hk1]
    exact ⟨rfl, rfl⟩)
   rw [hk1] at a0
   obtain ⟨R, mv, hpt, htab⟩ := X2.out.st.tab
   have H3 := Lib.hid (popen_any T2 t B mv x.l x.g w3 hpt ht X2.out.st.ok.T)
   have HT := Lib.hid htab
   clear hpt htab hk1
   go_wp2_with fail
   refine H3.out.mono ?_
   rintro e w4 ⟨rfl, T4, mv4, hf4, hp4⟩
   have ST4 := Lib.hid (HT.out T4 w4 mv4 _ _ hp4 X2.out.st.ok.T.opn)
   have F4 := Lib.hid (F2.out.trans hf4)
   have RR4 := Lib.hid (hf4.rowAt RR2.out (by rw [TG2.out]; exact xI))
   have t4 : T4 w.heap.size = t + 2 := by rw [hf4.tag _ (by omega)]; exact TG2.out
   obtain ⟨N, hN⟩ : ∃ N, N = opN x.l x.g := ⟨_, rfl⟩
   obtain ⟨E, hE⟩ : ∃ E, E = opE x.l x.g := ⟨_, rfl⟩
   have HOB := Lib.hid (op_bad (l := x.l) (g := x.g))
   rw [← hN, ← hE] at HOB ⊢
   have HN := Lib.hid hN
   have HE := Lib.hid hE
   clear hf4 hp4 hN hE H3 HT a0 a1 a2 a3 a4 a5 a6 rs0
   have bd := rp_b1n
   by_cases h0 : E = 0
   ·subst h0
    go_wp2_with fail
    refine (musti_ok _ _).mono ?_
    rintro e w5 ⟨rfl, rfl⟩
    have rr := RR4.out
    go_wp2_with fail
    have G := Fr.row (T := T4) (H := fun c => c = t + 2) (w := w5) (B := w.heap.size) t4 #[.int .i64 0, .int .i64 N, .int .i64 0, zR]
    refine bodyPost_ret (v := repV 0 N 0 zR) (yV Tryz.results36 _ _ w.heap.size _ _ rfl (zD rr _) Tryz.underlying33 rfl (by kernel_rfl)) rfl ?_
    rw [HX.out.1, HX.out.2, ← HN.out, ← HE.out]
    exact ⟨_, F4.out.up (Nat.le_refl _) _, ST4.out.fr G (by omega) (by omega) (by omega), .inl ⟨none, 0, rfl, RdS.nil _ _ _ _⟩⟩
   ·go_wp2_with fail
    refine (musti_bad _ E h0 _).mono ?_
    rintro e w5 ⟨rfl, rfl⟩
    go_wp2_with fail
    rw [HX.out.1, HX.out.2, ← HN.out, ← HE.out]
    obtain ⟨e1, e2⟩ := HOB.out h0
    exact ⟨rfl, _, F4.out, ST4.out, .inr ⟨h0, by rw [e2]; rfl, rfl⟩⟩
  ·by_cases hk2 : c.k = 2
   ·have HX := Lib.hid (show apX x c = ⟨x.d, x.n, x.K, ssX x.l c.i, x.g⟩ ∧ apR x c = rpE (exE x.l c.i) by
     unfold apX apR
     rw [if_neg (fun h => h HC.out), if_neg hk1, if_pos hk2, if_neg (fun h => h HC.out), if_neg hk1, if_pos hk2]
     exact ⟨rfl, rfl⟩)
    rw [hk2] at a0
    have hib : i64B c.i := by unfold i64B; have := chk_ok EX.out.chk; have := (chk_s EX.out.chk).2; omega
    have HIB := Lib.hid hib
    clear hk1 hk2 hib
    go_upto_region 6 with fail
    refine yB [([0, 1, 2, 3, 4], 5, false), ([], 6, true)] [] (fun y => row y Zs = some #[.pointer (some ⟨B, 0, none⟩)] ∧ row y Zc = some (cmA c A a A' a')) (by kernel_rfl) (by kernel_rfl) (fun _ _ _ _ _ h => h) (by simp only [zQ]; exact ⟨RS2.out, RC2.out⟩) ?_
    clear a0 a1 a2 a3 a4 a5 a6 rs0
    have b5 := zL (Below.refl w3.heap.size w3) 1
    have f5 := Fr.new (T := T2) (H := H2 t) b5 (t + 2)
    have f5' := Fr.new (T := T2) (H := fun _ => False) b5 (t + 2)
    have F5 := Lib.hid (F2.out.trans f5)
    have S5 := Lib.hid (X2.out.st.fr f5' (fun h => h) (fun h => h) (fun h => h))
    have RS5 := Lib.hid (zC b5 RS2.out)
    have RC5 := Lib.hid (zC b5 RC2.out)
    have RR5 := Lib.hid (zC b5 RR2.out)
    have l1 := zK RC2.out
    have l2 := zK RS2.out
    have TG5 := Lib.hid (show zH T2 w3.heap.size (t + 2) w.heap.size = t + 2 ∧ ¬ H2 t (zH T2 w3.heap.size (t + 2) Zc) ∧ ¬ H2 t (zH T2 w3.heap.size (t + 2) Zs) by
     rw [zJ (by omega), zJ l1, zJ l2]; exact ⟨TG2.out, MK.out⟩)
    obtain ⟨T5, hT5⟩ : ∃ T5, T5 = zH T2 w3.heap.size (t + 2) := ⟨_, rfl⟩
    obtain ⟨w5, hw5⟩ : ∃ w5, w5 = w3.drewN 1 := ⟨_, rfl⟩
    rw [← hT5] at F5 S5 TG5
    have hz5 : (w3.drewN 1).heap.size = w3.heap.size := rfl
    rw [← hw5] at F5 S5 RS5 RC5 RR5 hz5 ⊢
    clear hT5 hw5 b5 f5 f5' l1 l2
    have hne : Nonempty (In (fun y => row y Zs = some #[.pointer (some ⟨B, 0, none⟩)] ∧ row y Zc = some (cmA c A a A' a'))) := ⟨⟨w5, RS5.out, RC5.out⟩⟩
    have Q0 : ∀ y : In (fun y => row y Zs = some #[.pointer (some ⟨B, 0, none⟩)] ∧ row y Zc = some (cmA c A a A' a')), y.val.cell? ⟨Zs, 0, none⟩ = some (.pointer (some ⟨B, 0, none⟩)) := fun y => zF y.ok.1 0
    have Q1 : ∀ y : In (fun y => row y Zs = some #[.pointer (some ⟨B, 0, none⟩)] ∧ row y Zc = some (cmA c A a A' a')), y.val.cell? ⟨Zc, 3, none⟩ = some (.int .i64 c.i) := fun y => (zX y.ok.2).2.2.2.1
    simp only [wpFl, pk, List.getElem?_cons_zero, List.getElem?_cons_succ]
    refine yR ?_
    repeat (go_big_quiet_step (fail))
    refine wpQuiet_nil ?_
    clear Q0 Q1 hne
    obtain ⟨R, mv, hpt, htab⟩ := S5.out.tab
    have H6 := Lib.hid (pexp_any T5 t B mv x.l x.g c.i w5 hpt ht S5.out.ok.T HIB.out)
    have HT := Lib.hid htab
    clear hpt htab
    go_wp2_with fail
    refine H6.out.mono ?_
    rintro e w6 ⟨rfl, T6, mv6, hf6, hp6⟩
    have ST6 := Lib.hid (HT.out T6 w6 mv6 _ _ hp6 (S5.out.ok.T.drop _))
    have F6 := Lib.hid (F5.out.trans hf6)
    have RR6 := Lib.hid (hf6.rowAt RR5.out (by rw [TG5.out.1]; exact xI))
    have RS6 := Lib.hid (hf6.rowAt RS5.out TG5.out.2.2)
    have RC6 := Lib.hid (hf6.rowAt RC5.out TG5.out.2.1)
    have t6 : T6 w.heap.size = t + 2 := by rw [hf6.tag _ (by omega)]; exact TG5.out.1
    obtain ⟨E, hE⟩ : ∃ E, E = exE x.l c.i := ⟨_, rfl⟩
    rw [← hE]
    have HE := Lib.hid hE
    clear hf6 hp6 hE H6 HT
    have bd := rp_b0'
    by_cases h0 : E = 0
    ·subst h0
     go_wp2_with fail
     refine ⟨(fun y => row y Zs = some #[.pointer (some ⟨B, 0, none⟩)] ∧ row y Zc = some (cmA c A a A' a')), ⟨RS6.out, RC6.out⟩, .inr ⟨⟨RS6.out, RC6.out⟩, fun _ h => h⟩, ?_⟩
     show wpQuiet _ _ _ _ _ _
     refine wpQuiet_nil ?_
     go_wp2_with fail
     refine (xB _).mono ?_
     rintro e w7 ⟨rfl, rfl⟩
     go_wp2_with fail
     first | refine ⟨(fun y => row y Zs = some #[.pointer (some ⟨B, 0, none⟩)] ∧ row y Zc = some (cmA c A a A' a')), ⟨RS6.out, RC6.out⟩, .inl trivial, ?_⟩ | refine ⟨(fun y => row y Zs = some #[.pointer (some ⟨B, 0, none⟩)] ∧ row y Zc = some (cmA c A a A' a')), ⟨RS6.out, RC6.out⟩, ?_⟩
     show wpQuiet _ _ _ _ _ _
     refine wpQuiet_nil ?_
     have rr := RR6.out
     go_wp2_with fail
     have G := Fr.row (T := T6) (H := fun c => c = t + 2) (w := w7) (B := w.heap.size) t6 #[.int .i64 0, .int .i64 0, .int .i64 0, zR]
     refine bodyPost_ret (v := repV 0 0 0 zR) (yV Tryz.results36 _ _ w.heap.size _ _ rfl (zD rr _) Tryz.underlying33 rfl (by kernel_rfl)) rfl ?_
     rw [HX.out.1, HX.out.2, ← HE.out]
     exact ⟨_, F6.out.up (Nat.le_refl _) _, ST6.out.fr G (by omega) (by omega) (by omega), .inl ⟨none, 0, rfl, RdS.nil _ _ _ _⟩⟩
    ·go_wp2_with fail
     refine ⟨(fun y => row y Zs = some #[.pointer (some ⟨B, 0, none⟩)] ∧ row y Zc = some (cmA c A a A' a')), ⟨RS6.out, RC6.out⟩, .inr ⟨⟨RS6.out, RC6.out⟩, fun _ h => h⟩, ?_⟩
     show wpQuiet _ _ _ _ _ _
     refine wpQuiet_nil ?_
     go_wp2_with fail
     refine (yW E h0 _).mono ?_
     rintro e w7 ⟨rfl, rfl⟩
     go_wp2_with fail
     rw [HX.out.1, HX.out.2, ← HE.out]
     exact ⟨rfl, _, F6.out, ST6.out, .inr ⟨h0, rfl, rfl⟩⟩
   ·have HX := Lib.hid (show apX x c = rqX x c ∧ apR x c = rqR x c by
     refine ⟨?_, ?_⟩
     ·unfold apX
      rw [if_neg (fun h => h HC.out), if_neg hk1, if_neg hk2]
      rfl
     ·unfold apR
      rw [if_neg (fun h => h HC.out), if_neg hk1, if_neg hk2]
      rfl)
    have d1 : (c.k == 1) = false := by simpa using hk1
    have d2 : (c.k == 2) = false := by simpa using hk2
    have H3 := Lib.hid (preq_any T2 t B tc x c A A' a a' w3 EX.out hk1 hk2)
    have rc := RC2.out
    clear hk1 hk2
    go_wp2_with fail
    refine H3.out.mono ?_
    rintro e w4 ⟨T4, hf, hst, ⟨A5, k5, rfl, hrd⟩ | ⟨hne, hrp, rfl⟩⟩
    ·have rr := hf.rowAt RR2.out (by rw [TG2.out]; exact xI)
     have t4 : T4 w.heap.size = t + 2 := by rw [hf.tag _ (by omega)]; exact TG2.out
     obtain ⟨r, hr⟩ : ∃ r, r = rqR x c := ⟨_, rfl⟩
     rw [← hr] at hrd ⊢
     have HRR := Lib.hid hr
     have HF := Lib.hid (F2.out.trans hf)
     have HS := Lib.hid hst
     have HRD := Lib.hid hrd
     clear hf hst hrd hr a0 a1 a2 a3 a4 a5 a6 rs0 rc
     go_wp2_with fail
     have G := Fr.row (T := T4) (H := fun c => c = t + 2) (w := w4) (B := w.heap.size) t4 #[.int .i64 r.c, .int .i64 r.n, .int .i64 r.m, .slice A5 r.T k5]
     refine bodyPost_ret (v := rpV r A5 k5) (yV Tryz.results36 _ _ w.heap.size _ _ rfl (zD rr _) Tryz.underlying33 rfl (by kernel_rfl)) rfl ?_
     rw [HX.out.1, HX.out.2, ← HRR.out]
     exact ⟨_, HF.out.up (Nat.le_refl _) _, HS.out.fr G (by omega) (by omega) (by omega), .inl ⟨A5, k5, rfl, HRD.out.fr G (by omega)⟩⟩
    ·have HN := Lib.hid (And.intro hne hrp)
     have HF := Lib.hid (F2.out.trans hf)
     have HS := Lib.hid hst
     clear hne hrp hf hst
     go_wp2_with fail
     rw [HX.out.1, HX.out.2]
     exact ⟨rfl, _, HF.out, HS.out, .inr ⟨HN.out.1, HN.out.2, rfl⟩⟩
 ·have HX := Lib.hid (show apX x c = x ∧ apR x c = rpE 1 by
   unfold apX apR
   rw [if_pos hck, if_pos hck]
   exact ⟨rfl, rfl⟩)
  rw [chk_01 hck]
  clear hck
  go_wp2_with fail
  refine (yW 1 (by decide) _).mono ?_
  rintro e w3 ⟨rfl, rfl⟩
  go_wp2_with fail
  rw [HX.out.1, HX.out.2]
  exact ⟨rfl, _, F2.out, X2.out.st, .inr ⟨by decide, rfl, rfl⟩⟩
theorem papply_any (T : Mk) (t B tc : Nat) (x : Sx) (c : Cm) (A A' : Option Addr) (a a' : Nat) (w : World) (h : ApIn T w t B tc x c A a A' a') :
  Calls Tryz.prog 15 #[.pointer (some ⟨B, 0, none⟩), cmV c A a A' a'] w (OutV t B (apX x c) (apR x c) T w) := by
 obtain ⟨Z, hZ⟩ : ∃ Z, Z = w.heap.size := ⟨_, rfl⟩
 obtain ⟨w1, hw1⟩ : ∃ w1, w1 = ((w.alloc (.cells #[.pointer (some ⟨B, 0, none⟩)] 25)).alloc (.cells (cmA c A a A' a') 36)).alloc (.cells #[.int .i64 0, .int .i64 0, .int .i64 0, zR] 33) := ⟨_, rfl⟩
 have bw : Below w.heap.size w w1 := by rw [hw1]; exact (((Below.refl _ _).alloc (Nat.le_refl _) _).alloc (by simp) _).alloc (by simp; omega) _
 have rs : row w1 Z = some #[.pointer (some ⟨B, 0, none⟩)] := by rw [hw1, hZ]; exact zI (zI (zA _ _ _ _ rfl) _) _
 have rc : row w1 (Z + 1) = some (cmA c A a A' a') := by rw [hw1, hZ]; exact zI (zA _ _ _ _ (by simp)) _
 have rr : row w1 (Z + 2) = some #[.int .i64 0, .int .i64 0, .int .i64 0, zR] := by rw [hw1, hZ]; exact zA _ _ _ _ (by simp)
 have hz1 : w1.heap.size = Z + 3 := by rw [hw1, hZ]; simp
 have X1 := h.below bw
 have F1 := Lib.hid (show Fr T (zH T w.heap.size (t + 2)) (H2 t) w w1 from Fr.new bw _)
 have TG := Lib.hid (show zH T w.heap.size (t + 2) Z = t + 2 ∧ zH T w.heap.size (t + 2) (Z + 1) = t + 2 ∧ zH T w.heap.size (t + 2) (Z + 2) = t + 2 from ⟨zN (by omega), zN (by omega), zN (by omega)⟩)
 obtain ⟨T1, hT1⟩ : ∃ T1, T1 = zH T w.heap.size (t + 2) := ⟨_, rfl⟩
 rw [← hT1] at X1 F1 TG
 have HZ := Lib.hid hZ
 have ht := h.t0
 have H8 := Lib.hid (replyOf_any T1 t B (apX x c) (apR x c) ht 36 #[.pointer (some ⟨Z + 1, 0, none⟩), .pointer (some ⟨Z, 0, none⟩)] w1 (entr (fn := Tryz.f36) (by kernel_rfl) (by kernel_rfl) (by kernel_rfl)) fun W hW =>
  pap1_any (zH T1 w1.heap.size (t + 2)) t B tc x c A A' a a' (Z + 1) Z W (X1.below hW) (zC hW rc) (zC hW rs) (.inr (by rw [zJ (by omega)]; exact TG.out.2.1)) (.inr (by rw [zJ (by omega)]; exact TG.out.1)))
 have RR := Lib.hid rr
 have hmf : ∀ (fn : Fn) (first cap : Array Value) (w : World), (Instr.makeFunc fn first cap).run Tryz.prog w = .ok (.func fn first cap) w := fun _ _ _ _ => rfl
 clear h bw rs rc rr hT1 hZ X1
 go_enter Tryz.func15, Tryz.ntmps15
 go_upto_region 1 with fail
 rw [← hw1, ← HZ.out]
 clear hw1
 go_wp2_with fail
 refine H8.out.mono ?_
 rintro e w2 ⟨T2, hf, hst, A5, k5, rfl, hrd⟩
 have r2 := hf.rowAt RR.out (by rw [TG.out.2.2]; exact xI)
 have t2 : T2 (Z + 2) = t + 2 := by rw [hf.tag _ (by omega)]; exact TG.out.2.2
 obtain ⟨r, hr⟩ : ∃ r, r = apR x c := ⟨_, rfl⟩
 rw [← hr] at hrd ⊢
 have HRR := Lib.hid hr
 have HF := Lib.hid (F1.out.trans hf)
 have HS := Lib.hid hst
 have HRD := Lib.hid hrd
 clear hf hst hrd hr H8
 rw [show Z + 1 + 1 = Z + 2 from rfl]
 go_wp2_with fail
 have G := Fr.row (T := T2) (H := fun c => c = t + 2) (w := w2) (B := Z + 2) t2 #[.int .i64 r.c, .int .i64 r.n, .int .i64 r.m, .slice A5 r.T k5]
 refine bodyPost_ret (v := rpV r A5 k5) (yV Tryz.results15 _ _ (Z + 2) _ _ rfl (zD r2 _) Tryz.underlying33 rfl (by kernel_rfl)) rfl ?_
 rw [← HRR.out]
 exact ⟨_, HF.out.up (b := Z + 2) (by have := HZ.out; omega) _, HS.out.fr G (by omega) (by omega) (by omega), A5, k5, rfl, HRD.out.fr G (by omega)⟩
end Go.Proofs.YteffjpdcghlnlaaGreatDoor.Oct
