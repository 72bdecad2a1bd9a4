/- A disk and its reference, side by side. -/
import Derived.Test.YthdhbjfenanbnaaDkZd
import Derived.Test.YthdhbjfenanbnaaDkX
import Derived.Test.YthdhbjfenanbnaaFlowE
namespace Go.Proofs.Ythdhbjfenanbnaa.Oct
open Go.ChangeShapes Go.WideShapes Go.ChangeAt Go.RowKit
set_option linter.unusedVariables false

structure Sp (W : World) (T : Mk) (w : World) (t B R : Nat) (d e : Dk) : Prop where
  sn : Sn W T w t B d
  rk : RkAt T w 30 R e
  ek : e.ok
  t0 : 0 < t
  t1 : t ≤ 20
section
variable {W : World} {T T' : Mk} {w w' : World} {t B R : Nat} {d d' e e' : Dk}
theorem Sp.other {H : Nat → Prop} (h : Sp W T w t B R d e) (hf : Fr T T' H w w') (hH : ∀ c, H c → 39 ≤ c) : Sp W T' w' t B R d e :=
  ⟨h.sn.other hf (fun c hc he => by have := hH c he; have := hc.2; have := h.t1; omega) (fun he => by have := hH 0 he; omega), h.rk.fr hf (fun c hc he => by have := hH c he; have := hc.2; omega) (fun he => by have := hH 0 he; omega), h.ek, h.t0, h.t1⟩
theorem Sp.calm (h : Sp W T w t B R d e) (hb : Below w.heap.size w w') (c : Nat) : Sp W (paint T w.heap.size c) w' t B R d e := h.other (H := fun _ => False) (Fr.new hb c) (fun _ e => e.elim)
theorem Sp.dside (h : Sp W T w t B R d e) (hf : Fr T T' (Hs t) w w') (hs : Sn W T' w' t B d') : Sp W T' w' t B R d' e :=
  ⟨hs, h.rk.fr hf (fun c hc he => by have h1 := hc.1; have h2 := he.2; have := h.t1; omega) (Hs_0 h.t0), h.ek, h.t0, h.t1⟩
theorem Sp.rside (h : Sp W T w t B R d e) (hf : Fr T T' (Hs 30) w w') (hs : RkAt T' w' 30 R e') (hk : e'.ok) : Sp W T' w' t B R d e' :=
  ⟨h.sn.other hf (fun c hc he => by have h1 := hc.2; have h2 := he.1; have := h.t1; omega) (Hs_0 (by omega)), hs, hk, h.t0, h.t1⟩
theorem s_append (h : Sp W T w t B R d e) (hn : d.n < 1000000000000) {n c : Nat} {A : Option Addr} {b : By} {f : Int} (hnb : n = b.length) (hs : Sl w w.heap.size A n c (lf b)) (hn2 : n ≤ 140737488355328) :
    Calls Try.prog 13 #[.pointer (some ⟨B, 0, none⟩), .int .i64 f, .slice A n c] w fun x w' => x = .returned (.int .i64 ((onF f d fun i => d.app i b).1 : Int)) ∧ ∃ T', Fr T T' (Hs t) w w' ∧ Sp W T' w' t B R (onF f d fun i => d.app i b).2 e :=
  (p_append h.sn h.t0 hn hnb hs hn2).mono fun x w' ⟨h1, T', h2, h3⟩ => ⟨h1, T', h2, h.dside h2 h3⟩
theorem s_cut (h : Sp W T w t B R d e) (hn : d.n < 1000000000000) (f z : Int) :
    Calls Try.prog 23 #[.pointer (some ⟨B, 0, none⟩), .int .i64 f, .int .i64 z] w fun x w' => x = .returned (.int .i64 ((onF f d fun i => d.cut i z).1 : Int)) ∧ ∃ T', Fr T T' (Hs t) w w' ∧ Sp W T' w' t B R (onF f d fun i => d.cut i z).2 e :=
  (p_cut h.sn h.t0 hn f z).mono fun x w' ⟨h1, T', h2, h3⟩ => ⟨h1, T', h2, h.dside h2 h3⟩
theorem s_sync (h : Sp W T w t B R d e) (hn : d.n < 1000000000000) (f : Int) :
    Calls Try.prog 21 #[.pointer (some ⟨B, 0, none⟩), .int .i64 f] w fun x w' => x = .returned (.int .i64 ((onF f d fun i => d.sync i).1 : Int)) ∧ ∃ T', Fr T T' (Hs t) w w' ∧ Sp W T' w' t B R (onF f d fun i => d.sync i).2 e :=
  (p_sync h.sn h.t0 hn f).mono fun x w' ⟨h1, T', h2, h3⟩ => ⟨h1, T', h2, h.dside h2 h3⟩
theorem s_fuse (h : Sp W T w t B R d e) {n : Int} (hn : -9223372036854775808 ≤ n ∧ n < 9223372036854775808) :
    Calls Try.prog 22 #[.pointer (some ⟨B, 0, none⟩), .int .i64 n] w fun x w' => x = .returned (.tuple #[]) ∧ ∃ T', Fr T T' (Hs t) w w' ∧ Sp W T' w' t B R (d.fuse n) e :=
  (p_fuse h.sn h.t0 hn).mono fun x w' ⟨h1, h2, h3⟩ => ⟨h1, T, h2, h.dside h2 h3⟩
theorem s_boot (h : Sp W T w t B R d e) (hn : d.n < 1000000000000) {n c : Nat} {A : Option Addr} {a : Nat → Int} (hs : Ints T w A n c a) :
    Calls Try.prog 14 #[.pointer (some ⟨B, 0, none⟩), .slice A n c] w fun x w' => x = .returned (.tuple #[]) ∧ ∃ T', Fr T T' (Hs t) w w' ∧ Sp W T' w' t B R (d.boot (pck a n)) e :=
  (p_boot h.sn h.t0 hn hs).mono fun x w' ⟨h1, T', h2, h3⟩ => ⟨h1, T', h2, h.dside h2 h3⟩
theorem y_append (h : Sp W T w t B R d e) (hn : e.n < 1000000000000) {n c : Nat} {A : Option Addr} {b : By} {f : Int} (hnb : n = b.length) (hs : RdS T w 0 A n c (lf b)) (hn2 : n ≤ 140737488355328) :
    Calls Try.prog 33 #[.pointer (some ⟨R, 0, none⟩), .int .i64 f, .slice A n c] w fun x w' => x = .returned (.int .i64 ((onF f e fun i => e.app i b).1 : Int)) ∧ ∃ T', Fr T T' (Hs 30) w w' ∧ Sp W T' w' t B R d (onF f e fun i => e.app i b).2 :=
  (rappend_any T 30 R n c A b e f w h.rk h.ek (by omega) hn hnb hs hn2).mono fun x w' ⟨h1, T', h2, h3⟩ => ⟨h1, T', h2, h.rside h2 h3 (onF_ok h.ek fun i hi => h.ek.app hi b)⟩
theorem y_cut (h : Sp W T w t B R d e) (hn : e.n < 1000000000000) (f z : Int) :
    Calls Try.prog 34 #[.pointer (some ⟨R, 0, none⟩), .int .i64 f, .int .i64 z] w fun x w' => x = .returned (.int .i64 ((onF f e fun i => e.cut i z).1 : Int)) ∧ ∃ T', Fr T T' (Hs 30) w w' ∧ Sp W T' w' t B R d (onF f e fun i => e.cut i z).2 :=
  (rcut_any T 30 R e f z w h.rk h.ek (by omega) hn).mono fun x w' ⟨h1, T', h2, h3⟩ => ⟨h1, T', h2, h.rside h2 h3 (onF_ok h.ek fun i hi => h.ek.cut hi z)⟩
theorem y_sync (h : Sp W T w t B R d e) (hn : e.n < 1000000000000) (f : Int) :
    Calls Try.prog 35 #[.pointer (some ⟨R, 0, none⟩), .int .i64 f] w fun x w' => x = .returned (.int .i64 ((onF f e fun i => e.sync i).1 : Int)) ∧ ∃ T', Fr T T' (Hs 30) w w' ∧ Sp W T' w' t B R d (onF f e fun i => e.sync i).2 :=
  (rsync_any T 30 R e f w h.rk h.ek (by omega) hn).mono fun x w' ⟨h1, T', h2, h3⟩ => ⟨h1, T', h2, h.rside h2 h3 (onF_ok h.ek fun i hi => h.ek.sync hi)⟩
theorem y_fuse (h : Sp W T w t B R d e) {n : Int} (hn : -9223372036854775808 ≤ n ∧ n < 9223372036854775808) :
    Calls Try.prog 36 #[.pointer (some ⟨R, 0, none⟩), .int .i64 n] w fun x w' => x = .returned (.tuple #[]) ∧ ∃ T', Fr T T' (Hs 30) w w' ∧ Sp W T' w' t B R d (e.fuse n) :=
  (rfuse_any T 30 R e n w h.rk (by omega) hn).mono fun x w' ⟨h1, h2, h3⟩ => ⟨h1, T, RkAt.hs h2, h.rside (RkAt.hs h2) h3 (h.ek.fuse n)⟩
theorem y_boot (h : Sp W T w t B R d e) (hn : e.n < 1000000000000) {n c : Nat} {A : Option Addr} {a : Nat → Int} (hs : Ints T w A n c a) :
    Calls Try.prog 37 #[.pointer (some ⟨R, 0, none⟩), .slice A n c] w fun x w' => x = .returned (.tuple #[]) ∧ ∃ T', Fr T T' (Hs 30) w w' ∧ Sp W T' w' t B R d (e.boot (pck a n)) :=
  (rboot_any T 30 R n c A a e w h.rk h.ek (by omega) hn hs).mono fun x w' ⟨h1, T', h2, h3⟩ => ⟨h1, T', h2, h.rside h2 h3 (h.ek.boot _)⟩
theorem y_read (h : Sp W T w t B R d e) (hn : e.n < 1000000000000) (f : Int) (c : Nat) :
    Calls Try.prog 19 #[.pointer (some ⟨R, 0, none⟩), .int .i64 f] w fun x w' => ∃ v, x = .returned (.tuple #[v, .int .i64 ((e.read f).1 : Int)]) ∧ OwB (paint T w.heap.size c) w' c 5 v (e.read f).2 ∧ Below w.heap.size w w' ∧ Sp W (paint T w.heap.size c) w' t B R d e :=
  (rread_any T 30 R e f w h.rk (fun i hi => by have := h.ek.few i hi; omega)).mono fun x w' ⟨v, h1, h2, h3⟩ => ⟨v, h1, OwB.of_new h2 rfl (fun _ _ => rfl) T c, h3, h.calm h3 c⟩
theorem s_read (h : Sp W T w t B R d e) (hn : d.n < 1000000000000) (f : Int) (c : Nat) :
    Calls Try.prog 18 #[.pointer (some ⟨B, 0, none⟩), .int .i64 f] w fun x w' => ∃ v, x = .returned (.tuple #[v, .int .i64 ((d.read f).1 : Int)]) ∧ OwB (paint T w.heap.size c) w' c 5 v (d.read f).2 ∧ Below w.heap.size w w' ∧ Sp W (paint T w.heap.size c) w' t B R d e :=
  (p_read h.sn hn f c).mono fun x w' ⟨v, h1, h2, h3, h4⟩ => ⟨v, h1, h2, h3, h.calm h3 c⟩
end
/-- a pair, and an op in a block -/
structure Sz (W : World) (T : Mk) (w : World) (t B R : Nat) (d e : Dk) (Z : Nat) (c : Array Value) : Prop where
  sp : Sp W T w t B R d e
  row : Oct.row w Z = some c
  tz : T Z = 0
section
variable {W : World} {T T' : Mk} {w w' : World} {t B R Z : Nat} {d d' e e' : Dk} {c : Array Value}
theorem Sz.calm (h : Sz W T w t B R d e Z c) (hb : Below w.heap.size w w') (m : Nat) : Sz W (paint T w.heap.size m) w' t B R d e Z c :=
  ⟨h.sp.calm hb m, carry hb h.row, by rw [paint_old (row_lt h.row)]; exact h.tz⟩
theorem Sz.other {H : Nat → Prop} (h : Sz W T w t B R d e Z c) (hf : Fr T T' H w w') (hH : ∀ c, H c → 39 ≤ c) : Sz W T' w' t B R d e Z c :=
  ⟨h.sp.other hf hH, hf.rowAt h.row (by rw [h.tz]; exact fun he => by have := hH 0 he; omega), by rw [hf.tag Z (row_lt h.row)]; exact h.tz⟩
theorem Sz.dcall (h : Sz W T w t B R d e Z c) (hf : Fr T T' (Hs t) w w') (hs : Sp W T' w' t B R d' e) : Sz W T' w' t B R d' e Z c :=
  ⟨hs, hf.rowAt h.row (by rw [h.tz]; exact Hs_0 h.sp.t0), by rw [hf.tag Z (row_lt h.row)]; exact h.tz⟩
theorem Sz.rcall (h : Sz W T w t B R d e Z c) (hf : Fr T T' (Hs 30) w w') (hs : Sp W T' w' t B R d e') : Sz W T' w' t B R d e' Z c :=
  ⟨hs, hf.rowAt h.row (by rw [h.tz]; exact Hs_0 (by omega)), by rw [hf.tag Z (row_lt h.row)]; exact h.tz⟩
end
end Go.Proofs.Ythdhbjfenanbnaa.Oct
