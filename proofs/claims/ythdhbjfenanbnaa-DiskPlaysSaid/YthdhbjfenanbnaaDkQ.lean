/- What the statements of layer 10 share: few, kind; a disk on the way of a law. -/
import Derived.Test.YthdhbjfenanbnaaDkP
namespace Go.Proofs.Ythdhbjfenanbnaa.Oct
open Go.ChangeShapes Go.WideShapes Go.ChangeAt Go.RowKit
set_option linter.unusedVariables false

theorem few_any (A : Option Addr) (n c : Nat) (h : n ≤ c) (hc : c ≤ maxLen) (w : World) :
    Calls Try.prog 20 #[.slice A n c] w fun e w' => e = .returned (.slice A (min n 100) c) ∧ w = w' := by
  unfold maxLen at hc
  by_cases hlt : 100 < n
  · have hd : decide ((100 : Int) < (n : Int)) = true := by simp; omega
    have hup := run_upto sli_u u8_i A n c 100 (by omega)
    rw [show min n 100 = 100 by omega]
    go_enter Try.func20, Try.ntmps20
    go_wp2
    go_ret
    exact ⟨rfl, rfl⟩
  · have hd : decide ((100 : Int) < (n : Int)) = false := by simp; omega
    rw [show min n 100 = n by omega]
    go_enter Try.func20, Try.ntmps20
    go_wp2
    go_ret
    exact ⟨rfl, rfl⟩
/-- which of n kinds -/
def knd (x : Int) (n : Nat) : Nat := (if x < 0 then -(x + 1) else x).toNat % n
theorem knd_lt (x : Int) {n : Nat} (hn : 0 < n) : knd x n < n := Nat.mod_lt _ hn
theorem kind_any (x : Int) (n : Nat) (hx : (Lit.int .i64 x).wf = true) (hn : 0 < n) (hn2 : n ≤ 100000) (w : World) :
    Calls Try.prog 11 #[.int .i64 x, .int .i64 (n : Int)] w fun e w' => e = .returned (.int .i64 ((knd x n : Nat) : Int)) ∧ w = w' := by
  have hb := bounds_i64 hx
  by_cases h0 : x < 0
  · have hd : decide (x < 0) = true := by simpa using h0
    have hk : (-(x + 1)).tmod (n : Int) = ((knd x n : Nat) : Int) := by
      unfold knd
      rw [if_pos h0, Int.tmod_eq_emod_of_nonneg (by omega)]
      obtain ⟨y, hy⟩ : ∃ y : Nat, -(x + 1) = (y : Int) := ⟨(-(x + 1)).toNat, by omega⟩
      rw [hy, Int.toNat_natCast]
      rfl
    have HK := Lib.hid (show -((x + 1).tmod (n : Int)) = ((knd x n : Nat) : Int) by rw [← hk, Int.neg_tmod])
    clear hk hx
    go_enter Try.func11, Try.ntmps11
    go_wp2
    go_ret
    exact ⟨by rw [HK.out]; rfl, rfl⟩
  · have hd : decide (x < 0) = false := by simp; omega
    have hk : x.tmod (n : Int) = ((knd x n : Nat) : Int) := by
      unfold knd
      rw [if_neg h0, Int.tmod_eq_emod_of_nonneg (by omega)]
      obtain ⟨y, hy⟩ : ∃ y : Nat, x = (y : Int) := ⟨x.toNat, by omega⟩
      rw [hy, Int.toNat_natCast]
      rfl
    have HK := Lib.hid (show x % (n : Int) = ((knd x n : Nat) : Int) by rw [← hk, Int.tmod_eq_emod_of_nonneg (by omega)])
    clear hk hx
    go_enter Try.func11, Try.ntmps11
    go_wp2
    go_ret
    exact ⟨by rw [HK.out]; rfl, rfl⟩
/-- a disk on the way: what was there ahead of the law has mark 0 and is as it was -/
structure Sn (W : World) (T : Mk) (w : World) (t B : Nat) (d : Dk) : Prop where
  low : ∀ k, k < W.heap.size → T k = 0
  bel : Below W.heap.size W w
  at_ : DkAt T w t B d
  ok : d.ok
section
variable {W : World} {T T' : Mk} {w w' : World} {t B : Nat} {d d' : Dk}
theorem Sn.fr {H : Nat → Prop} {t' B' : Nat} (h : Sn W T w t B d) (hf : Fr T T' H w w') (h0 : ¬ H 0) (hd : DkAt T' w' t' B' d') (hk : d'.ok) : Sn W T' w' t' B' d' :=
  ⟨fun k hk => by rw [hf.tag k (by have := h.bel.size; omega)]; exact h.low k hk, h.bel.trans (hf.below h.bel.size (fun k hk => by rw [h.low k hk]; exact h0)), hd, hk⟩
theorem Hs_0 {t : Nat} (ht : 0 < t) : ¬ Hs t 0 := fun h => by have := h.1; omega
theorem Sn.calm (h : Sn W T w t B d) (hb : Below w.heap.size w w') (c : Nat) : Sn W (paint T w.heap.size c) w' t B d :=
  h.fr (Fr.new (H := fun _ => False) hb c) (fun e => e) (h.at_.fr (Fr.new (H := fun _ => False) hb c) (fun _ _ e => e) (fun e => e)) h.ok
/-- others change what is theirs -/
theorem Sn.other {H : Nat → Prop} (h : Sn W T w t B d) (hf : Fr T T' H w w') (hn : ∀ c, Hs t c → ¬ H c) (h0 : ¬ H 0) : Sn W T' w' t B d := h.fr hf h0 (h.at_.fr hf hn h0) h.ok
theorem p_new (hW : ∀ k, k < W.heap.size → T k = 0) (hb : Below W.heap.size W w) (t : Nat) : Calls Try.prog 9 #[] w fun e w' => e = .returned (.pointer (some ⟨w.heap.size, 0, none⟩)) ∧ Below w.heap.size w w' ∧ Sn W (paint T w.heap.size t) w' t w.heap.size newD :=
  (new_any T t w).mono fun e w' ⟨h1, h2, h3⟩ => ⟨h1, h2, fun k hk => by rw [paint_old (by have := hb.size; omega)]; exact hW k hk, onto hb hb.size h2, h3, Dk.ok.new⟩
theorem p_append (h : Sn W T w t B d) (ht : 0 < t) (hn : d.n < 1000000000000) {n c : Nat} {A : Option Addr} {b : By} {f : Int} (hnb : n = b.length) (hs : Sl w w.heap.size A n c (lf b)) (hn2 : n ≤ 140737488355328) :
    Calls Try.prog 13 #[.pointer (some ⟨B, 0, none⟩), .int .i64 f, .slice A n c] w fun e w' => e = .returned (.int .i64 ((onF f d fun i => d.app i b).1 : Int)) ∧ ∃ T', Fr T T' (Hs t) w w' ∧ Sn W T' w' t B (onF f d fun i => d.app i b).2 :=
  (append_any T t B n c A b d f w h.at_ h.ok ht hn hnb hs hn2).mono fun e w' ⟨h1, T', h2, h3⟩ => ⟨h1, T', h2, h.fr h2 (Hs_0 ht) h3 (onF_ok h.ok fun i hi => h.ok.app hi b)⟩
theorem p_cut (h : Sn W T w t B d) (ht : 0 < t) (hn : d.n < 1000000000000) (f z : Int) :
    Calls Try.prog 23 #[.pointer (some ⟨B, 0, none⟩), .int .i64 f, .int .i64 z] w fun e w' => e = .returned (.int .i64 ((onF f d fun i => d.cut i z).1 : Int)) ∧ ∃ T', Fr T T' (Hs t) w w' ∧ Sn W T' w' t B (onF f d fun i => d.cut i z).2 :=
  (cut_any T t B d f z w h.at_ h.ok ht hn).mono fun e w' ⟨h1, T', h2, h3⟩ => ⟨h1, T', h2, h.fr h2 (Hs_0 ht) h3 (onF_ok h.ok fun i hi => h.ok.cut hi z)⟩
theorem p_sync (h : Sn W T w t B d) (ht : 0 < t) (hn : d.n < 1000000000000) (f : Int) :
    Calls Try.prog 21 #[.pointer (some ⟨B, 0, none⟩), .int .i64 f] w fun e w' => e = .returned (.int .i64 ((onF f d fun i => d.sync i).1 : Int)) ∧ ∃ T', Fr T T' (Hs t) w w' ∧ Sn W T' w' t B (onF f d fun i => d.sync i).2 :=
  (sync_any T t B d f w h.at_ h.ok ht hn).mono fun e w' ⟨h1, T', h2, h3⟩ => ⟨h1, T', h2, h.fr h2 (Hs_0 ht) h3 (onF_ok h.ok fun i hi => h.ok.sync hi)⟩
theorem p_fuse (h : Sn W T w t B d) (ht : 0 < t) {n : Int} (hn : -9223372036854775808 ≤ n ∧ n < 9223372036854775808) :
    Calls Try.prog 22 #[.pointer (some ⟨B, 0, none⟩), .int .i64 n] w fun e w' => e = .returned (.tuple #[]) ∧ Fr T T (Hs t) w w' ∧ Sn W T w' t B (d.fuse n) :=
  (fuse_any T t B d n w h.at_ ht hn).mono fun e w' ⟨h1, h2, h3⟩ => by
    have h2' : Fr T T (Hs t) w w' := h2.mono fun y hy => by subst hy; exact ⟨Nat.le_refl _, by omega⟩
    exact ⟨h1, h2', h.fr h2' (Hs_0 ht) h3 (h.ok.fuse n)⟩
theorem p_boot (h : Sn W T w t B d) (ht : 0 < t) (hn : d.n < 1000000000000) {n c : Nat} {A : Option Addr} {a : Nat → Int} (hs : Ints T w A n c a) :
    Calls Try.prog 14 #[.pointer (some ⟨B, 0, none⟩), .slice A n c] w fun e w' => e = .returned (.tuple #[]) ∧ ∃ T', Fr T T' (Hs t) w w' ∧ Sn W T' w' t B (d.boot (pck a n)) :=
  (boot_any T t B n c A a d w h.at_ h.ok ht hn hs).mono fun e w' ⟨h1, T', h2, h3⟩ => ⟨h1, T', h2, h.fr h2 (Hs_0 ht) h3 (h.ok.boot _)⟩
theorem p_read (h : Sn W T w t B d) (hn : d.n < 1000000000000) (f : Int) (c : Nat) :
    Calls Try.prog 18 #[.pointer (some ⟨B, 0, none⟩), .int .i64 f] w fun e w' => ∃ v, e = .returned (.tuple #[v, .int .i64 ((d.read f).1 : Int)]) ∧ OwB (paint T w.heap.size c) w' c 5 v (d.read f).2 ∧ Below w.heap.size w w' ∧ Sn W (paint T w.heap.size c) w' t B d :=
  (read_any T t B d f w h.at_ (fun i hi => by have := h.ok.few i hi; omega)).mono fun e w' ⟨v, h1, h2, h3⟩ => ⟨v, h1, OwB.of_new h2 rfl (fun _ _ => rfl) T c, h3, h.calm h3 c⟩
theorem p_on (h : Sn W T w t B d) : Calls Try.prog 16 #[.pointer (some ⟨B, 0, none⟩)] w fun e w' => e = .returned (.bool (!d.off)) ∧ w = w' := on_any T t B d w h.at_
theorem p_steps (h : Sn W T w t B d) : Calls Try.prog 17 #[.pointer (some ⟨B, 0, none⟩)] w fun e w' => e = .returned (.int .i64 (d.n : Int)) ∧ w = w' := steps_any T t B d w h.at_
theorem p_clone (h : Sn W T w t B d) {t2 : Nat} (ht : 0 < t2) (hn : d.n < 1000000000000) :
    Calls Try.prog 12 #[.pointer (some ⟨B, 0, none⟩)] w fun e w' => ∃ T' B', e = .returned (.pointer (some ⟨B', 0, none⟩)) ∧ Fr T T' (fun _ => False) w w' ∧ Sn W T' w' t B d ∧ Sn W T' w' t2 B' d :=
  (dclone_any T t t2 B d w h.at_ h.ok ht hn).mono fun e w' ⟨T', B', h1, h2, h3, h4, h5⟩ => by
    have hf := Fr.calm (H := fun _ => False) h3 h2
    exact ⟨T', B', h1, hf, h.fr hf (fun e => e) (h.at_.fr hf (fun _ _ e => e) (fun e => e)) h.ok, h.fr hf (fun e => e) h5 h.ok⟩
end
end Go.Proofs.Ythdhbjfenanbnaa.Oct
