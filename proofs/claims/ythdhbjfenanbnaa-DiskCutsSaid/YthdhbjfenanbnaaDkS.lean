/- Strings of bytes as lists; a disk that has power. -/
import Derived.Test.YthdhbjfenanbnaaDkR
namespace Go.Proofs.Ythdhbjfenanbnaa.Oct
open Go.ChangeShapes Go.WideShapes Go.ChangeAt Go.RowKit
set_option linter.unusedVariables false

/-- a list of bytes as a string -/
def str (l : By) : ByteArray := strOf l.length (lf l)
theorem str_len (l : By) : (str l).size = l.length := str_size _ _
theorem str_app (a b : By) : str a ++ str b = str (a ++ b) := by
  have h : ((List.range a.length).map fun i => UInt8.ofNat (lf a i).toNat) ++ ((List.range b.length).map fun i => UInt8.ofNat (lf b i).toNat) = (List.range (a.length + b.length)).map fun i => UInt8.ofNat (lf (a ++ b) i).toNat := by
    rw [List.range_add, List.map_append, List.map_map]
    congr 1
    · apply List.map_congr_left
      intro i hi
      have := List.mem_range.1 hi
      rw [lf_app]
      simp [catF, this]
    · apply List.map_congr_left
      intro i _
      simp only [Function.comp]
      rw [lf_app]
      simp only [catF]
      rw [if_neg (by omega), Nat.add_sub_cancel_left]
  unfold str strOf
  rw [List.length_append, ← h]
  apply ByteArray.ext
  simp
theorem str_one {a b : By} (h : str a = str b) : a = b := by
  have hl : a.length = b.length := by rw [← str_len, ← str_len, h]
  unfold str at h
  rw [← hl] at h
  exact lf_inj hl (str_inj h)
theorem str_mk (l : By) : str l = ⟨(l.map fun x => UInt8.ofNat x.toNat).toArray⟩ := by
  unfold str strOf
  congr 2
  apply List.ext_getElem (by simp)
  intro i h1 h2
  have hi : i < l.length := by simpa using h2
  simp only [List.getElem_map, List.getElem_range]
  unfold lf
  simp [List.getD_eq_getElem?_getD, hi]
theorem str_take (l : By) (k : Nat) : (str l).extract 0 k = str (l.take k) := by
  rw [str_mk, str_mk, ByteArray.extract_mk]
  congr 1
  simp
/-- a string's beginning -/
theorem run_strUpto {P : Program} {t : TypeId} (ht : P.underlying t = some .string) (l : By) (k : Nat) (hk : k ≤ l.length) (w : World) : (Instr.slice t (.string (str l)) none (some (.int .i64 (k : Int))) none).run P w = .ok (.string (str (l.take k))) w := by
  rw [run_slice_string_h w t _ ht .i64 k (by omega) (by rw [str_len]; omega), Int.toNat_natCast, str_take]
/-- bytes that came in, as a list -/
theorem sl_bl {w : World} {B n c : Nat} {A : Option Addr} {f : Bf} (h : Sl w B A n c f) : Sl w B A n c (lf (bl n f)) := h.congr fun i hi => (lf_bl n f i hi).symm
theorem RdS.conv {T : Mk} {w : World} {t c : Nat} {A : Option Addr} {l : By} (h : RdS T w t A l.length c (lf l)) : (convert 29 9 (.slice A l.length c)).run Try.prog w = .ok (.string (str l)) w := run_str (P := Try.prog) sli_u u8_u str_u h.sl
theorem RdS.convT {T : Mk} {w : World} {t c : Nat} {A : Option Addr} {l : By} (h : RdS T w t A l.length c (lf l)) (k : Nat) (hk : k ≤ l.length) : (convert 29 9 (.slice A k c)).run Try.prog w = .ok (.string (str (l.take k))) w := by
  have hl : (l.take k).length = k := by rw [List.length_take]; omega
  have h2 := (h.upto k hk).congr (g := lf (l.take k)) fun i hi => (lf_take l k i hi).symm
  rw [run_str (P := Try.prog) sli_u u8_u str_u h2.sl]
  unfold str
  rw [hl]
/-- the power is on, and there is no fuse -/
structure Dk.live (d : Dk) : Prop where
  off : d.off = false
  u : d.u = none
theorem Dk.live.alive {d : Dk} (h : d.live) : ¬ d.dead := fun e => by rcases e with e | e; rw [h.off] at e; cases e; rw [h.u] at e; cases e
theorem live_new : newD.live := ⟨rfl, rfl⟩
theorem Dk.live.done {d : Dk} (h : d.live) (i : Nat) (x : Fl) : (d.done i x).live := ⟨h.off, by show d.u.map _ = none; rw [h.u]; rfl⟩
theorem live_boot (d : Dk) (g : Nat → Nat) : (d.boot g).live := ⟨rfl, rfl⟩
theorem done_f (d : Dk) (i : Nat) (x : Fl) : (d.done i x).f i = x := updD_same _ _ _
theorem done_oth (d : Dk) {i j : Nat} (x : Fl) (h : j ≠ i) : (d.done i x).f j = d.f j := updD_other _ _ h
theorem done_n (d : Dk) (i : Nat) (x : Fl) : (d.done i x).n = d.n + 1 := rfl
theorem app_live {d : Dk} (h : d.live) (i : Nat) (b : By) (hl : (d.f i).all.length + b.length ≤ maxF) : d.app i b = (0, d.done i ((d.f i).app b)) := by
  unfold Dk.app
  rw [if_neg h.alive, if_neg (by omega)]
theorem cut_live {d : Dk} (h : d.live) (i : Nat) (k : Int) (hk : ¬ (k < 0 ∨ ((d.f i).all.length : Int) < k)) : d.cut i k = (0, d.done i ((d.f i).cut k.toNat)) := by
  unfold Dk.cut
  rw [if_neg hk, if_neg h.alive]
theorem sync_live {d : Dk} (h : d.live) (i : Nat) : d.sync i = (0, d.done i (d.f i).sync) := by
  unfold Dk.sync
  rw [if_neg h.alive]
theorem on_in {d : Dk} {g : Nat → Nat × Dk} (F : Nat) (h : F < 4) : onF (F : Int) d g = g F := by
  unfold onF
  rw [if_pos ⟨by omega, by omega⟩, Int.toNat_natCast]
theorem read_live {d : Dk} (h : d.off = false) (F : Nat) (hF : F < 4) : d.read (F : Int) = (0, (d.f F).all) := by
  unfold Dk.read
  rw [if_pos ⟨by omega, by omega⟩, if_neg (by rw [h]; simp), Int.toNat_natCast]
/-- DiskCuts, by the numbers -/
theorem cuts_model (b c : By) (z : Int) (hb : b.length ≤ 100) (hc : c.length ≤ 100) (d1 d2 d3 : Dk) (e : Nat) (h1 : d1 = (onF 3 newD fun i => newD.app i b).2) (h2 : (e, d2) = onF 3 d1 fun i => d1.cut i z) (h3 : d3 = (onF 3 d2 fun i => d2.app i c).2) :
    d1.n < 1000000000000 ∧ d2.n < 1000000000000 ∧ d3.n < 1000000000000 ∧ ((z < 0 ∨ (b.length : Int) < z) → e = 1 ∧ d3.read 3 = (0, b ++ c)) ∧ (¬ (z < 0 ∨ (b.length : Int) < z) → e = 0 ∧ d3.read 3 = (0, b.take z.toNat ++ c)) := by
  have hM := maxF_eq
  have e1 : d1 = newD.done 3 ((newD.f 3).app b) := by
    rw [h1, show (3 : Int) = ((3 : Nat) : Int) from rfl, on_in 3 (by omega), app_live live_new 3 b (by show ([] : By).length + _ ≤ _; simp; omega)]
  have a1 : (d1.f 3).all = b := by rw [e1, done_f, Fl.all_app]; rfl
  have l1 : d1.live := by rw [e1]; exact live_new.done _ _
  have n1 : d1.n = 1 := by rw [e1]; rfl
  have key : ∀ (d : Dk) (x : By), d.live → (d.f 3).all = x → x.length ≤ 100 → (onF 3 d fun i => d.app i c).2.read 3 = (0, x ++ c) ∧ (onF 3 d fun i => d.app i c).2.n = d.n + 1 := fun d x hl hx hxl => by
    rw [show (3 : Int) = ((3 : Nat) : Int) from rfl, on_in 3 (by omega), app_live hl 3 c (by rw [hx]; omega)]
    refine ⟨?_, rfl⟩
    rw [read_live (hl.done _ _).off 3 (by omega), done_f, Fl.all_app, hx]
  rw [show (3 : Int) = ((3 : Nat) : Int) from rfl, on_in 3 (by omega)] at h2
  by_cases hz : z < 0 ∨ (b.length : Int) < z
  · have e2 : d1.cut 3 z = (1, d1) := by unfold Dk.cut; rw [if_pos (by rw [a1]; exact hz)]
    rw [e2] at h2
    cases h2
    have := key d1 b l1 a1 hb
    rw [← h3] at this
    exact ⟨by omega, by omega, by omega, fun _ => ⟨rfl, this.1⟩, fun h => absurd hz h⟩
  · have e2 := cut_live l1 3 z (by rw [a1]; exact hz)
    rw [e2] at h2
    cases h2
    have := key (d1.done 3 ((d1.f 3).cut z.toNat)) (b.take z.toNat) (l1.done _ _) (by rw [done_f, Fl.all_cut, a1]) (by rw [List.length_take]; omega)
    rw [← h3] at this
    have hn := done_n d1 3 ((d1.f 3).cut z.toNat)
    exact ⟨by omega, by omega, by omega, fun h => absurd h hz, fun _ => ⟨rfl, this.1⟩⟩
/-- numbers that came in to a law -/
theorem Sn.ints {W w : World} {T : Mk} {t B n c : Nat} {d : Dk} {A : Option Addr} {a : Nat → Int} (h : Sn W T w t B d) (hs : SlG W W.heap.size A n c (iV a)) (hr : ∀ j, j < n → -9223372036854775808 ≤ a j ∧ a j < 9223372036854775808) : Ints T w A n c a :=
  ⟨(hs.below h.bel).more h.bel.size, fun hn ad ha => by
    obtain ⟨g, o, e, hg, -⟩ := hs.at_ hn
    rw [e] at ha
    cases ha
    exact h.low g hg, hr⟩
end Go.Proofs.Ythdhbjfenanbnaa.Oct
