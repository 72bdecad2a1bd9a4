import Derived.Test.YteffjpdcghlnlaaGreatDoorZcStB3
import Derived.Test.YteffjpdcghlnlaaGreatDoorZcRfd
set_option linter.unusedVariables false
set_option linter.unusedSimpArgs false
namespace Go.Proofs.YteffjpdcghlnlaaGreatDoor.Oct
open Go.ChangeShapes Go.WideShapes Go.ChangeAt Go.RowKit Go.Maps
def DrAt (T : Mk) (w : World) (t g : Nat) (d : St) (n : Int) : Prop := T g = t ∧ ∃ AK cK, row w g = some (rscC (.slice AK 64 cK) d.1 d.2 n) ∧ SlG w g AK 64 cK kV ∧ ∀ a, AK = some a → T a.block = 0
section
variable {T T' : Mk} {w w' : World} {t g : Nat} {d : St} {n : Int} {H S : Nat → Prop}
theorem SlG.fr {w w' : World} {D : Nat} {A : Option Addr} {n c : Nat} {V : Nat → Value} (h : SlG w D A n c V) (hf : Fr T T' H w w') (hD : D ≤ w.heap.size) (h0 : ∀ a, A = some a → ¬ H (T a.block)) : SlG w' D A n c V :=
 ⟨h.le, fun hn => by
  obtain ⟨b, o, e, hb, hc⟩ := h.at_ hn
  exact ⟨b, o, e, hb, fun i hi => by rw [hf.cellAt (Nat.lt_of_lt_of_le hb hD) (h0 _ e)]; exact hc i hi⟩⟩
theorem DrAt.fr (h : DrAt T w t g d n) (hf : Fr T T' H w w') (ht : ¬ H t) (h0 : ¬ H 0) : DrAt T' w' t g d n := by
 obtain ⟨hT, AK, cK, hr, hk, hz⟩ := h
 refine ⟨by rw [hf.tag g (zK hr)]; exact hT, AK, cK, hf.rowAt hr (by rw [hT]; exact ht), hk.fr hf (Nat.le_of_lt (zK hr)) (fun a e => by rw [hz a e]; exact h0), fun a e => ?_⟩
 obtain ⟨b, o, e2, hb, -⟩ := hk.at_ (by omega)
 rw [e] at e2
 cases e2
 rw [hf.tag _ (Nat.lt_trans hb (zK hr))]
 exact hz _ e
theorem Stb.dr (ht : ¬ S t) (h0 : ¬ S 0) : Stb S fun T w => DrAt T w t g d n := fun T T' H w w' k f hH => k.fr f (fun h => ht (hH _ h)) (fun h => h0 (hH _ h))
theorem DrAt.put {AK : Option Addr} {cK : Nat} {d' : St} {n' : Int} (hT : T g = t) (hr : row w g = some (rscC (.slice AK 64 cK) d.1 d.2 n)) (hk : SlG w g AK 64 cK kV) (hz : ∀ a, AK = some a → T a.block = 0) (hp : Put g (rscC (.slice AK 64 cK) d'.1 d'.2 n') w w') : DrAt (zH T w.heap.size 0) w' t g d' n' ∧ Fr T (zH T w.heap.size 0) (fun c => c = t) w w' := by
 have hb : Below w.heap.size (w.setRow g (rscC (.slice AK 64 cK) d'.1 d'.2 n')) w' := hp
 have hf : Fr T (zH T w.heap.size 0) (fun c => c = t) w w' := ⟨hb.1, hb.2, hb.3, hp.size, fun k hk' hn => hp.block k hk' (fun e => hn (by rw [e]; exact hT)), fun k hk' => zJ hk'⟩
 refine ⟨⟨by rw [zJ (zK hr)]; exact hT, AK, cK, hp.row hr, slG_put hk hp (Nat.le_refl _) (zK hr), fun a e => ?_⟩, hf⟩
 obtain ⟨b, o, e2, hb2, -⟩ := hk.at_ (by omega)
 rw [e] at e2
 cases e2
 rw [zJ (Nat.lt_trans hb2 (zK hr))]
 exact hz _ e
end
section
variable {K : Kp} {W w : World} {t g : Nat} {d : St} {n : Int}
theorem ls_rnew (h : LS K W w) (hK : Stb (fun _ => False) K) (ht : t ≠ 0) {A : Option Addr} {N cc : Nat} {f : Bf} (hs : ∀ T, K T w → RdS T w 0 A N cc f) (hN : N ≤ 70000) :
  Calls Tryz.prog 24 #[.slice A N cc] w fun e w' => ∃ g, e = .returned (.pointer (some ⟨g, 0, none⟩)) ∧ LS (fun T w => K T w ∧ DrAt T w t g (updS newS f N) 1) W w' ∧ Below w.heap.size w w' := by
 obtain ⟨T, hf, k⟩ := h
 refine (rnew_new f N cc A w (hs T k).sl hN).mono ?_
 rintro e w' ⟨g, AK, cK, rfl, hg, hr, hk, hb, hnew⟩
 obtain ⟨T', hT'⟩ : ∃ T' : Mk, T' = fun j => if j = g then t else zH T w.heap.size 0 j := ⟨_, rfl⟩
 have hf' : ∀ H, Fr T T' H w w' := fun H => Fr.calm hb fun k hk => by rw [hT']; show (if k = g then t else _) = _; rw [if_neg (by omega), zJ hk]
 refine ⟨g, rfl, ⟨T', hf.trans (hf' _), hK _ _ _ _ _ k (hf' fun _ => False) (fun _ h => h), by rw [hT']; exact if_pos rfl, AK, cK, hr, hk, fun a e => ?_⟩, hb⟩
 obtain ⟨b, o, e2, hb2, -⟩ := hk.at_ (by omega)
 have h3 := hnew a e
 rw [e] at e2
 cases e2
 rw [hT']
 show (if b = g then t else _) = 0
 rw [if_neg (Nat.ne_of_lt hb2)]
 exact zN h3
theorem ls_rdraw (h : LS (fun T w => K T w ∧ DrAt T w t g d n) W w) (hK : Stb (fun c => c = t) K) (ht : t ≠ 0) (hn : n ≤ 1048576) (hn0 : 0 ≤ n) :
  Calls Tryz.prog 25 #[.pointer (some ⟨g, 0, none⟩), .int .i64 32, .slice none 0 0] w fun e w' => ∃ A9 c9, e = .returned (.tuple #[.slice A9 32 c9, .int .i64 0]) ∧ LS (fun T w => (K T w ∧ RdS T w 0 A9 32 c9 (drM d)) ∧ DrAt T w t g (drD d) (n + 1)) W w' ∧ w.heap.size ≤ w'.heap.size := by
 obtain ⟨T, hf, k, hT, AK, cK, hr, hk, hz⟩ := h
 refine (rdraw_new d g 32 0 0 cK none AK (fun _ => 0#8) n w hr hk (Sl.nothing _ _ _ _ _) (by omega) Off.nil (by omega) hn (by omega)).mono ?_
 rintro e w' ⟨A9, c9, rfl, hs, -, hp, hnew⟩
 obtain ⟨h1, h2⟩ := DrAt.put (d' := drwS d 32 (fun _ => 0#8) 0) hT hr hk hz hp
 exact ⟨A9, c9, rfl, ⟨_, hf.trans (h2.mono fun c hc => by omega), ⟨hK _ _ _ _ _ k h2 (fun _ h => h), hs, fun _ a ha => zN (hnew a ha)⟩, h1⟩, hp.size⟩
theorem ls_rreseed (h : LS (fun T w => K T w ∧ DrAt T w t g d n) W w) (hK : Stb (fun c => c = t) K) (ht : t ≠ 0) {A : Option Addr} {N cc : Nat} {f : Bf} (hs : ∀ T, K T w → RdS T w 0 A N cc f) (hN : N ≤ 70000) :
  Calls Tryz.prog 26 #[.pointer (some ⟨g, 0, none⟩), .slice A N cc] w fun e w' => e = .returned (.tuple #[]) ∧ LS (fun T w => K T w ∧ DrAt T w t g (updS d f N) 1) W w' ∧ w.heap.size ≤ w'.heap.size := by
 obtain ⟨T, hf, k, hT, AK, cK, hr, hk, hz⟩ := h
 refine (rreseed_any d n g f N cc cK A AK w hr hk (hs T k).sl hN ((hs T k).offB (by rw [hT]; exact ht))).mono ?_
 rintro e w' ⟨rfl, hp⟩
 obtain ⟨h1, h2⟩ := DrAt.put (d' := updS d f N) hT hr hk hz hp
 exact ⟨rfl, ⟨_, hf.trans (h2.mono fun c hc => by omega), hK _ _ _ _ _ k h2 (fun _ h => h), h1⟩, hp.size⟩
end
end Go.Proofs.YteffjpdcghlnlaaGreatDoor.Oct
