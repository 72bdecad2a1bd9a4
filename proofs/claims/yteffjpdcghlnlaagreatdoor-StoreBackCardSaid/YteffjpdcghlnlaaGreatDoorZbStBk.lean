import Derived.Test.YteffjpdcghlnlaaGreatDoorZbStVf
import Derived.Test.YteffjpdcghlnlaaGreatDoorZbStB3
set_option linter.unusedVariables false
set_option linter.unusedSimpArgs false
namespace Go.Proofs.YteffjpdcghlnlaaGreatDoor.Oct
open Go.ChangeShapes Go.WideShapes Go.ChangeAt Go.RowKit Go.Maps
section
variable {K : Kp} {W w : World} {t B : Nat} {x : Sx}
theorem ls_dec (h : LS K W w) (hK : Stb (fun _ => False) K) (ht : 0 < t) {b : By} {A : Option Addr} {c : Nat} (hs : Sl w w.heap.size A b.length c (lf b)) (hl : b.length ≤ 1000000000) :
  Calls Tryz.prog 20 #[.slice A b.length c] w fun e w' => (∃ y B, SxV y ∧ eSx y = b ∧ e = .returned (.tuple #[.pointer (some ⟨B, 0, none⟩), .int .i64 0]) ∧ LS (fun T w => StAt T w t B y ∧ K T w) W w') ∨ (NoS b ∧ e = .returned (.tuple #[.pointer none, .int .i64 80]) ∧ LS K W w') := by
 obtain ⟨T, hf, k⟩ := h
 refine (pdec16_any T t b A c w ht hs hl).mono ?_
 rintro e w' ⟨T', ht', hb, ⟨y, B, hv, hy, rfl, hst⟩ | ⟨hn, rfl⟩⟩
 ·exact .inl ⟨y, B, hv, hy, rfl, T', hf.trans (Fr.calm hb ht'), hst, hK _ _ _ _ _ k (Fr.calm (H := fun _ => False) hb ht') fun _ h => h⟩
 ·exact .inr ⟨hn, rfl, T', hf.trans (Fr.calm hb ht'), hK _ _ _ _ _ k (Fr.calm (H := fun _ => False) hb ht') fun _ h => h⟩
theorem ls_back (h : LS K W w) (hK : Stb (fun _ => False) K) (ht : 0 < t) (hx : SxR x) {A : Option Addr} {c : Nat} (hs : Sl w w.heap.size A (eSx x).length c (lf (eSx x))) :
  Calls Tryz.prog 20 #[.slice A (eSx x).length c] w fun e w' => ∃ B, e = .returned (.tuple #[.pointer (some ⟨B, 0, none⟩), .int .i64 0]) ∧ LS (fun T w => StAt T w t B x ∧ K T w) W w' := by
 refine (ls_dec h hK ht hs (by have := eSx_len hx; omega)).mono ?_
 rintro e w' (⟨y, B, hv, hy, rfl, h'⟩ | ⟨hn, -, -⟩)
 ·exact ⟨B, rfl, h'.mono fun T k => ⟨k.1.same (hv.same hx.v hy) hx.ok, k.2⟩⟩
 ·exact absurd rfl (hn x hx.v)
end
end Go.Proofs.YteffjpdcghlnlaaGreatDoor.Oct
