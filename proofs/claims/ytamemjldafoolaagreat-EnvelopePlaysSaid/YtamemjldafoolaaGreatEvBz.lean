/- keyring's Switch and Destroy, by the block alone. -/
import Derived.Test.YtamemjldafoolaaGreatEvB
namespace Go.Proofs.YtamemjldafoolaaGreat.Oct
open Go.ChangeShapes Go.WideShapes Go.ChangeAt Go.RowKit
set_option linter.unusedVariables false

theorem wsw_any (B : Nat) (K : Ks) (id : Int) (on : Bool) (w : World) (h : KpW w B K) :
    Calls Tryz.prog 12 #[.pointer (some ⟨B, 0, none⟩), .int .i64 id, .bool on] w fun e w' => e = .returned (.int .i64 (swE K id)) ∧ KpW w' B (swK K id on) ∧ Chg B w w' := by
  refine (psw_any _ 1 B K id on w h.one).mono ?_
  rintro e w' ⟨rfl, T', hp, hf⟩
  exact ⟨rfl, hp.kw, hf.chg⟩
theorem wds_any (B : Nat) (K : Ks) (id ver : Int) (w : World) (h : KpW w B K) :
    Calls Tryz.prog 14 #[.pointer (some ⟨B, 0, none⟩), .int .i64 id, .int .i64 ver] w fun e w' => e = .returned (.int .i64 (dsE K id ver)) ∧ KpW w' B (dsK K id ver) ∧ Chg B w w' := by
  refine (pds_any _ 1 B K id ver w h.one).mono ?_
  rintro e w' ⟨rfl, T', hp, hf⟩
  exact ⟨rfl, hp.kw, hf.chg⟩
end Go.Proofs.YtamemjldafoolaaGreat.Oct
