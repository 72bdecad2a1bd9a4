/- api.Key and api.Nonce compared; a place's literal; a byte's writing by shifts. -/
import Derived.Test.YtamemjldafoolaaGreatVlMath
import Derived.Test.YtamemjldafoolaaGreatTys
import Derived.Test.YtamemjldafoolaaGreatTyBs
namespace Go.Proofs.YtamemjldafoolaaGreat.Oct
open Go.RowKit
set_option linter.unusedVariables false

@[go_sem] theorem non_gd (op : BinOp) (x y : Operand) (xs ys : Array Value) (w : World) : (eqGuard op 78 x y (.agg xs) (.agg ys)).run Tryz.prog w = .ok () w := run_eqGuard_agg w op _ x y xs ys (by kernel_rfl)
@[go_sem] theorem non_eq (d : Nat) (f g : Nat → BitVec 8) (w : World) : (Op.equalIn (d + 2) 78 (.agg (ba 12 f)) (.agg (ba 12 g))).run Tryz.prog w = .ok (eqB 12 f g) w := eq_bytes _ 12 d _ .u8 non_u u8_u u8_i f g w
@[go_sem] theorem key_gd (op : BinOp) (x y : Operand) (xs ys : Array Value) (w : World) : (eqGuard op 32 x y (.agg xs) (.agg ys)).run Tryz.prog w = .ok () w := run_eqGuard_agg w op _ x y xs ys (by kernel_rfl)
@[go_sem] theorem key_eq (d : Nat) (f g : Nat → BitVec 8) (w : World) : (Op.equalIn (d + 2) 32 (.agg (ba 32 f)) (.agg (ba 32 g))).run Tryz.prog w = .ok (eqB 32 f g) w := eq_bytes _ 32 d _ .u8 key_u u8_u u8_i f g w
@[go_sem] theorem key_b0 (w : World) : (Instr.build 32 #[]).run Tryz.prog w = .ok (.agg (ba 32 fun _ => 0#8)) w := by unfold ba; kernel_rfl
@[go_sem] theorem non_b0 (w : World) : (Instr.build 78 #[]).run Tryz.prog w = .ok (.agg (ba 12 fun _ => 0#8)) w := by unfold ba; kernel_rfl
/-- the byte that a shift leaves -/
theorem sh_byte (x s : Nat) : (x : Int) / 2 ^ (8 * s) % 256 = I (BitVec.ofNat 8 (x / 256 ^ s)) := by
  rw [← I_of8, show (256 : Nat) = 2 ^ 8 from rfl, ← Nat.pow_mul, Int.natCast_ediv, Int.natCast_pow]; rfl
/-- what a row's load gives -/
theorem ld_rowV {P : Program} {w : World} {b : Nat} {c : Array Value} {ty : TypeId} {d : TypeDesc} (hr : row w b = some c) (hu : P.underlying ty = some d) (hd : d.isRow = true) (hi : (P.info? ty).map (·.size) = some c.size) :
    (loadVar ty ⟨b, 0, none⟩).run P w = .ok (.agg c) w := by
  obtain ⟨t', ht⟩ := row_is hr
  have hg : w.rangeAt b 0 (c.extract 0 (0 + c.size)).toList := World.rangeAt_of_block ht 0 c.size
  have hx := run_loadVar_mid (P := P) w b 0 ty _ d hg hu hd (by rw [hi]; simp)
  rw [Array.toArray_toList, Nat.zero_add, Array.extract_size] at hx
  exact hx
theorem res_ctV {P : Program} {fn : Func} {p u : Tmp} {ty : TypeId} (h : fn.results = #[.cell p ty, .tmp u]) (tmps : Array Value) (w : World) (b : Nat) (c : Array Value) (d : TypeDesc)
    (hp : tmps.getD p undef = .pointer (some ⟨b, 0, none⟩)) (hr : row w b = some c) (hu : P.underlying ty = some d) (hd : d.isRow = true) (hi : (P.info? ty).map (·.size) = some c.size) :
    (results fn tmps).run P w = .ok (.tuple #[.agg c, tmps.getD u undef]) w := by
  have hp2 : tmps[p]?.getD undef = .pointer (some ⟨b, 0, none⟩) := by simpa using hp
  simp only [results, h]
  simp [hp2, asAddr, ld_rowV hr hu hd hi]
theorem res_cctV {P : Program} {fn : Func} {p q u : Tmp} {ty ty' : TypeId} (h : fn.results = #[.cell p ty, .cell q ty', .tmp u]) (tmps : Array Value) (w : World) (b b' : Nat) (c c' : Array Value) (d d' : TypeDesc)
    (hp : tmps.getD p undef = .pointer (some ⟨b, 0, none⟩)) (hr : row w b = some c) (hu : P.underlying ty = some d) (hd : d.isRow = true) (hi : (P.info? ty).map (·.size) = some c.size)
    (hp' : tmps.getD q undef = .pointer (some ⟨b', 0, none⟩)) (hr' : row w b' = some c') (hu' : P.underlying ty' = some d') (hd' : d'.isRow = true) (hi' : (P.info? ty').map (·.size) = some c'.size) :
    (results fn tmps).run P w = .ok (.tuple #[.agg c, .agg c', tmps.getD u undef]) w := by
  have hp2 : tmps[p]?.getD undef = .pointer (some ⟨b, 0, none⟩) := by simpa using hp
  have hp3 : tmps[q]?.getD undef = .pointer (some ⟨b', 0, none⟩) := by simpa using hp'
  simp only [results, h]
  simp [hp2, hp3, asAddr, ld_rowV hr hu hd hi, ld_rowV hr' hu' hd' hi']
end Go.Proofs.YtamemjldafoolaaGreat.Oct
