/- The types of keyring: key, [4]Version, [8]key, Keys: addresses, loads, stores, literals; what a block of many cells loads and stores. -/
import Derived.Test.YtabchkcieddhpaaKpT
import Derived.Test.YtabchkcieddhpaaKrTy
namespace Go.Proofs.Ytabchkcieddhpaa.Oct
open Go.ChangeShapes Go.WideShapes Go.ChangeAt Go.RowKit
set_option linter.unusedVariables false

theorem stR_spl {P : Program} {t m : Nat} {w : World} {b o : Nat} {c x : Array Value} (h : o + m ≤ c.size) (hx : x.size = m) (h1 : Ones x) : stR P t m w b o (.agg x) (some c) = .ok () (w.setRow b (spl c o x.toList)) := by
  have e : o + m ≤ c.size ∧ (Value.agg x).cells.size = m ∧ Ones (Value.agg x).cells := ⟨h, hx, h1⟩
  unfold stR
  simp only [if_pos e]
  rfl
theorem ldR_eq {P : Program} {t m : Nat} {w : World} {b o : Nat} {c x : Array Value} (h : o + m ≤ c.size) (hx : x.size = m) (e : ∀ j, j < m → c[o + j]? = x[j]?) : ldR P t m w b o (some c) = .ok (.agg x) w := by
  unfold ldR
  simp only [if_pos h]
  congr 2
  apply Array.ext_getElem?
  intro j
  rw [Array.getElem?_extract]
  by_cases hj : j < m
  · rw [if_pos (by omega), e j hj]
  · rw [if_neg (by omega), Array.getElem?_eq_none (by omega)]
/-- a version's material, read -/
theorem KyC.ldM {P : Program} {t : Nat} {w : World} {b : Nat} {c : Array Value} {o v : Nat} {r : Rg} (h : KyC c o r) (hv : v < r.l.length) (hs : o + 138 ≤ c.size) : ldR P t 32 w b (o + 1 + v * 34) (some c) = .ok (.agg (ba 32 r.l[v].m)) w := by
  have hf := h.few
  have hm := Nat.mul_le_mul_right 34 (show v + 1 ≤ 4 by omega)
  refine ldR_eq (by omega) (ba_size _ _) fun j hj => ?_
  rw [h.ver v hv j (by omega), veC_m _ _ hj, ba_get _ _ _ hj]
/-- a version, read -/
theorem KyC.ldV {P : Program} {t : Nat} {w : World} {b : Nat} {c : Array Value} {o v : Nat} {r : Rg} (h : KyC c o r) (hv : v < r.l.length) (hs : o + 138 ≤ c.size) : ldR P t 34 w b (o + 1 + v * 34) (some c) = .ok (.agg (veA r.l[v])) w := by
  have hf := h.few
  have hm := Nat.mul_le_mul_right 34 (show v + 1 ≤ 4 by omega)
  refine ldR_eq (by omega) (veA_size _) fun j hj => ?_
  rw [h.ver v hv j hj, ← Array.getElem?_toList, veA_list]
theorem KyC.ldU {c : Array Value} {o v : Nat} {r : Rg} (h : KyC c o r) (hv : v < r.l.length) : c[o + 1 + v * 34 + 32]? = some (.int .i64 r.l[v].u) := by rw [h.ver v hv 32 (by omega), veC_u]
theorem KyC.ldG {c : Array Value} {o v : Nat} {r : Rg} (h : KyC c o r) (hv : v < r.l.length) : c[o + 1 + v * 34 + 33]? = some (.bool r.l[v].g) := by rw [h.ver v hv 33 (by omega), veC_g]
/- whole keys and keyrings -/
theorem key_i : (Try.prog.info? 65).map (·.size) = some 138 := by kernel_rfl
@[go_sem ↓] theorem key_l (p : Value) : Instr.loadAt 65 p = ldA 65 p := rfl
@[go_sem ↓] theorem key_s (p v : Value) : Instr.storeAt 65 p v = stA 65 p v := rfl
@[go_sem] theorem key_ld (w : World) (b o : Nat) : (ldA 65 (.pointer (some ⟨b, o, none⟩))).run Try.prog w = ldR Try.prog 65 138 w b o (row w b) := ld_ruleK _ _ Try.underlying65 rfl 138 key_i w b o
@[go_sem] theorem key_st (w : World) (b o : Nat) (c : Array Value) : (stA 65 (.pointer (some ⟨b, o, none⟩)) (.agg c)).run Try.prog w = stR Try.prog 65 138 w b o (.agg c) (row w b) := st_rule _ 138 key_i w b o c
theorem kys_i : (Try.prog.info? 68).map (·.size) = some 1105 := by kernel_rfl
@[go_sem ↓] theorem kys_l (p : Value) : Instr.loadAt 68 p = ldA 68 p := rfl
@[go_sem ↓] theorem kys_s (p v : Value) : Instr.storeAt 68 p v = stA 68 p v := rfl
@[go_sem] theorem kys_ld (w : World) (b o : Nat) : (ldA 68 (.pointer (some ⟨b, o, none⟩))).run Try.prog w = ldR Try.prog 68 1105 w b o (row w b) := ld_ruleK _ _ Try.underlying68 rfl 1105 kys_i w b o
@[go_sem] theorem kys_st (w : World) (b o : Nat) (c : Array Value) : (stA 68 (.pointer (some ⟨b, o, none⟩)) (.agg c)).run Try.prog w = stR Try.prog 68 1105 w b o (.agg c) (row w b) := st_rule _ 1105 kys_i w b o c
/- zeros -/
def veL0 : List Value := List.replicate 32 (.int .u8 0) ++ [.int .i64 0, .bool false]
def kyL0 : List Value := .bool false :: (veL0 ++ (veL0 ++ (veL0 ++ (veL0 ++ [.int .i64 0]))))
def ksL0 : List Value := kyL0 ++ (kyL0 ++ (kyL0 ++ (kyL0 ++ (kyL0 ++ (kyL0 ++ (kyL0 ++ (kyL0 ++ [.int .i64 0])))))))
@[irreducible] def kyZ : Array Value := kyL0.toArray
@[irreducible] def ksZ : Array Value := ksL0.toArray
theorem key_z : (Try.prog.info? 65).map (·.zero) = some (some (.agg kyZ)) := by unfold kyZ; kernel_rfl
theorem kys_z : (Try.prog.info? 68).map (·.zero) = some (some (.agg ksZ)) := by unfold ksZ; kernel_rfl
theorem kyZ_size : kyZ.size = 138 := by unfold kyZ; kernel_rfl
theorem kyZ_ones : Ones kyZ := by unfold kyZ Ones; rw [← Array.all_toList]; kernel_rfl
theorem kyZ_off : kyZ[0]? = some (.bool false) := by unfold kyZ; kernel_rfl
theorem kyZ_cnt : kyZ[137]? = some (.int .i64 0) := by unfold kyZ; kernel_rfl
theorem ksZ_size : ksZ.size = 1105 := by unfold ksZ; kernel_rfl
theorem ksZ_ones : Ones ksZ := by unfold ksZ Ones; rw [← Array.all_toList]; kernel_rfl
theorem ksZ_cnt : ksZ[1104]? = some (.int .i64 0) := by unfold ksZ; kernel_rfl
theorem ksZ_key : ∀ i, i < 8 → ksZ[i * 138]? = some (.bool false) ∧ ksZ[i * 138 + 137]? = some (.int .i64 0) := by
  intro i hi
  rcases (by omega : i = 0 ∨ i = 1 ∨ i = 2 ∨ i = 3 ∨ i = 4 ∨ i = 5 ∨ i = 6 ∨ i = 7) with rfl | rfl | rfl | rfl | rfl | rfl | rfl | rfl <;> (unfold ksZ; exact ⟨by kernel_rfl, by kernel_rfl⟩)
theorem kyZ_ok : KyC kyZ 0 rg0 := ⟨kyZ_off, by rw [Nat.zero_add]; exact kyZ_cnt, Nat.zero_le _, fun v h => absurd h (by show ¬ v < 0; omega)⟩
theorem ksZ_ok : KsC ksZ [] := ⟨ksZ_size, ksZ_ones, ksZ_cnt, fun i hi => by
  rw [rgI_ge (Nat.zero_le _)]
  exact ⟨(ksZ_key i hi).1, (ksZ_key i hi).2, Nat.zero_le _, fun v h => absurd h (by show ¬ v < 0; omega)⟩⟩
@[go_sem ↓] theorem kys_bd (parts : Array (Nat × Value)) : Instr.build 68 parts = bdA 68 parts := rfl
@[go_sem ↓] theorem key_bd (parts : Array (Nat × Value)) : Instr.build 65 parts = bdA 65 parts := rfl
@[go_sem] theorem kys_b0 (w : World) : (bdA 68 #[]).run Try.prog w = .ok (.agg ksZ) w := run_lit _ _ _ _ [(0, 1104), (1104, 1)] kys_z (by kernel_rfl) rfl w
@[go_sem ↓] theorem kys_zero (w : World) : (zeroValue 68).run Try.prog w = .ok (.agg ksZ) w := zero_rule _ _ kys_z w
@[go_sem ↓] theorem key_zero (w : World) : (zeroValue 65).run Try.prog w = .ok (.agg kyZ) w := zero_rule _ _ key_z w
end Go.Proofs.Ytabchkcieddhpaa.Oct
