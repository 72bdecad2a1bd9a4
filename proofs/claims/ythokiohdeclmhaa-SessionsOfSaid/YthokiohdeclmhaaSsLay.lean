/- The library's contracts of slices.Sorted(maps.Keys(m)) and maps.Clone(m), laid at this program in plain words (wip/tools/mklay.py prints it). -/
import Derived.Shelf.SlIterI.Nil
import Derived.Shelf.SortM.Plain
import Derived.Shelf.SortM.SortNone
import Derived.Shelf.SlMaps.Clone
import Derived.Test.YthokiohdeclmhaaSsMp
namespace Go.Proofs
open Go.Shelf

def Try.keysL_ren : Go.Shelf.Ren := ⟨fun | 7 => 33 | 10 => 42 | n => n, fun | 23 => 59 | 26 => 3 | 3 => 50 | 28 => 71 | 0 => 0 | 27 => 70 | 33 => 80 | 4 => 4 | n => n, fun | n => n⟩
theorem Try.keysL : Go.Proofs.SlLaysZI.n7 Try.prog Try.keysL_ren := {
  mixed := by kernel_rfl,
  f7 := ⟨Try.f33.name, by decide, Try.func33.trans (congrArg some (by kernel_rfl))⟩,
  f10 := ⟨Try.f42.name, by decide, Try.func42.trans (congrArg some (by kernel_rfl))⟩,
  t0 := Try.underlying0,
  a0 := Try.isAgg0,
  z0 := Try.sizeOf0,
  v0 := Try.zeroValue0,
  t4 := Try.underlying4,
  a4 := Try.isAgg4,
  z4 := Try.sizeOf4,
  v4 := Try.zeroValue4,
  t23 := Try.underlying59,
  a23 := Try.isAgg59,
  z23 := Try.sizeOf59,
  v23 := Try.zeroValue59,
  t26 := Try.underlying3,
  a26 := Try.isAgg3,
  z26 := Try.sizeOf3,
  v26 := Try.zeroValue3,
  t27 := Try.underlying70,
  a27 := Try.isAgg70,
  z27 := Try.sizeOf70,
  v27 := Try.zeroValue70,
  t28 := Try.underlying71,
  a28 := Try.isAgg71,
  z28 := Try.sizeOf71,
  v28 := Try.zeroValue71,
  t33 := Try.underlying80,
  a33 := Try.isAgg80,
  z33 := Try.sizeOf80,
  v33 := Try.zeroValue80 }
def Try.sortedL_ren : Go.Shelf.Ren := ⟨fun | 6 => 32 | 8 => 40 | 9 => 41 | 11 => 48 | 13 => 50 | 12 => 49 | 23 => 64 | 24 => 65 | 14 => 55 | 15 => 56 | 16 => 57 | 17 => 58 | 18 => 59 | 19 => 60 | 20 => 61 | 21 => 62 | 22 => 63 | 25 => 70 | 26 => 71 | 27 => 72 | 28 => 73 | 29 => 74 | 30 => 75 | 31 => 78 | n => n, fun | 26 => 3 | 28 => 71 | 24 => 68 | 0 => 0 | 3 => 3 | 37 => 88 | 48 => 103 | 50 => 105 | 4 => 4 | 40 => 96 | 39 => 95 | 45 => 100 | 5 => 5 | 9 => 9 | 51 => 107 | 55 => 111 | 57 => 114 | 58 => 115 | 33 => 80 | n => n, fun | n => n⟩
theorem Try.sortedL : Go.Proofs.SlLaysZI.n6 Try.prog Try.sortedL_ren := {
  mixed := by kernel_rfl,
  f6 := ⟨Try.f32.name, by decide, Try.func32.trans (congrArg some (by kernel_rfl))⟩,
  f8 := ⟨Try.f40.name, by decide, Try.func40.trans (congrArg some (by kernel_rfl))⟩,
  f11 := ⟨Try.f48.name, by decide, Try.func48.trans (congrArg some (by kernel_rfl))⟩,
  t0 := Try.underlying0,
  a0 := Try.isAgg0,
  z0 := Try.sizeOf0,
  v0 := Try.zeroValue0,
  t24 := Try.underlying68,
  a24 := Try.isAgg68,
  z24 := Try.sizeOf68,
  v24 := Try.zeroValue68,
  t26 := Try.underlying3,
  a26 := Try.isAgg3,
  z26 := Try.sizeOf3,
  v26 := Try.zeroValue3,
  t28 := Try.underlying71,
  a28 := Try.isAgg71,
  z28 := Try.sizeOf71,
  v28 := Try.zeroValue71,
  i26 := by kernel_rfl }
def Try.sortL_ren : Go.Shelf.Ren := ⟨fun | 5 => 41 | 8 => 50 | 7 => 49 | 19 => 64 | 20 => 65 | 10 => 55 | 11 => 56 | 12 => 57 | 13 => 58 | 14 => 59 | 15 => 60 | 16 => 61 | 17 => 62 | 18 => 63 | 30 => 70 | 31 => 71 | 32 => 72 | 33 => 73 | 34 => 74 | 35 => 75 | 40 => 78 | n => n, fun | 23 => 68 | 25 => 3 | 3 => 3 | 32 => 88 | 22 => 68 | 0 => 0 | 44 => 103 | 46 => 105 | 4 => 4 | 36 => 96 | 35 => 95 | 41 => 100 | 5 => 5 | 9 => 9 | 53 => 107 | 57 => 111 | 63 => 114 | 64 => 115 | n => n, fun | n => n⟩
theorem Try.sortL : Go.Proofs.SlLaysM.n5 Try.prog Try.sortL_ren := {
  mixed := by kernel_rfl,
  f5 := ⟨Try.f41.name, by decide, Try.func41.trans (congrArg some (by kernel_rfl))⟩,
  f7 := ⟨Try.f49.name, by decide, Try.func49.trans (congrArg some (by kernel_rfl))⟩,
  f8 := Try.func50.trans (congrArg some (by kernel_rfl)),
  f10 := ⟨Try.f55.name, by decide, Try.func55.trans (congrArg some (by kernel_rfl))⟩,
  f11 := ⟨Try.f56.name, by decide, Try.func56.trans (congrArg some (by kernel_rfl))⟩,
  f12 := ⟨Try.f57.name, by decide, Try.func57.trans (congrArg some (by kernel_rfl))⟩,
  f13 := ⟨Try.f58.name, by decide, Try.func58.trans (congrArg some (by kernel_rfl))⟩,
  f14 := ⟨Try.f59.name, by decide, Try.func59.trans (congrArg some (by kernel_rfl))⟩,
  f15 := ⟨Try.f60.name, by decide, Try.func60.trans (congrArg some (by kernel_rfl))⟩,
  f16 := ⟨Try.f61.name, by decide, Try.func61.trans (congrArg some (by kernel_rfl))⟩,
  f17 := ⟨Try.f62.name, by decide, Try.func62.trans (congrArg some (by kernel_rfl))⟩,
  f18 := ⟨Try.f63.name, by decide, Try.func63.trans (congrArg some (by kernel_rfl))⟩,
  f19 := Try.func64.trans (congrArg some (by kernel_rfl)),
  f20 := Try.func65.trans (congrArg some (by kernel_rfl)),
  f30 := ⟨Try.f70.name, by decide, Try.func70.trans (congrArg some (by kernel_rfl))⟩,
  f31 := Try.func71.trans (congrArg some (by kernel_rfl)),
  f32 := Try.func72.trans (congrArg some (by kernel_rfl)),
  f33 := ⟨Try.f73.name, by decide, Try.func73.trans (congrArg some (by kernel_rfl))⟩,
  f34 := ⟨Try.f74.name, by decide, Try.func74.trans (congrArg some (by kernel_rfl))⟩,
  f35 := ⟨Try.f75.name, by decide, Try.func75.trans (congrArg some (by kernel_rfl))⟩,
  f40 := ⟨Try.f78.name, by decide, Try.func78.trans (congrArg some (by kernel_rfl))⟩,
  t0 := Try.underlying0,
  a0 := Try.isAgg0,
  z0 := Try.sizeOf0,
  v0 := Try.zeroValue0,
  t3 := Try.underlying3,
  a3 := Try.isAgg3,
  z3 := Try.sizeOf3,
  v3 := Try.zeroValue3,
  t4 := Try.underlying4,
  a4 := Try.isAgg4,
  z4 := Try.sizeOf4,
  v4 := Try.zeroValue4,
  t5 := Try.underlying5,
  a5 := Try.isAgg5,
  z5 := Try.sizeOf5,
  v5 := Try.zeroValue5,
  t9 := Try.underlying9,
  a9 := Try.isAgg9,
  z9 := Try.sizeOf9,
  v9 := Try.zeroValue9,
  t22 := Try.underlying68,
  a22 := Try.isAgg68,
  z22 := Try.sizeOf68,
  v22 := Try.zeroValue68,
  t23 := Try.underlying68,
  a23 := Try.isAgg68,
  z23 := Try.sizeOf68,
  v23 := Try.zeroValue68,
  t25 := Try.underlying3,
  a25 := Try.isAgg3,
  z25 := Try.sizeOf3,
  v25 := Try.zeroValue3,
  t32 := Try.underlying88,
  a32 := Try.isAgg88,
  z32 := Try.sizeOf88,
  v32 := Try.zeroValue88,
  t35 := Try.underlying95,
  a35 := Try.isAgg95,
  z35 := Try.sizeOf95,
  v35 := Try.zeroValue95,
  t36 := Try.underlying96,
  a36 := Try.isAgg96,
  z36 := Try.sizeOf96,
  v36 := Try.zeroValue96,
  t41 := Try.underlying100,
  a41 := Try.isAgg100,
  z41 := Try.sizeOf100,
  v41 := Try.zeroValue100,
  t44 := Try.underlying103,
  a44 := Try.isAgg103,
  z44 := Try.sizeOf103,
  v44 := Try.zeroValue103,
  t46 := Try.underlying105,
  a46 := Try.isAgg105,
  z46 := Try.sizeOf105,
  v46 := Try.zeroValue105,
  t53 := Try.underlying107,
  a53 := Try.isAgg107,
  z53 := Try.sizeOf107,
  v53 := Try.zeroValue107,
  t57 := Try.underlying111,
  a57 := Try.isAgg111,
  z57 := Try.sizeOf111,
  v57 := Try.zeroValue111,
  t63 := Try.underlying114,
  a63 := Try.isAgg114,
  z63 := Try.sizeOf114,
  v63 := Try.zeroValue114,
  t64 := Try.underlying115,
  a64 := Try.isAgg115,
  z64 := Try.sizeOf115,
  v64 := Try.zeroValue115 }
def Try.cloneL_ren : Go.Shelf.Ren := ⟨fun | 5 => 31 | 7 => 39 | n => n, fun | 23 => 59 | 25 => 3 | 3 => 50 | 4 => 4 | 20 => 20 | n => n, fun | n => n⟩
theorem Try.cloneL : Go.Proofs.SlLaysW.n5 Try.prog Try.cloneL_ren := {
  mixed := by kernel_rfl,
  f5 := ⟨Try.f31.name, by decide, Try.func31.trans (congrArg some (by kernel_rfl))⟩,
  f7 := Try.func39.trans (congrArg some (by kernel_rfl)),
  t4 := Try.underlying4,
  a4 := Try.isAgg4,
  z4 := Try.sizeOf4,
  v4 := Try.zeroValue4,
  t20 := Try.underlying20,
  a20 := Try.isAgg20,
  z20 := Try.sizeOf20,
  v20 := Try.zeroValue20,
  t23 := Try.underlying59,
  a23 := Try.isAgg59,
  z23 := Try.sizeOf59,
  v23 := Try.zeroValue59 }
end Go.Proofs
namespace Go.Proofs.Ythokiohdeclmhaa.Oct
open Go.RowKit Go.Maps Go.Sort Go.Shelf
set_option linter.unusedVariables false

theorem sorts_in (m : Nat) : AnyZI.SortsIn Try.prog Try.sortedL_ren Fence.wide m :=
  ⟨fun blk off cap ss W hH hblk hsz => callsIn_wide.2 (AnyM.slices_Sort_int Try.sortL blk off cap ss W hH hblk hsz),
   fun p cap W => callsIn_wide.2 (AnyM.slices_Sort_int_none Try.sortL p cap W)⟩
/-- maps.Keys: a closure that holds the map -/
theorem keysI_any (mb : Option Nat) (W : World) : Calls Try.prog 33 #[.map mb] W fun e w' => e = .returned (.func (.func 42) #[] #[.pointer (some ⟨W.heap.size, 0, none⟩)]) ∧ w' = W.alloc (.cells #[.map mb] 59) :=
  (callsIn_wide (n := 5)).1 (AnyZI.keys_in Try.keysL Fence.wide 5 trivial rfl mb W)
set_option maxHeartbeats 1000000 in
/-- slices.Sorted of it: a new slice, the keys ascending -/
theorem sortedI_any (b Bm : Nat) (D : DataW Value) (W : World) (hB : Bm < W.heap.size) (hm : W.cell? ⟨Bm, 0, none⟩ = some (.map (some b))) (hown : W.ownsMap Try.prog 3 RV b (Go.Maps.size D) D) (hmax : Go.Maps.size D ≤ 1000) :
    Calls Try.prog 32 #[.func (.func 42) #[] #[.pointer (some ⟨Bm, 0, none⟩)]] W fun e w' => ∃ (v : Value) (ss : List Int), e = .returned v ∧ ss.Perm (intKeys D) ∧
      w'.ownsRow W.heap.size 3 1 v ss.length ((ss.mergeSort leI).map encZ) ∧ (v = .slice none 0 0 ↔ ss = []) ∧ Below W.heap.size W w' := by
  refine (callsIn_wide (n := 5)).1 ?_
  have hseq : SeqGives Fence.wide 2 Try.prog 42 #[.pointer (some ⟨Bm, 0, none⟩)] encZ (fun ss => ss.Perm (intKeys D)) (Go.Maps.size D) W :=
    AnyZI.keys_gives (ρ := Try.keysL_ren) { Try.keysL with } Fence.wide _ trivial rfl (by omega) Bm b (Go.Maps.size D) D _ hB hm hown
  exact AnyZI.sorted_in Try.sortedL Fence.wide 5 trivial trivial trivial trivial rfl (by omega) (sorts_in _) (enters_of Try.func41 (by kernel_rfl) rfl) 42 #[.pointer (some ⟨Bm, 0, none⟩)] trivial (enters_of Try.func42 (by kernel_rfl) rfl) _ _ (by unfold maxLen; omega) (by omega) _ hseq
set_option maxHeartbeats 1000000 in
theorem sortedN_any (Bm : Nat) (W : World) (hB : Bm < W.heap.size) (hm : W.cell? ⟨Bm, 0, none⟩ = some (.map none)) :
    Calls Try.prog 32 #[.func (.func 42) #[] #[.pointer (some ⟨Bm, 0, none⟩)]] W fun e w' => e = .returned (.slice none 0 0) ∧ Below W.heap.size W w' := by
  refine (callsIn_wide (n := 5)).1 ?_
  have hseq : SeqGives Fence.wide 2 Try.prog 42 #[.pointer (some ⟨Bm, 0, none⟩)] encZ (fun ss : List Int => ss = []) 0 W :=
    AnyZI.keys_gives_nil (ρ := Try.keysL_ren) { Try.keysL with } Fence.wide _ trivial rfl Bm _ hB hm
  refine (AnyZI.sorted_in Try.sortedL Fence.wide 5 trivial trivial trivial trivial rfl (by omega) (sorts_in _) (enters_of Try.func41 (by kernel_rfl) rfl) 42 #[.pointer (some ⟨Bm, 0, none⟩)] trivial (enters_of Try.func42 (by kernel_rfl) rfl) _ 0 (Nat.zero_le _) (by omega) _ hseq).mono ?_
  rintro e w' ⟨v, ss, rfl, rfl, hrow, hnil, hb⟩
  obtain rfl : v = .slice none 0 0 := hnil.2 rfl
  exact ⟨rfl, hb⟩
/-- maps.Clone: another block with the same seats, or nil -/
theorem mclone_any (T : Mk) (t t' : Nat) (mv : Option Nat) (l : List Se) (w : World) (h : MpV T w t mv l) :
    Calls Try.prog 31 #[.map mv] w fun e w' => ∃ mv', e = .returned (.map mv') ∧ MpV (paint T w.heap.size t') w' t' mv' l ∧ Below w.heap.size w w' := by
  rcases h with ⟨rfl, rfl⟩ | ⟨M, rfl, hT, hM⟩
  · refine (AnyW.maps_Clone_nil Try.cloneL w).mono ?_
    rintro e w' ⟨rfl, rfl⟩
    exact ⟨_, rfl, .inl ⟨rfl, rfl⟩, Below.refl _ _⟩
  · obtain ⟨D, h1, h2, h3, h4⟩ := hM.ex
    refine (AnyW.maps_Clone_owns Try.cloneL _ _ _ _ _ w h1).mono ?_
    rintro e w' ⟨rfl, a1, a2, hb⟩
    have hF : Fr T (paint T w.heap.size t') (fun _ => False) w w' := Fr.new hb t'
    exact ⟨_, rfl, .inr ⟨_, rfl, paint_new (Nat.le_refl _), D, a1, h2, fun id s hs => by obtain ⟨vs, a, b⟩ := h3 id s hs; exact ⟨vs, seEl_ok.fr a hF (fun h => h), b⟩, h4⟩, hb⟩
end Go.Proofs.Ythokiohdeclmhaa.Oct
