/- The plain types: bytes, slices of bytes, words, strings, ints. -/
import Derived.Test.YtamemjldafoolaaGreatRows
import Derived.WalkKit
namespace Go.Proofs.YtamemjldafoolaaGreat.Oct
open Go.RowKit
theorem u8_u : Tryz.prog.underlying 5 = some (.int .u8) := by kernel_rfl
theorem u8_i : (Tryz.prog.info? 5).map (·.size) = some 1 := by kernel_rfl
theorem u8_size (w : World) : (sizeOf 5).run Tryz.prog w = .ok 1 w := by kernel_rfl
theorem u8_info : (Tryz.prog.info? 5).map (fun i => (i.zero, i.size, i.bytes)) = some (some (.int .u8 0), 1, 1) := by kernel_rfl
theorem sli_u : Tryz.prog.underlying 33 = some (.slice 5) := by kernel_rfl
theorem u32_u : Tryz.prog.underlying 98 = some (.int .u32) := by kernel_rfl
theorem u32_i : (Tryz.prog.info? 98).map (·.size) = some 1 := by kernel_rfl
theorem u64_u : Tryz.prog.underlying 94 = some (.int .u64) := by kernel_rfl
theorem i64_u : Tryz.prog.underlying 3 = some (.int .i64) := by kernel_rfl
theorem i64_i : (Tryz.prog.info? 3).map (·.size) = some 1 := by kernel_rfl
theorem i64_info : (Tryz.prog.info? 3).map (fun i => (i.zero, i.size, i.bytes)) = some (some (.int .i64 0), 1, 8) := by kernel_rfl
theorem str_u : Tryz.prog.underlying 9 = some .string := by kernel_rfl
end Go.Proofs.YtamemjldafoolaaGreat.Oct
