/- The plain types: bytes, slices of bytes, words, strings, ints. -/
import Derived.Test.YtkgefljjjheobaaDoorRows
import Derived.WalkKit
namespace Go.Proofs.YtkgefljjjheobaaDoor.Oct
open Go.RowKit
theorem u8_u : Tryd.prog.underlying 5 = some (.int .u8) := by kernel_rfl
theorem u8_i : (Tryd.prog.info? 5).map (·.size) = some 1 := by kernel_rfl
theorem u8_size (w : World) : (sizeOf 5).run Tryd.prog w = .ok 1 w := by kernel_rfl
theorem u8_info : (Tryd.prog.info? 5).map (fun i => (i.zero, i.size, i.bytes)) = some (some (.int .u8 0), 1, 1) := by kernel_rfl
theorem sli_u : Tryd.prog.underlying 35 = some (.slice 5) := by kernel_rfl
theorem u32_u : Tryd.prog.underlying 50 = some (.int .u32) := by kernel_rfl
theorem u32_i : (Tryd.prog.info? 50).map (·.size) = some 1 := by kernel_rfl
theorem u64_u : Tryd.prog.underlying 79 = some (.int .u64) := by kernel_rfl
theorem i64_u : Tryd.prog.underlying 3 = some (.int .i64) := by kernel_rfl
theorem i64_i : (Tryd.prog.info? 3).map (·.size) = some 1 := by kernel_rfl
theorem i64_info : (Tryd.prog.info? 3).map (fun i => (i.zero, i.size, i.bytes)) = some (some (.int .i64 0), 1, 8) := by kernel_rfl
theorem str_u : Tryd.prog.underlying 9 = some .string := by kernel_rfl
end Go.Proofs.YtkgefljjjheobaaDoor.Oct
