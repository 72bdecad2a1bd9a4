/- The plain types: bytes, slices of bytes, words, strings, ints. -/
import Derived.Test.YthokiohdeclmhaaRows
import Derived.WalkKit
namespace Go.Proofs.Ythokiohdeclmhaa.Oct
open Go.RowKit
theorem u8_u : Try.prog.underlying 5 = some (.int .u8) := by kernel_rfl
theorem u8_i : (Try.prog.info? 5).map (·.size) = some 1 := by kernel_rfl
theorem u8_size (w : World) : (sizeOf 5).run Try.prog w = .ok 1 w := by kernel_rfl
theorem u8_info : (Try.prog.info? 5).map (fun i => (i.zero, i.size, i.bytes)) = some (some (.int .u8 0), 1, 1) := by kernel_rfl
theorem sli_u : Try.prog.underlying 29 = some (.slice 5) := by kernel_rfl
theorem u32_u : Try.prog.underlying 103 = some (.int .u32) := by kernel_rfl
theorem u32_i : (Try.prog.info? 103).map (·.size) = some 1 := by kernel_rfl
theorem u64_u : Try.prog.underlying 105 = some (.int .u64) := by kernel_rfl
theorem i64_u : Try.prog.underlying 3 = some (.int .i64) := by kernel_rfl
theorem i64_i : (Try.prog.info? 3).map (·.size) = some 1 := by kernel_rfl
theorem i64_info : (Try.prog.info? 3).map (fun i => (i.zero, i.size, i.bytes)) = some (some (.int .i64 0), 1, 8) := by kernel_rfl
theorem ints_u : Try.prog.underlying 68 = some (.slice 3) := by kernel_rfl
theorem str_u : Try.prog.underlying 9 = some .string := by kernel_rfl
end Go.Proofs.Ythokiohdeclmhaa.Oct
