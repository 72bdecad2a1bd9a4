/- The type []uint8. -/
import Derived.Test.YtokhldihfbaeoaaRows
import Derived.WalkKit
namespace Go.Proofs.Ytokhldihfbaeoaa.Oct
open Go.RowKit
theorem sli_u : Try.prog.underlying 26 = some (.slice 5) := by kernel_rfl
theorem u8_info : (Try.prog.info? 5).map (fun i => (i.zero, i.size, i.bytes)) = some (some (.int .u8 0), 1, 1) := by kernel_rfl
end Go.Proofs.Ytokhldihfbaeoaa.Oct
