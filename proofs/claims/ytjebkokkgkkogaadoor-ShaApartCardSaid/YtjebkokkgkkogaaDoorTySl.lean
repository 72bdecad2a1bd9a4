/- The type []uint8. -/
import Derived.Test.YtjebkokkgkkogaaDoorRows
import Derived.WalkKit
namespace Go.Proofs.YtjebkokkgkkogaaDoor.Oct
open Go.RowKit
theorem sli_u : Tryd.prog.underlying 22 = some (.slice 5) := by kernel_rfl
theorem u8_info : (Tryd.prog.info? 5).map (fun i => (i.zero, i.size, i.bytes)) = some (some (.int .u8 0), 1, 1) := by kernel_rfl
end Go.Proofs.YtjebkokkgkkogaaDoor.Oct
