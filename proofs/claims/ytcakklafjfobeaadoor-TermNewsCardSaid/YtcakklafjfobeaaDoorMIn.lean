/- Types of cells and commands. -/
import Derived.Test.YtcakklafjfobeaaDoorMWc
import Derived.Test.YtcakklafjfobeaaDoorMLb
import Derived.Test.YtcakklafjfobeaaDoorProg
/- The table's row of a cell's type. -/
namespace Go.Proofs.YtcakklafjfobeaaDoor
open Go.RowKit
theorem Tryd.info50 : (Tryd.prog.info? 50).map (fun i => (i.zero, i.size, i.bytes)) = some (some (.agg #[.int .i32 0, .int .i64 0]), 2, 16) := by kernel_rfl
theorem Tryd.size30 : (Tryd.prog.info? 50).map (·.size) = some 2 := by kernel_rfl
end Go.Proofs.YtcakklafjfobeaaDoor
/- The table's row of a command's type. -/
namespace Go.Proofs.YtcakklafjfobeaaDoor
open Go.RowKit
theorem Tryd.info37 : (Tryd.prog.info? 37).map (fun i => (i.zero, i.size, i.bytes)) = some (some (.agg #[.int .i64 0, .int .i64 0, .int .i64 0, .int .i32 0]), 4, 32) := by kernel_rfl
end Go.Proofs.YtcakklafjfobeaaDoor
