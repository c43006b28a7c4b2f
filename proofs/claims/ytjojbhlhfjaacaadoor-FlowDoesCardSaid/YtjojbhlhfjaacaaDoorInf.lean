/- The table's row of a cell's type. -/
import Derived.Test.YtjojbhlhfjaacaaDoorWdD
namespace Go.Proofs.YtjojbhlhfjaacaaDoor
open Go.RowKit
theorem Tryd.info40 : (Tryd.prog.info? 40).map (fun i => (i.zero, i.size, i.bytes)) = some (some (.agg #[.int .i32 0, .int .i64 0]), 2, 16) := by kernel_rfl
theorem Tryd.size30 : (Tryd.prog.info? 40).map (·.size) = some 2 := by kernel_rfl
end Go.Proofs.YtjojbhlhfjaacaaDoor
