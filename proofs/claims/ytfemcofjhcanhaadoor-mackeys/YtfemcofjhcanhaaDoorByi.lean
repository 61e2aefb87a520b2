/- What the program says of bytes. -/
import Derived.Test.YtfemcofjhcanhaaDoorBys
import Derived.Test.YtfemcofjhcanhaaDoorProg
namespace Go.Proofs.YtfemcofjhcanhaaDoor
open Go.RowKit Go.Shelf Gw
theorem byte_info : (Tryd.prog.info? 5).map (fun i => (i.zero, i.size, i.bytes)) = some (some (.int .u8 0), 1, 1) := by kernel_rfl
theorem byte_size : (Tryd.prog.info? 5).map (·.size) = some 1 := by kernel_rfl
end Go.Proofs.YtfemcofjhcanhaaDoor
