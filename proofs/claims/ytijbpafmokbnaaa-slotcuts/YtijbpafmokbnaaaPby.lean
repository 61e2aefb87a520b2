/- A byte among the program's types. -/
import Derived.Test.YtijbpafmokbnaaaBys
import Derived.Test.YtijbpafmokbnaaaProg
namespace Go.Proofs.Ytijbpafmokbnaaa
open Go.RowKit Go.Shelf Gw Pol
theorem pbyte_info : (Try.prog.info? 5).map (fun i => (i.zero, i.size, i.bytes)) = some (some (.int .u8 0), 1, 1) := by kernel_rfl
theorem pbyte_size : (Try.prog.info? 5).map (·.size) = some 1 := by kernel_rfl
end Go.Proofs.Ytijbpafmokbnaaa
