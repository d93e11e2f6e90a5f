/- Package vint: All. -/
import Derived.Test.YtpbmbjdiilnaeaaDoorVintA
import Derived.Deep.Cut
set_option maxRecDepth 100000
namespace Go.Proofs.YtpbmbjdiilnaeaaDoor
open Go.RowKit Go.Tum Go.Tum.Vint

theorem info64 : (Tryd.prog.info? 22).map (fun i => (i.zero, i.size, i.bytes)) = some (some (.int .u64 0), 1, 8) := by kernel_rfl

end Go.Proofs.YtpbmbjdiilnaeaaDoor
