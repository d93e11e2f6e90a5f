/- Package sum: Cut. -/
import Derived.Test.YtpbmbjdiilnaeaaDoorSumB
import Derived.Test.YtpbmbjdiilnaeaaDoorPar
import Derived.Deep.QuietTactic
import Derived.BigQuiet
set_option maxRecDepth 100000
namespace Go.Proofs.YtpbmbjdiilnaeaaDoor
open Go.RowKit Go.Tum Go.Tum.Crc

end Go.Proofs.YtpbmbjdiilnaeaaDoor
