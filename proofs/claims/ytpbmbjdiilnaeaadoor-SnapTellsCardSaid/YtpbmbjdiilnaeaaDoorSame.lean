/- The document's answers of layer 1: Same. -/
import Derived.Test.YtpbmbjdiilnaeaaDoorRows
import Derived.Test.YtpbmbjdiilnaeaaDoorLib
import Derived.Deep.QuietTactic
import Derived.BigQuiet
namespace Go.Proofs.YtpbmbjdiilnaeaaDoor
open Go.RowKit Go.Tum

end Go.Proofs.YtpbmbjdiilnaeaaDoor
