/- The document's answers of layer 2: Put, All, Same, Get. -/
import Derived.Test.YtiblhopjhpflpaaDoorVintB1
import Derived.Test.YtiblhopjhpflpaaDoorSame
set_option maxRecDepth 100000
namespace Go.Proofs.YtiblhopjhpflpaaDoor
open Go.RowKit Go.Tum Go.Tum.Vint

end Go.Proofs.YtiblhopjhpflpaaDoor
