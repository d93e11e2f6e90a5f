/- Package frame: a frame's bytes. -/
import Derived.Test.YtpbmbjdiilnaeaaDoorSumC
import Derived.Test.YtpbmbjdiilnaeaaDoorParB
import Derived.Test.YtpbmbjdiilnaeaaDoorFrmM
set_option maxRecDepth 100000
namespace Go.Proofs.YtpbmbjdiilnaeaaDoor
open Go.RowKit Go.Tum Go.Tum.Crc

abbrev fv (x : Fr) (v : Value) : Value := .agg #[.int .u8 (x.kind.toNat : Int), v]

def fbytesR (x : Fr) : List UInt8 × Int := if 400 < x.body.length then ([], 4) else (fbytes x, 0)

end Go.Proofs.YtpbmbjdiilnaeaaDoor
