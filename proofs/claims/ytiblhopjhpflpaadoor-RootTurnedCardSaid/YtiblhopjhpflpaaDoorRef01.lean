/- The document's answers of layer 1: Entry, More, Of, Four, Put, Same, Cut. -/
import Derived.Test.YtiblhopjhpflpaaDoorSumA
import Derived.Test.YtiblhopjhpflpaaDoorPar
import Derived.Test.YtiblhopjhpflpaaDoorSame
import Derived.Deep.QuietTactic
import Derived.BigQuiet
namespace Go.Proofs.YtiblhopjhpflpaaDoor
open Go.RowKit Go.Tum Go.Tum.Crc

theorem rinfo5 : (Tryd.prog.info? 5).map (fun i => (i.zero, i.size, i.bytes)) = some (some (.int .u8 0), 1, 1) := by kernel_rfl

theorem four_take (n k : Nat) (h : k < 4) : (four n).take (k + 1) = (four n).take k ++ [UInt8.ofNat (n / 256 ^ k % 256)] := by
  match k, h with
  | 0, _ => simp [four]
  | 1, _ => rfl
  | 2, _ => rfl
  | 3, _ => rfl

end Go.Proofs.YtiblhopjhpflpaaDoor
