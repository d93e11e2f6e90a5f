/- Package record: Same; the document's Large, Ints. -/
import Derived.Test.YtiblhopjhpflpaaDoorRecE
set_option maxRecDepth 100000
namespace Go.Proofs.YtiblhopjhpflpaaDoor
open Go.RowKit Go.Tum Go.Tum.Crc Go.Tum.Vint

def recSame (a b : Rc) : Bool := decide (a = b)
theorem recSame_eq (a b : Rc) : recSame a b = ((a.kind == b.kind) && ((a.n == b.n) && (a.text == b.text))) := by
  unfold recSame
  cases a; cases b
  simp only [Rc.mk.injEq]
  rw [Bool.eq_iff_iff]; simp
theorem str_inj {a b : List UInt8} : str a = str b ↔ a = b := ⟨fun h => by rw [← str_data a, h, str_data b], fun h => by rw [h]⟩

def largeB (r : Rc) : Bool := decide (100 < r.n.length) || decide (300 < r.text.length)
abbrev iv (n : Nat) : Value := .int .i64 (n : Int)
end Go.Proofs.YtiblhopjhpflpaaDoor
