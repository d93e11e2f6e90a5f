/- Records: the document's table and texts; rows of numbers; Same. -/
import Derived.Test.YtiblhopjhpflpaaDoorRecB
import Derived.Test.YtiblhopjhpflpaaDoorVintR1
set_option maxRecDepth 100000
namespace Go.Proofs.YtiblhopjhpflpaaDoor
open Go.RowKit Go.Tum Go.Tum.Crc Go.Tum.Vint

/-- The document's number of numbers; -1: no kind. -/
def rmany (k : Int) : Int := if knownB k then (many k : Int) else -1
def rmanyL : List Int := [-1, 0, 5, 2, 1, 2, 2, 1, 1, 1, 1, 1, 5, 7, 10, 2, 1, 1]
theorem rmany_at : ∀ i : Fin 18, rmanyL.getD i.val 0 = rmany (i.val : Int) := by decide
theorem rmany_bad {k : Int} (h : k < 0 ∨ 17 < k) : rmany k = -1 := by
  have : knownB k = false := by
    unfold knownB
    rcases h with h | h
    · rw [show decide (1 ≤ k) = false from by simp; omega]; rfl
    · rw [show decide (k ≤ 17) = false from by simp; omega, Bool.and_false]
  unfold rmany; rw [this]; rfl

end Go.Proofs.YtiblhopjhpflpaaDoor
