/- A text as an argument. -/
import Derived.Test.YtekjflndblgegaaDoorLaw14E
import Derived.ShutString
set_option linter.unusedVariables false
namespace Go.Proofs.YtekjflndblgegaaDoor
open Go Go.RowKit Go.Tum Go.ChangeMaps Go.Sort Go.Nam
section
open Go.WideShapes Go.ChangeShapes
variable {H : Type} {enc : TypeId × Value → H} {w : World} {base : Nat} {held : Bool}
theorem open_str14 {v : Value} {d : DataW H} {p : List MemPlace} {r : Reach} {b0 : Nat} (hval : Value.okWide Tryd.prog w r b0 9 v) (h : DataW.Trod enc Tryd.prog w base (fun _ => true) held 9 v d p) :
    ∃ l : List UInt8, v = .string (str l) := by
  obtain ⟨s, rfl, -⟩ := Go.ChangeMaps.open_string Tryd.underlying9 hval h
  exact ⟨s.data.toList, congrArg Value.string (nm14_of s)⟩
end
end Go.Proofs.YtekjflndblgegaaDoor
