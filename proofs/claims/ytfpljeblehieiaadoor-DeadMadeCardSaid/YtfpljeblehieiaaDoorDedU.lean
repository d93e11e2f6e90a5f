/- The dead's laws: opening strings. -/
import Derived.Test.YtfpljeblehieiaaDoorDedAt
namespace Go.Proofs.YtfpljeblehieiaaDoor
open Go Go.RowKit Go.Tum Go.ChangeMaps Go.WideShapes Go.ChangeShapes
section
variable {H : Type} {enc : TypeId × Value → H} {w : World} {base : Nat} {held : Bool}
set_option maxRecDepth 100000 in
theorem open_strD {v : Value} {d : DataW H} {p : List MemPlace} {r : Reach} {b0 : Nat} (hval : Value.okWide Tryd.prog w r b0 9 v) (h : DataW.Trod enc Tryd.prog w base (fun _ => true) held 9 v d p) :
    ∃ l : List UInt8, v = .string (str l) ∧ d = .lit (.string l) ∧ p = [] := by
  obtain ⟨s, rfl, rfl, rfl, -⟩ := Go.ChangeMaps.open_string Tryd.underlying9 hval h
  exact ⟨s.data.toList, congrArg Value.string (nmD_of s), rfl, rfl⟩
end
end Go.Proofs.YtfpljeblehieiaaDoor
