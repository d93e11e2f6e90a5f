/- The frame's reading of an argument that is a text. -/
import Derived.Test.YtakhanlnfoajcaaDoorLabA
import Derived.Test.YtakhanlnfoajcaaDoorOpen
import Derived.ShutString
import Derived.OpenShut
namespace Go.Proofs.YtakhanlnfoajcaaDoor
open Go Go.RowKit Go.Tum Go.WideShapes Go.ChangeShapes
section
variable {H : Type} {enc : TypeId × Value → H} {w : World} {base : Nat} {held : Bool}
theorem open_str {v : Value} {d : DataW H} {p : List MemPlace} {r : Reach} {b0 : Nat} (hval : Value.okWide Tryd.prog w r b0 9 v) (h : DataW.Trod enc Tryd.prog w base (fun _ => true) held 9 v d p) :
    ∃ l : List UInt8, v = .string (str l) := by
  obtain ⟨s, rfl, -⟩ := Go.ChangeMaps.open_string Tryd.underlying9 hval h
  refine ⟨s.data.toList, ?_⟩
  congr 1
end
end Go.Proofs.YtakhanlnfoajcaaDoor
