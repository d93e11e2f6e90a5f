/- Frames as arguments. -/
import Derived.Test.YtafdandnbbbdfaaDoorFrmL
import Derived.Test.YtafdandnbbbdfaaDoorOpen
namespace Go.Proofs.YtafdandnbbbdfaaDoor
open Go Go.RowKit Go.Tum Go.Tum.Crc Go.WideShapes Go.ChangeShapes

section
variable {H : Type} {enc : TypeId × Value → H} {w : World} {base : Nat} {held : Bool}
theorem open_frame {v : Value} {d : DataW H} {p : List MemPlace} {r : Reach} {b0 : Nat} (hval : Value.okWide Tryd.prog w r b0 27 v) (h : DataW.Trod enc Tryd.prog w base (fun _ => true) held 27 v d p) :
    ∃ (x : Fr) (u : Value), v = fv x u ∧ Byt w u x.body := by
  obtain ⟨x0, x1, y0, y1, n, rfl, -, -, h0, h1⟩ := Joins.open_agg2 Tryd.underlying27 (by kernel_rfl) (by kernel_rfl) hval h
  obtain ⟨a, e, -, hw⟩ := DataW.trod_int Tryd.underlying5 h0
  simp at e; subst e
  obtain ⟨b, rfl⟩ := u8_of hw
  obtain ⟨l, hl⟩ := open_byt_trod Tryd.underlying25 Tryd.underlying5 (by kernel_rfl) h1
  exact ⟨⟨b, l⟩, x1, rfl, hl⟩
end
end Go.Proofs.YtafdandnbbbdfaaDoor
