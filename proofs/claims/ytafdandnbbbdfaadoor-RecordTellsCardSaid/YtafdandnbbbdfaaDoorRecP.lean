/- The frame's reading of an argument that is a record. -/
import Derived.Test.YtafdandnbbbdfaaDoorRecA
import Derived.Test.YtafdandnbbbdfaaDoorOpen
import Derived.Lib.SmallJoins
namespace Go.Proofs.YtafdandnbbbdfaaDoor
open Go.RowKit Go.Tum Go.Tum.Crc Go.ChangeShapes Go.WideShapes Go.ChangeAt

section
variable {H : Type} {enc : TypeId × Value → H} {w : World} {base : Nat} {held : Bool}
theorem open_rec {v : Value} {d : DataW H} {p : List MemPlace} {r : Reach} {b0 : Nat} (hval : Value.okWide Tryd.prog w r b0 24 v) (h : DataW.Trod enc Tryd.prog w base (fun _ => true) held 24 v d p) :
    ∃ (x : Rc) (u : Value), v = rv x u ∧ Vec uv w u x.n := by
  obtain ⟨x0, x1, x2, y0, y1, y2, n, rfl, -, -, h0, h1, h2⟩ := Joins.open_agg3 Tryd.underlying24 (by kernel_rfl) (by kernel_rfl) hval h
  obtain ⟨a, e, -, -⟩ := DataW.trod_int Tryd.underlying3 h0
  simp at e; subst e
  obtain ⟨s, e, -, -⟩ := DataW.trod_string Tryd.underlying9 h2
  simp at e; subst e
  have hs : str s.data.toList = s := by
    apply ByteArray.ext
    simp [str]
  obtain ⟨l, hl⟩ : ∃ l : List UInt64, Vec uv w x1 l := by
    rcases open_ints Tryd.underlying22 Tryd.underlying60 (by kernel_rfl) h1 with ⟨h0, _⟩ | ⟨a, len, cap, zs, hcs, hb, hl, hm, hz, hx, hcell, hw⟩
    · simp at h0; subst h0
      exact vec_of_row_u64 (.inl ⟨rfl, rfl, rfl, rfl⟩)
    · simp at hcs; subst hcs
      exact vec_of_row_u64 (.inr ⟨a, rfl, hl, hm, by simpa using hz, hcell, hw⟩)
  refine ⟨⟨a, l, s.data.toList⟩, x1, ?_, hl⟩
  show _ = Value.agg #[.int .i64 a, x1, .string (str s.data.toList)]
  rw [hs]
end

/-- What the row's list gives: the table. -/
def tabZ : List Int := [0, 0, 5, 2, 1, 2, 2, 1, 1, 1, 1, 1, 5, 7, 10, 2, 1, 1]
theorem tabZ_at : ∀ i : Fin 18, tabZ.getD i.val 0 = ((manyT.getD i.val 0 : Nat) : Int) := by decide
end Go.Proofs.YtafdandnbbbdfaaDoor
