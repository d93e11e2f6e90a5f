/- Frames as arguments. -/
import Derived.Test.YtbecahknondmeaaFrmL
import Derived.Test.YtbecahknondmeaaOpen
namespace Go.Proofs.Ytbecahknondmeaa
open Go Go.RowKit Go.Tum Go.Tum.Crc Go.WideShapes Go.ChangeShapes

section
variable {H : Type} {enc : TypeId × Value → H} {w : World} {base : Nat} {held : Bool}
theorem open_frame {v : Value} {d : DataW H} {p : List MemPlace} {r : Reach} {b0 : Nat} (hval : Value.okWide Try.prog w r b0 24 v) (h : DataW.Trod enc Try.prog w base (fun _ => true) held 24 v d p) :
    ∃ (x : Fr) (u : Value), v = fv x u ∧ Byt w u x.body := by
  obtain ⟨x0, x1, y0, y1, n, rfl, -, -, h0, h1⟩ := Joins.open_agg2 Try.underlying24 (by kernel_rfl) (by kernel_rfl) hval h
  obtain ⟨a, e, -, hw⟩ := DataW.trod_int Try.underlying5 h0
  simp at e; subst e
  obtain ⟨b, rfl⟩ := u8_of hw
  obtain ⟨l, hl⟩ := open_byt_trod Try.underlying22 Try.underlying5 (by kernel_rfl) h1
  exact ⟨⟨b, l⟩, x1, rfl, hl⟩
theorem open_frames {v : Value} {d : DataW H} {p : List MemPlace} {r : Reach} {b0 : Nat} (hval : Value.okWide Try.prog w r b0 35 v) (h : DataW.Trod enc Try.prog w base (fun _ => true) held 35 v d p) :
    ∃ l : List Fr, Frs w v l := by
  obtain ⟨a, len, cap, rfl⟩ := okWide_slice Try.underlying35 hval
  obtain ⟨fuel, hf⟩ := h
  replace hf : DataW.trod enc Try.prog w base (fun _ => true) held fuel 35 [.slice a len cap] = some (d, p) := hf
  rcases open_slice_fields Try.underlying35 Try.underlying24 (by kernel_rfl) (by kernel_rfl) hf with ⟨h0, _⟩ | ⟨a, len, cap, m, D, Pl, hcs, hb, hl, hm, hmm, hx, hi⟩
  · simp at h0
    obtain ⟨rfl, rfl, rfl⟩ := h0
    exact ⟨[], Frs.nil w⟩
  · simp at hcs
    obtain ⟨rfl, rfl, rfl⟩ := hcs
    simp at hmm
    subst hmm
    have hrow : ∀ i, i < len → ∃ q : Fr × Value, Byt w q.2 q.1.body ∧ ∀ j u, (fcells q)[j]? = some u → w.cell? (a.add (i * 2 + j)) = some u := by
      intro i hil
      obtain ⟨ys, n, -, -, -, hfj⟩ := hi i (by omega)
      obtain ⟨u0, y0, k0, -, t0⟩ := hfj 0 _ rfl
      obtain ⟨u1, y1, k1, -, t1⟩ := hfj 1 _ rfl
      obtain ⟨z, e, -, hw⟩ := DataW.trod_int Try.underlying5 t0
      simp at e; subst e
      obtain ⟨b, rfl⟩ := u8_of hw
      obtain ⟨l, hl⟩ := open_byt_trod Try.underlying22 Try.underlying5 (by kernel_rfl) t1
      refine ⟨(⟨b, l⟩, u1), hl, fun j u hu => ?_⟩
      match j, hu with
      | 0, hu => simp at hu; subst hu; exact k0
      | 1, hu => simp at hu; subst hu; exact k1
    obtain ⟨q, hq, hQ⟩ := list_of len hrow
    refine ⟨q.map (·.1), q, rfl, RowsOf.mk' hq hl hm (by decide) (fun _ _ => rfl) (fun i h j u hu => (hQ i h).2 j u hu), ?_⟩
    intro p hp
    obtain ⟨i, hil, rfl⟩ := List.mem_iff_getElem.1 hp
    exact (hQ i hil).1
end
end Go.Proofs.Ytbecahknondmeaa
