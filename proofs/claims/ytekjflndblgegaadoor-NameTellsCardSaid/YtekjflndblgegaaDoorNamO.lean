/- Arguments of layer 14's laws: arrays of two numbers, slices of texts. -/
import Derived.Test.YtekjflndblgegaaDoorLaw14D
import Derived.Lib.SmallJoins
import Derived.Deep.Strs
set_option linter.unusedSimpArgs false
set_option linter.unusedVariables false
namespace Go.Proofs.YtekjflndblgegaaDoor
open Go Go.RowKit Go.Tum Go.ChangeMaps Go.WideShapes Go.ChangeShapes

theorem nm14_of (s : ByteArray) : s = str s.data.toList := by
  apply ByteArray.ext
  simp [str]
section
variable {H : Type} {enc : TypeId × Value → H} {w : World} {base : Nat} {held : Bool}
theorem okWide_array14 {P : Program} {r : Reach} {b0 : Nat} {t e : TypeId} {n : Nat} {v : Value} (ht : P.underlying t = some (.array n e)) (h : Value.okWide P w r b0 t v) : ∃ cs, v = .agg cs ∧ cs.size = P.cellsOf t := by
  simp only [Value.okWide, ht] at h
  obtain ⟨cs, h1, h2, _⟩ := h
  exact ⟨cs, h1, h2⟩
theorem open_arr2 {P : Program} {spare : Nat → Bool} {r : Reach} {b0 : Nat} {t e : TypeId} {k : IntKind} {v : Value} {d : DataW H} {p : List MemPlace} (ht : P.underlying t = some (.array 2 e)) (he : P.underlying e = some (.int k)) (hC : P.cellsOf t = 2) (hE : P.cellsOf e = 1)
    (hv : Value.okWide P w r b0 t v) (h : DataW.Trod enc P w base spare held t v d p) : ∃ x y : Int, v = .agg #[.int k x, .int k y] ∧ (Lit.int k x).wf = true ∧ (Lit.int k y).wf = true := by
  obtain ⟨cs, rfl, hsz⟩ := okWide_array14 ht hv
  obtain ⟨c0, c1, rfl⟩ := Joins.array2 (hsz.trans hC)
  obtain ⟨fuel, hf⟩ := h
  obtain ⟨xs, m, -, -, -, hn, hat⟩ := DataW.trod_array ht hf
  have h0 := hat 0 (by omega)
  have h1 := hat 1 (by omega)
  rw [hE] at h0 h1
  rw [List.getElem?_eq_getElem (by omega)] at h0 h1
  obtain ⟨x, e0, -, w0⟩ := DataW.trod_int he (cs := [c0]) (by simpa [Value.cells] using h0)
  obtain ⟨y, e1, -, w1⟩ := DataW.trod_int he (cs := [c1]) (by simpa [Value.cells] using h1)
  simp only [List.cons.injEq, and_true] at e0 e1
  subst e0 e1
  exact ⟨x, y, rfl, w0, w1⟩
theorem open_names14 {v : Value} {d : DataW H} {p : List MemPlace} {r : Reach} {b0 : Nat} (hval : Value.okWide Tryd.prog w r b0 23 v) (h : DataW.Trod enc Tryd.prog w base (fun _ => true) held 23 v d p) :
    ∃ l : List Nm, Vec vN w v l := by
  obtain ⟨a, len, cap, rfl⟩ := okWide_slice Tryd.underlying23 hval
  obtain ⟨fuel, hf⟩ := h
  replace hf : DataW.trod enc Tryd.prog w base (fun _ => true) held fuel 23 [.slice a len cap] = some (d, p) := hf
  rcases Go.Deep.open_strs Tryd.underlying23 Tryd.underlying9 (by kernel_rfl) hf with ⟨h0, _⟩ | ⟨a, len, cap, m, Sx, hcs, hb, hl, hm, hz, hx, hcell⟩
  · simp at h0
    obtain ⟨rfl, rfl, rfl⟩ := h0
    exact ⟨[], Vec.nil _⟩
  · simp at hcs
    obtain ⟨rfl, rfl, rfl⟩ := hcs
    refine ⟨(List.range len).map fun i => (Sx i).data.toList, ⟨by simp, some a, cap, by simp, by simpa using hl, hm, fun h => (by cases h), fun b hb j u hu => ?_⟩⟩
    cases hb
    simp only [if_true] at hz
    rw [List.map_map, List.getElem?_map] at hu
    by_cases hj : j < len
    · rw [List.getElem?_range hj] at hu
      simp only [Option.map_some, Function.comp_apply, Option.some.injEq] at hu
      rw [(hcell j (by omega)).1, ← hu]
      exact congrArg (fun z => some (Value.string z)) (nm14_of (Sx j))
    · rw [List.getElem?_eq_none (by simpa using hj)] at hu
      simp at hu
end
end Go.Proofs.YtekjflndblgegaaDoor
