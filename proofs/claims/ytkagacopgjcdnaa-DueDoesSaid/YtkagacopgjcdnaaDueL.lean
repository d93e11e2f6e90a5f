/- DueMoves. -/
import Derived.Test.YtkagacopgjcdnaaDueK
set_option linter.unusedSimpArgs false
set_option linter.unusedVariables false
namespace Go.Proofs.Ytkagacopgjcdnaa
open Go Go.RowKit Go.Tum Go.ChangeMaps Go.Tum.Hp

theorem HB.keep {S : List Nat} {B : Nat} {w w' : World} {p mt mp : Nat} {At : UInt64 → Option Int} {row : List UInt64} {v : Value} (h : HB B w p mt mp At row v) (f : Fr S w w') (hs : ∀ x ∈ Hb p mt mp v, x ∉ S) : HB B w' p mt mp At row v := by
  refine ⟨⟨(f.block p (Array.getElem?_eq_some_iff.1 h.tr.hd).1 (hs p (by simp [Hb]))).trans h.tr.hd, h.tr.ti.fr f (hs mt (by simp [Hb])), h.tr.pl.fr f (hs mp (by simp [Hb])), ?_, h.tr.nd, h.tr.ne⟩, h.has, h.hp, h.bp, h.bt, h.bm⟩
  refine ⟨h.tr.ow.1, ?_⟩
  rcases h.tr.ow.2 with hn | ⟨g, cap, cur, hv, hb, hgg, rest⟩
  · exact .inl hn
  · exact .inr ⟨g, cap, cur, hv, hb, (f.block g (Array.getElem?_eq_some_iff.1 hgg).1 (hs g (by rw [hv]; simp [Hb, Value.ownBlock]))).trans hgg, rest⟩
theorem HB.lt {B : Nat} {w : World} {p mt mp : Nat} {At : UInt64 → Option Int} {row : List UInt64} {v : Value} (h : HB B w p mt mp At row v) : ∀ x ∈ Hb p mt mp v, x < w.heap.size := by
  obtain ⟨e1, c1, h1⟩ := h.tr.ti.block
  obtain ⟨e2, c2, h2⟩ := h.tr.pl.block
  intro x hx
  simp only [Hb, List.mem_cons] at hx
  rcases hx with rfl | rfl | rfl | hm
  · exact (Array.getElem?_eq_some_iff.1 h.tr.hd).1
  · exact (Array.getElem?_eq_some_iff.1 h1).1
  · exact (Array.getElem?_eq_some_iff.1 h2).1
  · rcases h.tr.ow.2 with ⟨e, _⟩ | ⟨g, cap, cur, hv, _, hgg, _⟩
    · rw [e] at hm; simp [Value.ownBlock] at hm
    · rw [hv] at hm
      simp [Value.ownBlock] at hm
      subst hm
      exact (Array.getElem?_eq_some_iff.1 hgg).1
/-- Two heaps of the same times, in blocks of their own. -/
structure Two (B : Nat) (w : World) (p mt mp p2 mt2 mp2 : Nat) (A : UInt64 → Option Int) (row row2 : List UInt64) (v v2 : Value) : Prop where
  a : HB B w p mt mp A row v
  b : HB B w p2 mt2 mp2 A row2 v2
  d : ∀ x ∈ Hb p mt mp v, x ∉ Hb p2 mt2 mp2 v2
theorem same_perm {B : Nat} {w w2 : World} {p mt mp p2 mt2 mp2 : Nat} {A : UInt64 → Option Int} {row row2 : List UInt64} {v v2 : Value} (h : HB B w p mt mp A row v) (k : HB B w2 p2 mt2 mp2 A row2 v2) : row.Perm row2 := by
  refine (List.perm_ext_iff_of_nodup h.tr.nd k.tr.nd).2 fun x => ?_
  have h1 := h.has x
  have h2 := k.has x
  rw [h1] at h2
  simpa using h2
theorem disj_new {S T T2 : List Nat} {n : Nat} (D : ∀ x ∈ S, x ∉ T) (hs : ∀ x ∈ S, x < n) (ht : ∀ q ∈ T2, q ∈ T ∨ n ≤ q) : ∀ x ∈ S, x ∉ T2 := fun x hx h2 => by
  rcases ht x h2 with h | h
  · exact D x hx h
  · have := hs x hx; omega
theorem disj_sym {S T : List Nat} (D : ∀ x ∈ S, x ∉ T) : ∀ x ∈ T, x ∉ S := fun x hx h => D x h hx
/-- Of two heaps of the same times the same one comes first. -/
theorem same_first {B : Nat} {w w2 : World} {p mt mp p2 mt2 mp2 : Nat} {A : UInt64 → Option Int} {x y : UInt64} {r r2 : List UInt64} {v v2 : Value} (h : HB B w p mt mp A (x :: r) v) (k : HB B w2 p2 mt2 mp2 A (y :: r2) v2) : x = y := by
  have hp := same_perm h k
  have h1 := h.least y (hp.mem_iff.2 (by simp))
  have h2 := k.least x (hp.mem_iff.1 (by simp))
  exact key_inj (At := A) (by omega)
theorem move_as (A : UInt64 → Option Int) (x : UInt64) (a : Int) : setF (delF A x) x a = setF A x a := by
  funext y
  unfold setF delF
  by_cases h : y = x
  · rw [if_pos h, if_pos h]
  · rw [if_neg h, if_neg h, if_neg h]
end Go.Proofs.Ytkagacopgjcdnaa
