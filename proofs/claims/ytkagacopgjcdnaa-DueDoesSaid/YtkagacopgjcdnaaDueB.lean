/- Package due: swap. -/
import Derived.Test.YtkagacopgjcdnaaDueA
import Derived.Test.YtkagacopgjcdnaaParC
set_option linter.unusedSimpArgs false
set_option linter.unusedVariables false
namespace Go.Proofs.Ytkagacopgjcdnaa
open Go Go.RowKit Go.Tum Go.ChangeMaps
open Go.ParB (upd Lof)

theorem upd_ne {L : Nat → Bool} {i j : Nat} (h : j ≠ i) : upd L i j = L j := by unfold upd; rw [if_neg h]
theorem upd_eq {L : Nat → Bool} {i : Nat} : upd L i i = true := by unfold upd; rw [if_pos rfl]
theorem upd_mono {L : Nat → Bool} {i j : Nat} (h : L j = true) : upd L i j = true := by unfold upd; split <;> simp_all
/-- Inside the assignment of two entries of the row: operation 25 sets the one, 27 the other. -/
structure SwA (w0 : World) (g b n cap i j : Nat) (row : List UInt64) (xi xj : UInt64) (L : Nat → Bool) (w : World) : Prop where
  fr : Fr [g] w0 w
  o1 : L 25 = true → L 16 = true ∧ L 23 = true
  o2 : L 27 = true → L 25 = true
  s0 : L 25 = false → OwV vU w b 23 (.slice (some ⟨g, 0, none⟩) n cap) row
  s1 : L 25 = true → L 27 = false → OwV vU w b 23 (.slice (some ⟨g, 0, none⟩) n cap) (row.set i xj)
  s2 : L 27 = true → OwV vU w b 23 (.slice (some ⟨g, 0, none⟩) n cap) ((row.set i xj).set j xi)
section
variable {w0 w : World} {g b n cap i j : Nat} {row : List UInt64} {xi xj : UInt64} {L : Nat → Bool}
theorem SwA.other (h : SwA w0 g b n cap i j row xi xj L w) {o : Nat} (ho : 25 ≠ o ∧ 27 ≠ o) : SwA w0 g b n cap i j row xi xj (upd L o) w :=
  ⟨h.fr, fun e => by rw [upd_ne ho.1] at e; exact ⟨upd_mono (h.o1 e).1, upd_mono (h.o1 e).2⟩, fun e => by rw [upd_ne ho.2] at e; rw [upd_ne ho.1]; exact h.o2 e,
    fun e => by rw [upd_ne ho.1] at e; exact h.s0 e, fun e k => by rw [upd_ne ho.1] at e; rw [upd_ne ho.2] at k; exact h.s1 e k, fun e => by rw [upd_ne ho.2] at e; exact h.s2 e⟩
theorem SwA.start (h : OwV vU w0 b 23 (.slice (some ⟨g, 0, none⟩) n cap) row) : SwA w0 g b n cap i j row xi xj (fun _ => false) { w0 with drawn := w0.drawn + 1 } :=
  ⟨Ext.fr (Ext.draw w0), fun e => by simp at e, fun e => by simp at e, fun _ => h.ext (Ext.draw w0), fun e => by simp at e, fun e => by simp at e⟩
theorem SwA.old (h : SwA w0 g b n cap i j row xi xj L w) (e : L 16 = false ∨ L 23 = false) : OwV vU w b 23 (.slice (some ⟨g, 0, none⟩) n cap) row := by
  refine h.s0 (Bool.eq_false_iff.2 fun k => ?_)
  obtain ⟨a, c⟩ := h.o1 k
  rcases e with e | e
  · rw [a] at e; cases e
  · rw [c] at e; cases e
theorem SwA.one (h : SwA w0 g b n cap i j row xi xj L w) (e : L 25 = false) (d : L 16 = true ∧ L 23 = true) : SwA w0 g b n cap i j row xi xj (upd L 25) (w.setCell ⟨g, i, none⟩ (vU xj)) := by
  have h27 : L 27 = false := Bool.eq_false_iff.2 fun k => by rw [h.o2 k] at e; cases e
  refine ⟨h.fr.trans (fr_setCell _ _ _ (by simp)), fun _ => ⟨upd_mono d.1, upd_mono d.2⟩, fun _ => upd_eq, fun k => (by rw [upd_eq] at k; cases k), fun _ _ => (h.s0 e).set i xj, fun k => ?_⟩
  rw [upd_ne (by decide), h27] at k; cases k
theorem SwA.two (h : SwA w0 g b n cap i j row xi xj L w) (e : L 27 = false) (d : L 25 = true) : SwA w0 g b n cap i j row xi xj (upd L 27) (w.setCell ⟨g, j, none⟩ (vU xi)) := by
  refine ⟨h.fr.trans (fr_setCell _ _ _ (by simp)), fun _ => ⟨upd_mono (h.o1 d).1, upd_mono (h.o1 d).2⟩, fun _ => by rw [upd_ne (by decide)]; exact d, fun k => ?_, fun _ k => (by rw [upd_eq] at k; cases k), fun _ => (h.s1 d e).set j xi⟩
  rw [upd_ne (by decide), d] at k; cases k
end
/-- Inside the assignment of two places: operations 24, 26 set the one, 27, 29 the other. -/
structure SwB (w0 : World) (mp : Nat) (O1 O2 : Obj) (L : Nat → Bool) (w : World) : Prop where
  fr : Fr [mp] w0 w
  lt : mp < w0.heap.size
  o1 : L 26 = true → L 24 = true
  o2 : L 27 = true → L 26 = true
  o3 : L 29 = true → L 27 = true
  s0 : L 26 = false → w.heap[mp]? = w0.heap[mp]?
  s1 : L 26 = true → L 29 = false → w.heap[mp]? = some O1
  s2 : L 29 = true → w.heap[mp]? = some O2
section
variable {w0 w : World} {mp : Nat} {O1 O2 : Obj} {L : Nat → Bool}
theorem SwB.other (h : SwB w0 mp O1 O2 L w) {o : Nat} (ho : 26 ≠ o ∧ 27 ≠ o ∧ 29 ≠ o) : SwB w0 mp O1 O2 (upd L o) w :=
  ⟨h.fr, h.lt, fun e => by rw [upd_ne ho.1] at e; exact upd_mono (h.o1 e), fun e => by rw [upd_ne ho.2.1] at e; rw [upd_ne ho.1]; exact h.o2 e, fun e => by rw [upd_ne ho.2.2] at e; rw [upd_ne ho.2.1]; exact h.o3 e,
    fun e => by rw [upd_ne ho.1] at e; exact h.s0 e, fun e k => by rw [upd_ne ho.1] at e; rw [upd_ne ho.2.2] at k; exact h.s1 e k, fun e => by rw [upd_ne ho.2.2] at e; exact h.s2 e⟩
theorem SwB.start (h : mp < w0.heap.size) : SwB w0 mp O1 O2 (fun _ => false) { w0 with drawn := w0.drawn + 1 } :=
  ⟨Ext.fr (Ext.draw w0), h, fun e => by simp at e, fun e => by simp at e, fun e => by simp at e, fun _ => rfl, fun e => by simp at e, fun e => by simp at e⟩
theorem fr_block {S : List Nat} {w : World} {b : Nat} {O : Obj} (hb : b ∈ S) : Fr S w (setBlock w b O) := by
  refine ⟨rfl, rfl, rfl, by simp [setBlock], fun j hj hn => ?_⟩
  have : b ≠ j := fun e => hn (by rw [← e]; exact hb)
  simp [setBlock, Array.getElem?_setIfInBounds_ne this]
theorem set_block {w : World} {b : Nat} {O : Obj} (hb : b < w.heap.size) : (setBlock w b O).heap[b]? = some O := by simp [setBlock, hb]
theorem SwB.one (h : SwB w0 mp O1 O2 L w) (e : L 26 = false) (d : L 24 = true) : SwB w0 mp O1 O2 (upd L 26) (setBlock w mp O1) := by
  have h27 : L 27 = false := Bool.eq_false_iff.2 fun k => by rw [h.o2 k] at e; cases e
  have h29 : L 29 = false := Bool.eq_false_iff.2 fun k => by rw [h.o3 k] at h27; cases h27
  refine ⟨h.fr.trans (fr_block (by simp)), h.lt, fun _ => upd_mono d, fun _ => upd_eq, fun k => upd_mono (h.o3 (by rwa [upd_ne (by decide)] at k)), fun k => (by rw [upd_eq] at k; cases k), fun _ _ => set_block (Nat.lt_of_lt_of_le h.lt h.fr.size), fun k => ?_⟩
  rw [upd_ne (by decide), h29] at k; cases k
theorem SwB.mid (h : SwB w0 mp O1 O2 L w) (d : L 26 = true) : SwB w0 mp O1 O2 (upd L 27) w :=
  ⟨h.fr, h.lt, fun e => by rw [upd_ne (by decide)] at e; exact upd_mono (h.o1 e), fun _ => upd_mono d, fun _ => upd_eq,
    fun e => by rw [upd_ne (by decide)] at e; exact h.s0 e, fun e k => by rw [upd_ne (by decide)] at e k; exact h.s1 e k, fun e => by rw [upd_ne (by decide)] at e; exact h.s2 e⟩
theorem SwB.two (h : SwB w0 mp O1 O2 L w) (d : L 27 = true) : SwB w0 mp O1 O2 (upd L 29) (setBlock w mp O2) := by
  refine ⟨h.fr.trans (fr_block (by simp)), h.lt, fun e => by rw [upd_ne (by decide)] at e; exact upd_mono (h.o1 e), fun e => by rw [upd_ne (by decide)] at e; exact upd_mono (h.o2 e), fun _ => upd_mono d, fun k => ?_, fun _ k => (by rw [upd_eq] at k; cases k), fun _ => set_block (Nat.lt_of_lt_of_le h.lt h.fr.size)⟩
  rw [upd_ne (by decide), h.o2 d] at k; cases k
end
end Go.Proofs.Ytkagacopgjcdnaa
