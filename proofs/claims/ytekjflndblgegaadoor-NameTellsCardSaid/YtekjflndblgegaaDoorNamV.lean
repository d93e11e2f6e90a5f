/- The document's names: Only. -/
import Derived.Test.YtekjflndblgegaaDoorNamU
import Derived.Test.YtekjflndblgegaaDoorDskC
import Derived.Test.YtekjflndblgegaaDoorRgM
set_option linter.unusedSimpArgs false
set_option linter.unusedVariables false
namespace Go.Proofs.YtekjflndblgegaaDoor
open Go Go.RowKit Go.Tum Go.ChangeMaps Go.Sort Go.Nam
open Go.ParB (upd Lof)
open Go.ParE (putS slotsR slots Closed)

theorem vec_take {w : World} {ao : Option Addr} {N cap : Nat} {L : List UInt64} (h : Vec uv w (.slice ao N cap) L) (hN : L.length = N) (hi : Nat) (h2 : hi ≤ N) : Vec uv w (.slice ao hi cap) (L.take hi) := by
  obtain ⟨_, a1, a2, a3, a4⟩ := h.opens
  refine ⟨by simp, ao, cap, by rw [List.length_take, Nat.min_eq_left (by omega)], by rw [List.length_take]; omega, by simpa [maxLen] using a2, fun e => ?_, fun a ha j u hu => ?_⟩
  · cases ao with
    | none =>
      rcases Nat.eq_zero_or_pos cap with q | q
      · exact q
      · obtain ⟨a, q⟩ := a3 q; cases q
    | some a => cases e
  · rw [List.getElem?_map, List.getElem?_take] at hu
    split at hu
    · rename_i hj
      rw [List.getElem?_eq_getElem (by omega)] at hu
      simp at hu
      rw [← hu]
      exact a4 a ha j (by omega)
    · simp at hu
theorem vec_drop {w : World} {ao : Option Addr} {N cap : Nat} {L : List UInt64} (h : Vec uv w (.slice ao N cap) L) (hN : L.length = N) (lo : Nat) (h1 : lo ≤ N) (ao' : Option Addr) (hao : ao' = if cap = lo then ao else ao.map (·.add lo)) (k c : Nat) (hk : k = N - lo) (hc : c = cap - lo) :
    Vec uv w (.slice ao' k c) (L.drop lo) := by
  obtain ⟨_, a1, a2, a3, a4⟩ := h.opens
  subst hk hc
  refine ⟨by simp, ao', cap - lo, by rw [List.length_drop, hN], by rw [List.length_drop]; omega, by simp only [maxLen]; omega, fun e => ?_, fun a ha j u hu => ?_⟩
  · rcases Nat.eq_zero_or_pos cap with q | q
    · omega
    · obtain ⟨a, rfl⟩ := a3 q
      rw [hao] at e
      split at e
      · cases e
      · simp at e
  · rw [List.getElem?_map, List.getElem?_drop] at hu
    by_cases hj : lo + j < L.length
    · rw [List.getElem?_eq_getElem hj] at hu
      simp at hu
      rw [← hu]
      have hlc : ¬ cap = lo := by omega
      rw [hao, if_neg hlc] at ha
      cases ao with
      | none => simp at ha
      | some a0 =>
        simp at ha
        rw [← ha, ← a4 a0 rfl (lo + j) hj]
        rw [Go.Deep.add_add]
    · rw [List.getElem?_eq_none (by omega)] at hu
      simp at hu
theorem emp_own14 {w : World} {g e size B : Nat} (h : w.heap[g]? = some (.cells #[] e (0, 0))) (hB : B ≤ g) : w.ownsRow B e size (.slice (some ⟨g, 0, none⟩) 0 0) 0 [] :=
  ⟨by simp, .inr ⟨g, 0, #[], rfl, hB, h, Nat.le_refl _, by simp [maxLen], by simp, by simp⟩⟩
theorem fr_at14 {w w' : World} {S : List Nat} (f : Fr S w w') {b : Nat} {o : Obj} (h : w.heap[b]? = some o) (hs : b ∉ S) : w'.heap[b]? = some o := (f.block b (Array.getElem?_eq_some_iff.1 h).1 hs).trans h
/-- What lives where a number is put between others. -/
def InQ (W : World) (x : UInt64) (A C : List UInt64) (d : Nat) (v : Value) (w : World) : Prop := match d with
  | 47 => ∃ g, v = .slice (some ⟨g, 0, none⟩) 0 0 ∧ w.heap[g]? = some (.cells #[] 22 (0, 0)) ∧ W.heap.size ≤ g
  | 51 => OwV uv w W.heap.size 22 v A
  | 53 => ∃ g, v = .slice (some ⟨g, 0, none⟩) 1 1 ∧ w.heap[g]? = some (.cells #[uv x] 22 (0, 0))
  | 54 => OwV uv w W.heap.size 22 v (A ++ [x])
  | 58 => OwV uv w W.heap.size 22 v (A ++ [x] ++ C)
  | 5 => OwV uv w W.heap.size 22 v (A ++ [x] ++ C) ∧ Ext W w
  | _ => True
theorem InQ.st {W : World} {x : UInt64} {A C : List UInt64} (d : Nat) (v : Value) (w w' : World) (h : InQ W x A C d v w) (k : Ext w w') : InQ W x A C d v w' := by
  unfold InQ at *
  split at h
  · obtain ⟨g, e, hg, hl⟩ := h; exact ⟨g, e, k.obj hg, hl⟩
  · exact OwV.ext h k
  · obtain ⟨g, e, hg⟩ := h; exact ⟨g, e, k.obj hg⟩
  · exact OwV.ext h k
  · exact OwV.ext h k
  · exact ⟨OwV.ext h.1 k, h.2.trans k⟩
  · trivial
end Go.Proofs.YtekjflndblgegaaDoor
