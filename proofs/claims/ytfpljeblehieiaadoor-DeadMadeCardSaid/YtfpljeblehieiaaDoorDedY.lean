/- The dead's laws: mathematics of DeadAgain. -/
import Derived.Test.YtfpljeblehieiaaDoorDedX
set_option linter.unusedSimpArgs false
set_option linter.unusedVariables false
namespace Go.Proofs.YtfpljeblehieiaaDoor
open Go Go.RowKit Go.Tum Go.ChangeMaps Go.Sort Go.Tum.Rn

theorem takeR_ok : ∀ (l : List (UInt64 × UInt64)) (a : UInt64) (s : PD), (∀ z ∈ l, a < z.2 ∧ z.2 ≤ s.last) → (l.Pairwise fun x y => x.2 < y.2) → ((s.rows ++ l).map Prod.fst).Nodup → takeR a l s = some { s with rows := s.rows ++ l }
  | [], a, s, _, _, _ => by rw [takeR, List.append_nil]
  | z :: r, a, s, h1, h2, h3 => by
    rw [takeR]
    have hz := h1 z (by simp)
    have e1 : decide (z.2 ≤ a) = false := by
      rw [decide_eq_false_iff_not, UInt64.le_iff_toNat_le]
      have := hz.1; rw [UInt64.lt_iff_toNat_lt] at this; omega
    have e2 : decide (s.last < z.2) = false := by
      rw [decide_eq_false_iff_not, UInt64.lt_iff_toNat_lt]
      have := hz.2; rw [UInt64.le_iff_toNat_le] at this; omega
    have e3 : (s.rows.lookup z.1).isSome = false := by
      have : s.rows.lookup z.1 = none := lku_none.2 (fun hm => by
        rw [List.map_append, List.nodup_append] at h3
        exact h3.2.2 z.1 hm z.1 (by simp) rfl)
      rw [this]; rfl
    rw [e1, e2, e3]
    rw [List.pairwise_cons] at h2
    have := takeR_ok r z.2 { s with rows := s.rows ++ [z] } (fun y hy => ⟨h2.1 y hy, (h1 y (by simp [hy])).2⟩) h2.2 (by simpa using h3)
    simpa using this
theorem takeC_ok : ∀ (l : List Cur) (o : Option Nm) (s : PD), (∀ z ∈ l, rightL z.1 = true ∧ foldL z.1 = z.1 ∧ z.2 ≤ s.last) → (∀ z ∈ l, lessO o z.1 = true) → (l.Pairwise fun x y => ltC x y = true) → takeC o l s = some { s with seen := s.seen ++ l }
  | [], o, s, _, _, _ => by rw [takeC, List.append_nil]
  | z :: r, o, s, h1, h2, h3 => by
    rw [takeC]
    have hz := h1 z (by simp)
    have e2 : decide (s.last < z.2) = false := by
      rw [decide_eq_false_iff_not, UInt64.lt_iff_toNat_lt]
      have := hz.2.2; rw [UInt64.le_iff_toNat_le] at this; omega
    rw [hz.1, decide_eq_true hz.2.1, e2, h2 z (by simp)]
    rw [List.pairwise_cons] at h3
    have := takeC_ok r (some z.1) { s with seen := s.seen ++ [z] } (fun y hy => h1 y (by simp [hy])) (fun y hy => h3.1 y hy) h3.2
    simpa using this
/-- What a right list tells makes the same list. -/
theorem from_own {s : PD} (h : WD s) (hn : (s.rows.map Prod.fst).Nodup) : fromD s.last s.rows s.seen = some s := by
  unfold fromD
  rw [takeR_ok s.rows 0 ⟨s.last, [], []⟩ (fun z hz => ⟨(h.rl z hz).2, (h.rl z hz).1⟩) h.rs (by simpa using hn)]
  dsimp only
  unfold takeCs
  rw [if_neg (by have := h.s8; omega)]
  rw [takeC_ok s.seen none ⟨s.last, [] ++ s.rows, []⟩ (fun z hz => h.sr z hz) (fun z hz => rfl) h.ss]
  simp
end Go.Proofs.YtfpljeblehieiaaDoor
