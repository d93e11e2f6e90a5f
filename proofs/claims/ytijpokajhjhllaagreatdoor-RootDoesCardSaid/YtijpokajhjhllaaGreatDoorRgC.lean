/- States for drawn regions: operations that turn the world in a forced order (a chain), among reads: one predicate for each stage, on the slots that count and the world. -/
import Derived.Test.YtijpokajhjhllaaGreatDoorRg
set_option linter.unusedSimpArgs false
set_option linter.unusedVariables false
namespace Go.Rg
open Go.RowKit Go.Tum
open Go.ParB (upd Lof)
open Go.ParE (putS slotsR slots Closed)
/-- The slots that count. -/
def rest (ds : List Nat) (σ : Nat → Value) : Nat → Value := fun d => if ds.contains d = true then σ d else undef
theorem rest_put {ds : List Nat} {σ : Nat → Value} {d : Option Nat} {v : Value} (h : ∀ e ∈ ds, d ≠ some e) : rest ds (putS σ d v) = rest ds σ := by
  funext e
  unfold rest putS
  by_cases he : ds.contains e = true
  · rw [if_pos he, if_pos he, if_neg (h e (by simpa using he))]
  · rw [if_neg he, if_neg he]
structure Ch (ks ds : List Nat) (Q : Nat → (Nat → Value) → World → Prop) (L : Nat → Bool) (σ : Nat → Value) (w : World) : Prop where
  ex : ∃ i, i ≤ ks.length ∧ (∀ j k, ks[j]? = some k → L k = decide (j < i)) ∧ Q i (rest ds σ) w
section
variable {W w w' : World} {ks ds : List Nat} {Q : Nat → (Nat → Value) → World → Prop} {L : Nat → Bool} {σ σ' : Nat → Value}
theorem Ch.start (h : Q 0 (rest ds σ) w) : Ch ks ds Q (fun _ => false) σ w := ⟨0, Nat.zero_le _, fun j k _ => by simp, h⟩
theorem Ch.other (h : Ch ks ds Q L σ w) {i : Nat} {d : Option Nat} {v : Value} (hi : i ∉ ks ∧ ∀ e ∈ ds, d ≠ some e) : Ch ks ds Q (upd L i) (putS σ d v) w := by
  obtain ⟨n, h1, h2, h3⟩ := h.ex
  refine ⟨n, h1, fun j k hk => ?_, by rw [rest_put hi.2]; exact h3⟩
  rw [updN (fun e => hi.1 (by rw [← e]; exact List.mem_of_getElem? hk))]
  exact h2 j k hk
/-- At stage i0: what is known, and where its operation leads. -/
theorem Ch.go (h : Ch ks ds Q L σ w) (i0 : Nat) {k : Nat} (hk : ks[i0]? = some k) (hL : L k = false) (hp : i0 = 0 ∨ ∃ k', ks[i0 - 1]? = some k' ∧ L k' = true) (hn : ks.Nodup) :
    Q i0 (rest ds σ) w ∧ ∀ (d : Option Nat) (v : Value) (w' : World), Q (i0 + 1) (rest ds (putS σ d v)) w' → Ch ks ds Q (upd L k) (putS σ d v) w' := by
  obtain ⟨n, h1, h2, h3⟩ := h.ex
  have a1 := h2 i0 k hk
  rw [hL] at a1
  have a2 : ¬ i0 < n := by simpa using a1.symm
  have a3 : n = i0 := by
    rcases hp with rfl | ⟨k', hk', hl'⟩
    · omega
    · have := h2 _ k' hk'
      rw [hl'] at this
      have : i0 - 1 < n := by simpa using this.symm
      omega
  subst a3
  refine ⟨h3, fun d v w' hq => ⟨n + 1, (List.getElem?_eq_some_iff.1 hk).1, fun j m hm => ?_, hq⟩⟩
  by_cases hj : j = n
  · subst hj
    rw [hk] at hm; cases hm
    rw [updE]; simp
  · have hmk : m ≠ k := by
      rintro rfl
      obtain ⟨q1, q2⟩ := List.getElem?_eq_some_iff.1 hm
      obtain ⟨q3, q4⟩ := List.getElem?_eq_some_iff.1 hk
      exact hj ((List.getElem_inj hn).1 (q2.trans q4.symm))
    rw [updN hmk, h2 j m hm]
    by_cases hjn : j < n
    · simp [hjn]; omega
    · simp [hjn]; omega
/-- Ahead of stage n's operation. -/
theorem Ch.some (h : Ch ks ds Q L σ w) (n : Nat) {k : Nat} (hk : ks[n]? = some k) (hL : L k = false) : ∃ i, i ≤ n ∧ Q i (rest ds σ) w := by
  obtain ⟨i, h1, h2, h3⟩ := h.ex
  refine ⟨i, ?_, h3⟩
  have := h2 n k hk
  rw [hL] at this
  have : ¬ n < i := by simpa using this.symm
  omega
theorem Ch.fin {m : Nat} (h : Ch ks ds Q (Lof (Array.replicate m true)) σ w) (hm : ∀ k ∈ ks, k < m) (n : Nat) (hn : ks.length = n) : Q n (rest ds σ) w := by
  obtain ⟨i, h1, h2, h3⟩ := h.ex
  have : i = n := by
    rcases Nat.lt_or_ge i ks.length with hlt | hge
    · have := h2 i ks[i] (by simp [hlt])
      unfold Lof at this
      simp [Array.getElem?_replicate, hm _ (List.getElem_mem hlt)] at this
    · omega
  rw [← this]; exact h3
end
end Go.Rg
