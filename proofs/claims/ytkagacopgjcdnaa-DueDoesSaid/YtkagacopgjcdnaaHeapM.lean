/- A row that is a heap: above the place i is the place (i - 1) / 2. No dump. -/
import Derived.Test.YtkagacopgjcdnaaLib
namespace Go.Tum.Hp

def par (i : Nat) : Nat := (i - 1) / 2
/-- Nowhere but at i. -/
def AH (f : Nat → Int) (n i : Nat) : Prop := (∀ j, 0 < j → j < n → j ≠ i → par j ≠ i → f (par j) ≤ f j) ∧ (∀ j, 0 < j → j < n → par j = i → 0 < i → f (par i) ≤ f j)
def UP (f : Nat → Int) (i : Nat) : Prop := 0 < i → f (par i) ≤ f i
def HP (f : Nat → Int) (n : Nat) : Prop := ∀ j, 0 < j → j < n → f (par j) ≤ f j
def sw (f : Nat → Int) (i j : Nat) : Nat → Int := fun a => if a = i then f j else if a = j then f i else f a
theorem par_lt {i : Nat} (h : 0 < i) : par i < i := by unfold par; omega
theorem HP.ah {f : Nat → Int} {n : Nat} (h : HP f n) (i : Nat) (hi : i < n) : AH f n i := by
  refine ⟨fun j h1 h2 _ _ => h j h1 h2, fun j h1 h2 h3 h4 => ?_⟩
  have := h j h1 h2
  have := h i h4 hi
  rw [h3] at *
  omega
theorem up_step {f : Nat → Int} {n i : Nat} (h : AH f n i) (h0 : 0 < i) (hn : i < n) (hlt : f i < f (par i)) : AH (sw f i (par i)) n (par i) := by
  have hp := par_lt h0
  obtain ⟨h1, h2⟩ := h
  refine ⟨fun j j0 jn ji jp => ?_, fun j j0 jn jp p0 => ?_⟩
  · have hji : j ≠ i := by rintro rfl; exact jp rfl
    have e1 : sw f i (par i) j = f j := by unfold sw; rw [if_neg hji, if_neg ji]
    rw [e1]
    by_cases hpi : par j = i
    · have := h2 j j0 jn hpi h0
      have e2 : sw f i (par i) (par j) = f (par i) := by unfold sw; rw [if_pos hpi]
      rw [e2]; exact this
    · have := h1 j j0 jn hji hpi
      have e2 : sw f i (par i) (par j) = f (par j) := by unfold sw; rw [if_neg hpi, if_neg jp]
      rw [e2]; exact this
  · have hpp := par_lt p0
    have hle : f (par (par i)) ≤ f (par i) := h1 (par i) p0 (by omega) (by omega) (by omega)
    have e2 : sw f i (par i) (par (par i)) = f (par (par i)) := by unfold sw; rw [if_neg (by omega), if_neg (by omega)]
    rw [e2]
    by_cases hji : j = i
    · have e1 : sw f i (par i) j = f (par i) := by unfold sw; rw [if_pos hji]
      rw [e1]; exact hle
    · have hjp : j ≠ par i := by
        rintro rfl
        have := par_lt j0
        omega
      have e1 : sw f i (par i) j = f j := by unfold sw; rw [if_neg hji, if_neg hjp]
      rw [e1]
      have := h1 j j0 jn hji (by omega)
      rw [jp] at this
      omega
theorem down_step {f : Nat → Int} {n i c : Nat} (h : AH f n i) (hu : UP f i) (hn : i < n) (c0 : 0 < c) (cn : c < n) (cp : par c = i) (hc : f c ≤ f i) (hm : ∀ j, 0 < j → j < n → par j = i → f c ≤ f j) : AH (sw f i c) n c ∧ UP (sw f i c) c := by
  have hci := par_lt c0
  obtain ⟨h1, h2⟩ := h
  have ei : sw f i c i = f c := by unfold sw; rw [if_pos rfl]
  have ec : sw f i c c = f i := by unfold sw; rw [if_neg (by omega), if_pos rfl]
  have eo : ∀ a, a ≠ i → a ≠ c → sw f i c a = f a := fun a h1 h2 => by unfold sw; rw [if_neg h1, if_neg h2]
  refine ⟨⟨fun j j0 jn jc jp => ?_, fun j j0 jn jp _ => ?_⟩, fun _ => ?_⟩
  · by_cases hji : j = i
    · subst hji
      have := par_lt j0
      rw [ei, eo (par j) (by omega) (by omega)]
      exact h2 c c0 cn cp j0
    · rw [eo j hji jc]
      by_cases hpi : par j = i
      · rw [hpi, ei]; exact hm j j0 jn hpi
      · rw [eo (par j) hpi jp]; exact h1 j j0 jn hji hpi
  · have := par_lt j0
    rw [cp, ei, eo j (by omega) (by omega)]
    have := h1 j j0 jn (by omega) (by omega)
    rw [jp] at this; exact this
  · rw [cp, ei, ec]; exact hc
theorem down_done {f : Nat → Int} {n i : Nat} (h : AH f n i) (hu : UP f i) (hm : ∀ j, 0 < j → j < n → par j = i → f i ≤ f j) : HP f n := by
  intro j j0 jn
  by_cases hji : j = i
  · subst hji; exact hu j0
  · by_cases hp : par j = i
    · rw [hp]; exact hm j j0 jn hp
    · exact h.1 j j0 jn hji hp
theorem HP.top {f : Nat → Int} {n : Nat} (h : HP f n) : ∀ j, j < n → f 0 ≤ f j := by
  intro j
  induction j using Nat.strongRecOn with
  | _ j ih =>
    intro hj
    rcases Nat.eq_zero_or_pos j with rfl | h0
    · omega
    · have h1 := h j h0 hj
      have h2 := ih (par j) (par_lt h0) (by have := par_lt h0; omega)
      omega
theorem AH.congr {f g : Nat → Int} {n i : Nat} (h : AH f n i) (hi : i < n) (e : ∀ j, j < n → f j = g j) : AH g n i := by
  refine ⟨fun j j0 jn a b => ?_, fun j j0 jn a b => ?_⟩
  · have := par_lt j0
    rw [← e j jn, ← e (par j) (by omega)]; exact h.1 j j0 jn a b
  · have := par_lt b
    rw [← e j jn, ← e (par i) (by omega)]; exact h.2 j j0 jn a b
theorem UP.congr {f g : Nat → Int} {n i : Nat} (h : UP f i) (hi : i < n) (e : ∀ j, j < n → f j = g j) : UP g i := by
  intro h0
  have := par_lt h0
  rw [← e i hi, ← e (par i) (by omega)]; exact h h0
theorem HP.congr {f g : Nat → Int} {n : Nat} (h : HP f n) (e : ∀ j, j < n → f j = g j) : HP g n := by
  intro j j0 jn
  have := par_lt j0
  rw [← e j jn, ← e (par j) (by omega)]; exact h j j0 jn
end Go.Tum.Hp
