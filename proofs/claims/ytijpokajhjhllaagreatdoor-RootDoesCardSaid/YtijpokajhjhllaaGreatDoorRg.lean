/- States for drawn regions: reads, and one to three operations that turn the world, each behind the one before. -/
import Derived.Test.YtijpokajhjhllaaGreatDoorParE
set_option linter.unusedVariables false
namespace Go.Rg
open Go.RowKit Go.Tum
open Go.ParB (upd Lof)
open Go.ParE (putS slotsR slots Closed)
theorem updE {L : Nat → Bool} {i : Nat} : upd L i i = true := by unfold upd; rw [if_pos rfl]
theorem updN {L : Nat → Bool} {i j : Nat} (h : j ≠ i) : upd L i j = L j := by unfold upd; rw [if_neg h]
/-- One: k. -/
structure R1 (W : World) (k : Nat) (Q : World → Prop) (L : Nat → Bool) (σ : Nat → Value) (w : World) : Prop where
  a : L k = false → Ext W w
  z : L k = true → Q w
section
variable {W w w' : World} {k : Nat} {Q : World → Prop} {L : Nat → Bool} {σ σ' : Nat → Value}
theorem R1.start : R1 W k Q (fun _ => false) σ { W with drawn := W.drawn + 1 } := ⟨fun _ => Ext.draw W, fun h => by simp at h⟩
theorem R1.other (h : R1 W k Q L σ w) {i : Nat} (hi : k ≠ i) : R1 W k Q (upd L i) σ' w := ⟨by rw [updN hi]; exact h.a, by rw [updN hi]; exact h.z⟩
theorem R1.ext (h : R1 W k Q L σ w) {i : Nat} (hi : k ≠ i) (hL : L k = false) (e : Ext W w') : R1 W k Q (upd L i) σ' w' := ⟨fun _ => e, fun h2 => by rw [updN hi, hL] at h2; cases h2⟩
theorem R1.last (hq : Q w') : R1 W k Q (upd L k) σ' w' := ⟨fun h => (by rw [updE] at h; cases h), fun _ => hq⟩
end
/-- Two: k1 gives slot d1, then k2. -/
structure R2 (W : World) (k1 d1 k2 : Nat) (Q1 : Value → World → Prop) (Q2 : World → Prop) (L : Nat → Bool) (σ : Nat → Value) (w : World) : Prop where
  a : L k1 = false → L k2 = false → Ext W w
  b : L k1 = true → L k2 = false → Q1 (σ d1) w
  z : L k2 = true → Q2 w
section
variable {W w w' : World} {k1 d1 k2 : Nat} {Q1 : Value → World → Prop} {Q2 : World → Prop} {L : Nat → Bool} {σ σ' : Nat → Value}
theorem R2.start : R2 W k1 d1 k2 Q1 Q2 (fun _ => false) σ { W with drawn := W.drawn + 1 } := ⟨fun _ _ => Ext.draw W, fun h => by simp at h, fun h => by simp at h⟩
theorem R2.other (h : R2 W k1 d1 k2 Q1 Q2 L σ w) {i : Nat} {d : Option Nat} {v : Value} (hi : (k1 ≠ i ∧ k2 ≠ i) ∧ d ≠ some d1) : R2 W k1 d1 k2 Q1 Q2 (upd L i) (putS σ d v) w := by
  have e1 : putS σ d v d1 = σ d1 := by unfold putS; rw [if_neg hi.2]
  exact ⟨by rw [updN hi.1.1, updN hi.1.2]; exact h.a, by rw [updN hi.1.1, updN hi.1.2, e1]; exact h.b, by rw [updN hi.1.2]; exact h.z⟩
theorem R2.ext (h : R2 W k1 d1 k2 Q1 Q2 L σ w) {i : Nat} (hi : k1 ≠ i ∧ k2 ≠ i) (h1 : L k1 = false) (h2 : L k2 = false) (e : Ext W w') : R2 W k1 d1 k2 Q1 Q2 (upd L i) σ' w' :=
  ⟨fun _ _ => e, fun h => (by rw [updN hi.1, h1] at h; cases h), fun h => by rw [updN hi.2, h2] at h; cases h⟩
theorem R2.one {v : Value} (hk : k2 ≠ k1) (h2 : L k2 = false) (hq : Q1 v w') : R2 W k1 d1 k2 Q1 Q2 (upd L k1) (putS σ (some d1) v) w' :=
  ⟨fun h => (by rw [updE] at h; cases h), fun _ _ => (by unfold putS; rw [if_pos rfl]; exact hq), fun h => by rw [updN hk, h2] at h; cases h⟩
theorem R2.two (hq : Q2 w') : R2 W k1 d1 k2 Q1 Q2 (upd L k2) σ' w' := ⟨fun _ h => (by rw [updE] at h; cases h), fun _ h => (by rw [updE] at h; cases h), fun _ => hq⟩
end
/-- Three: k0 gives slot d0, k1 slot d1, then k2. -/
structure R3 (W : World) (k0 d0 k1 d1 k2 : Nat) (Q0 Q1 : Value → World → Prop) (Q2 : World → Prop) (L : Nat → Bool) (σ : Nat → Value) (w : World) : Prop where
  a : L k1 = false → L k2 = false → Ext W w
  s : L k0 = true → L k1 = false → Q0 (σ d0) w
  b : L k1 = true → L k2 = false → Q1 (σ d1) w
  z : L k2 = true → Q2 w
section
variable {W w w' : World} {k0 d0 k1 d1 k2 : Nat} {Q0 Q1 : Value → World → Prop} {Q2 : World → Prop} {L : Nat → Bool} {σ σ' : Nat → Value}
theorem R3.start : R3 W k0 d0 k1 d1 k2 Q0 Q1 Q2 (fun _ => false) σ { W with drawn := W.drawn + 1 } := ⟨fun _ _ => Ext.draw W, fun h => by simp at h, fun h => by simp at h, fun h => by simp at h⟩
theorem R3.other (h : R3 W k0 d0 k1 d1 k2 Q0 Q1 Q2 L σ w) {i : Nat} {d : Option Nat} {v : Value} (hi : (k0 ≠ i ∧ k1 ≠ i ∧ k2 ≠ i) ∧ d ≠ some d0 ∧ d ≠ some d1) : R3 W k0 d0 k1 d1 k2 Q0 Q1 Q2 (upd L i) (putS σ d v) w := by
  have e0 : putS σ d v d0 = σ d0 := by unfold putS; rw [if_neg hi.2.1]
  have e1 : putS σ d v d1 = σ d1 := by unfold putS; rw [if_neg hi.2.2]
  exact ⟨by rw [updN hi.1.2.1, updN hi.1.2.2]; exact h.a, by rw [updN hi.1.1, updN hi.1.2.1, e0]; exact h.s, by rw [updN hi.1.2.1, updN hi.1.2.2, e1]; exact h.b, by rw [updN hi.1.2.2]; exact h.z⟩
theorem R3.zero {v : Value} (hk : k1 ≠ k0 ∧ k2 ≠ k0) (h1 : L k1 = false) (h2 : L k2 = false) (e : Ext W w') (hq : Q0 v w') : R3 W k0 d0 k1 d1 k2 Q0 Q1 Q2 (upd L k0) (putS σ (some d0) v) w' :=
  ⟨fun _ _ => e, fun _ _ => (by unfold putS; rw [if_pos rfl]; exact hq), fun h => (by rw [updN hk.1, h1] at h; cases h), fun h => by rw [updN hk.2, h2] at h; cases h⟩
theorem R3.one {v : Value} (hk : k2 ≠ k1) (h2 : L k2 = false) (hq : Q1 v w') : R3 W k0 d0 k1 d1 k2 Q0 Q1 Q2 (upd L k1) (putS σ (some d1) v) w' :=
  ⟨fun h => (by rw [updE] at h; cases h), fun _ h => (by rw [updE] at h; cases h), fun _ _ => (by unfold putS; rw [if_pos rfl]; exact hq), fun h => by rw [updN hk, h2] at h; cases h⟩
theorem R3.oneN (hk : k2 ≠ k1) (h2 : L k2 = false) (hq : Q1 (σ' d1) w') : R3 W k0 d0 k1 d1 k2 Q0 Q1 Q2 (upd L k1) σ' w' :=
  ⟨fun h => (by rw [updE] at h; cases h), fun _ h => (by rw [updE] at h; cases h), fun _ _ => hq, fun h => by rw [updN hk, h2] at h; cases h⟩
theorem R3.two (hk : k1 ≠ k2) (h1 : L k1 = true) (hq : Q2 w') : R3 W k0 d0 k1 d1 k2 Q0 Q1 Q2 (upd L k2) σ' w' := ⟨fun _ h => (by rw [updE] at h; cases h), fun _ h => (by rw [updN hk, h1] at h; cases h), fun _ h => (by rw [updE] at h; cases h), fun _ => hq⟩
end
/-- Four: k0 gives slot d0, then k1, k2, k3. -/
structure R4 (W : World) (k0 d0 k1 k2 k3 : Nat) (Q0 Q1 : Value → World → Prop) (Q2 Q3 : World → Prop) (L : Nat → Bool) (σ : Nat → Value) (w : World) : Prop where
  a : L k1 = false → Ext W w
  s : L k0 = true → L k1 = false → Q0 (σ d0) w
  b : L k1 = true → L k2 = false → Q1 (σ d0) w
  c : L k2 = true → L k3 = false → Q2 w
  z : L k3 = true → Q3 w
section
variable {W w w' : World} {k0 d0 k1 k2 k3 : Nat} {Q0 Q1 : Value → World → Prop} {Q2 Q3 : World → Prop} {L : Nat → Bool} {σ σ' : Nat → Value}
theorem R4.start : R4 W k0 d0 k1 k2 k3 Q0 Q1 Q2 Q3 (fun _ => false) σ { W with drawn := W.drawn + 1 } := ⟨fun _ => Ext.draw W, fun h => by simp at h, fun h => by simp at h, fun h => by simp at h, fun h => by simp at h⟩
theorem R4.other (h : R4 W k0 d0 k1 k2 k3 Q0 Q1 Q2 Q3 L σ w) {i : Nat} {d : Option Nat} {v : Value} (hi : (k0 ≠ i ∧ k1 ≠ i ∧ k2 ≠ i ∧ k3 ≠ i) ∧ d ≠ some d0) : R4 W k0 d0 k1 k2 k3 Q0 Q1 Q2 Q3 (upd L i) (putS σ d v) w := by
  have e0 : putS σ d v d0 = σ d0 := by unfold putS; rw [if_neg hi.2]
  obtain ⟨⟨h0, h1, h2, h3⟩, -⟩ := hi
  exact ⟨by rw [updN h1]; exact h.a, by rw [updN h0, updN h1, e0]; exact h.s, by rw [updN h1, updN h2, e0]; exact h.b, by rw [updN h2, updN h3]; exact h.c, by rw [updN h3]; exact h.z⟩
theorem R4.zero {v : Value} (hk : k1 ≠ k0 ∧ k2 ≠ k0 ∧ k3 ≠ k0) (h1 : L k1 = false) (h2 : L k2 = false) (h3 : L k3 = false) (e : Ext W w') (hq : Q0 v w') : R4 W k0 d0 k1 k2 k3 Q0 Q1 Q2 Q3 (upd L k0) (putS σ (some d0) v) w' :=
  ⟨fun _ => e, fun _ _ => (by unfold putS; rw [if_pos rfl]; exact hq), fun h => (by rw [updN hk.1, h1] at h; cases h), fun h => (by rw [updN hk.2.1, h2] at h; cases h), fun h => by rw [updN hk.2.2, h3] at h; cases h⟩
theorem R4.one (hk : k2 ≠ k1 ∧ k3 ≠ k1) (h2 : L k2 = false) (h3 : L k3 = false) (hq : Q1 (σ' d0) w') : R4 W k0 d0 k1 k2 k3 Q0 Q1 Q2 Q3 (upd L k1) σ' w' :=
  ⟨fun h => (by rw [updE] at h; cases h), fun _ h => (by rw [updE] at h; cases h), fun _ _ => hq, fun h => (by rw [updN hk.1, h2] at h; cases h), fun h => by rw [updN hk.2, h3] at h; cases h⟩
theorem R4.two (hk : k1 ≠ k2 ∧ k3 ≠ k2) (h1 : L k1 = true) (h3 : L k3 = false) (hq : Q2 w') : R4 W k0 d0 k1 k2 k3 Q0 Q1 Q2 Q3 (upd L k2) σ' w' :=
  ⟨fun h => (by rw [updN hk.1, h1] at h; cases h), fun _ h => (by rw [updN hk.1, h1] at h; cases h), fun _ h => (by rw [updE] at h; cases h), fun _ _ => hq, fun h => by rw [updN hk.2, h3] at h; cases h⟩
theorem R4.three (hk : k1 ≠ k3 ∧ k2 ≠ k3) (h1 : L k1 = true) (h2 : L k2 = true) (hq : Q3 w') : R4 W k0 d0 k1 k2 k3 Q0 Q1 Q2 Q3 (upd L k3) σ' w' :=
  ⟨fun h => (by rw [updN hk.1, h1] at h; cases h), fun _ h => (by rw [updN hk.1, h1] at h; cases h), fun _ h => (by rw [updN hk.2, h2] at h; cases h), fun _ h => (by rw [updE] at h; cases h), fun _ => hq⟩
end
end Go.Rg
