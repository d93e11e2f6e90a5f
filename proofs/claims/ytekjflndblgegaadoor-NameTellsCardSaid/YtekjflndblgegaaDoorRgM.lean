/- States for drawn regions: operations that give slots that live until another operation runs, in any order that the region allows; the last one turns the world. -/
import Derived.Test.YtekjflndblgegaaDoorRgC
set_option linter.unusedVariables false
namespace Go.Rg
open Go.RowKit Go.Tum
open Go.ParB (upd Lof)
open Go.ParE (putS slotsR slots Closed)
/-- ks: the operation, its slot, the operation behind which the slot counts no more. z: the last one. -/
structure Mx (W : World) (z : Nat) (ks : List (Nat × Nat × Nat)) (P : Nat → Value → World → Prop) (Q : World → Prop) (L : Nat → Bool) (σ : Nat → Value) (w : World) : Prop where
  st : ∀ d v w w', P d v w → Ext w w' → P d v w'
  a : L z = false → Ext W w
  b : ∀ x ∈ ks, L x.1 = true → L x.2.2 = false → P x.2.1 (σ x.2.1) w
  q : L z = true → Q w
section
variable {W w w' : World} {z : Nat} {ks : List (Nat × Nat × Nat)} {P : Nat → Value → World → Prop} {Q : World → Prop} {L : Nat → Bool} {σ : Nat → Value}
theorem upd_f {i j : Nat} (h : upd L i j = false) : j ≠ i ∧ L j = false := by
  by_cases e : j = i
  · subst e; rw [updE] at h; cases h
  · rw [updN e] at h; exact ⟨e, h⟩
theorem Mx.start (hs : ∀ d v w w', P d v w → Ext w w' → P d v w') : Mx W z ks P Q (fun _ => false) σ { W with drawn := W.drawn + 1 } := ⟨hs, fun _ => Ext.draw W, fun x _ h => by simp at h, fun h => by simp at h⟩
theorem Mx.other (h : Mx W z ks P Q L σ w) {i : Nat} {d : Option Nat} {v : Value} (hi : i ≠ z ∧ ∀ x ∈ ks, x.1 ≠ i ∧ d ≠ some x.2.1) : Mx W z ks P Q (upd L i) (putS σ d v) w := by
  refine ⟨h.st, fun h1 => h.a (upd_f h1).2, fun x hx h1 h2 => ?_, fun h1 => h.q (by rw [updN hi.1.symm] at h1; exact h1)⟩
  have e1 : putS σ d v x.2.1 = σ x.2.1 := by unfold putS; rw [if_neg (hi.2 x hx).2]
  rw [e1]
  rw [updN (hi.2 x hx).1] at h1
  exact h.b x hx h1 (upd_f h2).2
theorem Mx.get (h : Mx W z ks P Q L σ w) (k d e : Nat) (hm : (k, d, e) ∈ ks) (h1 : L k = true) (h2 : L e = false) : P d (σ d) w := h.b _ hm h1 h2
/-- One that only makes memory. -/
theorem Mx.grow (h : Mx W z ks P Q L σ w) {i d : Nat} {v : Value} (hz : L z = false) (hi : i ≠ z ∧ ∀ x ∈ ks, (x.1 = i → x.2.1 = d) ∧ (x.1 ≠ i → x.2.1 ≠ d)) (hx : Ext w w') (hp : P d v w') : Mx W z ks P Q (upd L i) (putS σ (some d) v) w' := by
  refine ⟨h.st, fun _ => (h.a hz).trans hx, fun x hm h1 h2 => ?_, fun h1 => by rw [updN hi.1.symm, hz] at h1; cases h1⟩
  by_cases e : x.1 = i
  · have e2 := (hi.2 x hm).1 e
    have e1 : putS σ (some d) v x.2.1 = v := by unfold putS; rw [if_pos (by rw [e2])]
    rw [e1, e2]; exact hp
  · have e2 := (hi.2 x hm).2 e
    have e1 : putS σ (some d) v x.2.1 = σ x.2.1 := by unfold putS; rw [if_neg (fun e3 => e2 (Option.some.inj e3).symm)]
    rw [e1]
    rw [updN e] at h1
    exact h.st _ _ _ _ (h.b x hm h1 (upd_f h2).2) hx
/-- One that may turn what lives: bs have run, as have not, lv is kept. -/
theorem Mx.app (h : Mx W z ks P Q L σ w) {i d : Nat} {v : Value} (bs as : List Nat) (lv : List (Nat × Nat × Nat)) (hz : L z = false) (hb : ∀ j ∈ bs, L j = true) (ha : ∀ j ∈ as, L j = false)
    (hi : i ≠ z ∧ ∀ x ∈ ks, x.1 = i ∧ x.2.1 = d ∨ x.2.2 = i ∨ x.2.2 ∈ bs ∨ (x.1 ∈ as ∧ x.1 ≠ i) ∨ (x ∈ lv ∧ x.1 ≠ i ∧ x.2.1 ≠ d))
    (hk : ∀ x ∈ lv, P x.2.1 (σ x.2.1) w → P x.2.1 (σ x.2.1) w') (hx : Ext W w') (hp : P d v w') : Mx W z ks P Q (upd L i) (putS σ (some d) v) w' := by
  refine ⟨h.st, fun _ => hx, fun x hm h1 h2 => ?_, fun h1 => by rw [updN hi.1.symm, hz] at h1; cases h1⟩
  rcases hi.2 x hm with ⟨e, e2⟩ | e | e | ⟨e, e2⟩ | ⟨e, e2, e3⟩
  · have e1 : putS σ (some d) v x.2.1 = v := by unfold putS; rw [if_pos (by rw [e2])]
    rw [e1, e2]; exact hp
  · exact absurd e (upd_f h2).1
  · have := hb _ e; rw [(upd_f h2).2] at this; cases this
  · have := ha _ e; rw [updN e2] at h1; rw [h1] at this; cases this
  · have e1 : putS σ (some d) v x.2.1 = σ x.2.1 := by unfold putS; rw [if_neg (fun e4 => e3 (Option.some.inj e4).symm)]
    rw [e1]
    rw [updN e2] at h1
    exact hk x e (h.b x hm h1 (upd_f h2).2)
theorem Mx.last (h : Mx W z ks P Q L σ w) {d : Option Nat} {v : Value} (bs : List Nat) (hb : ∀ j ∈ bs, L j = true) (hi : ∀ x ∈ ks, x.2.2 = z ∨ x.2.2 ∈ bs) (hq : Q w') : Mx W z ks P Q (upd L z) (putS σ d v) w' := by
  refine ⟨h.st, fun h1 => absurd rfl (upd_f h1).1, fun x hm h1 h2 => ?_, fun _ => hq⟩
  rcases hi x hm with e | e
  · exact absurd e (upd_f h2).1
  · have := hb _ e; rw [(upd_f h2).2] at this; cases this
theorem Mx.fin {m : Nat} (h : Mx W z ks P Q (Lof (Array.replicate m true)) σ w) (hm : z < m) : Q w := h.q (by unfold Lof; simp [Array.getElem?_replicate, hm])
end
end Go.Rg
