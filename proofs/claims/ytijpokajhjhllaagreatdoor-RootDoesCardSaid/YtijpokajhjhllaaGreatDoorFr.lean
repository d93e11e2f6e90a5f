/- What a step leaves, but for the blocks S. -/
import Derived.Test.YtijpokajhjhllaaGreatDoorRows
import Derived.Test.YtijpokajhjhllaaGreatDoorLib
import Derived.Maps.OwnSet
import Derived.Maps.Views
import Derived.Lib.SmallJoins
namespace Go.Proofs.YtijpokajhjhllaaGreatDoor
open Go Go.RowKit Go.Tum Go.ChangeMaps

/-! ### what a step leaves -/
structure Fr (S : List Nat) (w w' : World) : Prop where
  os : w'.os = w.os
  tape : w'.tape = w.tape
  output : w'.output = w.output
  size : w.heap.size ≤ w'.heap.size
  block : ∀ k, k < w.heap.size → k ∉ S → w'.heap[k]? = w.heap[k]?
theorem Fr.refl (S : List Nat) (w : World) : Fr S w w := ⟨rfl, rfl, rfl, Nat.le_refl _, fun _ _ _ => rfl⟩
theorem Fr.trans {S : List Nat} {a b c : World} (h : Fr S a b) (k : Fr S b c) : Fr S a c :=
  ⟨k.os.trans h.os, k.tape.trans h.tape, k.output.trans h.output, Nat.le_trans h.size k.size, fun j hj hn => (k.block j (Nat.lt_of_lt_of_le hj h.size) hn).trans (h.block j hj hn)⟩
theorem Fr.mono {S T : List Nat} {a b : World} (h : Fr S a b) (hs : ∀ x ∈ S, x ∈ T) : Fr T a b := ⟨h.os, h.tape, h.output, h.size, fun j hj hn => h.block j hj fun hm => hn (hs j hm)⟩
theorem Fr.wider {S T : List Nat} {a b : World} (h : Fr S a b) (hs : ∀ x ∈ S, x ∈ T ∨ a.heap.size ≤ x) : Fr T a b := ⟨h.os, h.tape, h.output, h.size, fun j hj hn => h.block j hj fun hm => by
  rcases hs j hm with h1 | h1
  · exact hn h1
  · omega⟩
theorem Ext.fr {S : List Nat} {a b : World} (h : Ext a b) : Fr S a b := ⟨h.os, h.tape, h.output, h.size, fun j hj _ => h.block j hj⟩
theorem Fr.ext {a b : World} (h : Fr [] a b) : Ext a b := ⟨h.os, h.tape, h.output, h.size, fun j hj => h.block j hj (by simp)⟩
theorem Fr.below {S : List Nat} {a b : World} {B : Nat} (h : Fr S a b) (hS : ∀ x ∈ S, B ≤ x) (hB : B ≤ a.heap.size) : Below B a b :=
  ⟨h.os, h.tape, h.output, h.size, fun j hj => h.block j (by omega) fun hm => by have := hS j hm; omega⟩
theorem Fr.cell {S : List Nat} {w w' : World} (h : Fr S w w') {a : Addr} (hn : a.block ∉ S) (hl : a.block < w.heap.size) : w'.cell? a = w.cell? a := by
  have := h.block a.block hl hn
  simp [World.cell?, this]
theorem fr_setCell {S : List Nat} (w : World) (a : Addr) (v : Value) (h : a.block ∈ S) : Fr S w (w.setCell a v) := by
  refine ⟨rfl, rfl, rfl, by simp, fun j hj hn => heap_setCell_other _ _ _ _ fun e => hn (by rw [e]; exact h)⟩
theorem fr_turned {S : List Nat} {w w' : World} {b : Nat} (h : w.mapTurned w' b) (hb : b ∈ S) : Fr S w w' := by
  obtain ⟨es, c, es', c', h1, rfl⟩ := h
  refine ⟨rfl, rfl, rfl, by simp [setBlock], fun j hj hn => ?_⟩
  have : b ≠ j := fun e => hn (by rw [← e]; exact hb)
  simp [setBlock, Array.getElem?_setIfInBounds_ne this]


end Go.Proofs.YtijpokajhjhllaaGreatDoor
