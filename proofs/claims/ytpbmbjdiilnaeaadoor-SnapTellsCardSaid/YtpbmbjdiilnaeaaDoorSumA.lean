/- Package sum: divided, Table. -/
import Derived.Test.YtpbmbjdiilnaeaaDoorRows
import Derived.Test.YtpbmbjdiilnaeaaDoorLib
import Derived.Test.YtpbmbjdiilnaeaaDoorCrc
set_option maxRecDepth 100000
namespace Go.Proofs.YtpbmbjdiilnaeaaDoor
open Go.RowKit Go.Tum Go.Tum.Crc

theorem divStep_odd {m : Nat} (h : m % 2 = 1) : divStep m = m / 2 ^^^ 2197175160 := by unfold divStep; rw [if_pos h]
theorem divStep_even {m : Nat} (h : m % 2 = 0) : divStep m = m / 2 := by unfold divStep; rw [if_neg (by omega)]

theorem and1 (m : Nat) (hm : m < 4294967296) : bits .and .u32 (m : Int) 1 = ((m % 2 : Nat) : Int) := by
  have := u32_and_nat m 1 hm (by omega)
  rw [nat_mask1] at this; exact this

/-- The table's row of cells, its first k numbers told. -/
def tabArr (k : Nat) : Array Value := ((List.range 256).map fun i => Value.int .u32 ((if i < k then tab i else 0 : Nat) : Int)).toArray
theorem tabArr_get {k i : Nat} (h : i < 256) (hi : i < k) : (tabArr k)[i]? = some (.int .u32 (tab i : Nat)) := by
  simp [tabArr, h, hi]
theorem tabArr_zero {k : Nat} (h : k < 256) : (tabArr k)[k]? = some (.int .u32 0) := by
  simp [tabArr, h]
theorem tabArr_set {k : Nat} (h : k < 256) : (tabArr k).setIfInBounds k (.int .u32 (tab k : Nat)) = tabArr (k + 1) := by
  unfold tabArr
  rw [List.setIfInBounds_toArray]
  congr 1
  apply List.ext_getElem?
  intro i
  rw [List.getElem?_set]
  by_cases e : k = i
  · subst e; simp [h]
  · rw [if_neg e, List.getElem?_map, List.getElem?_map]
    by_cases h2 : i < 256
    · have : (i < k + 1) ↔ (i < k) := by omega
      simp [h2, this]
    · simp [h2]
def low (k : Nat) : Nat := (BitVec.ofNat 64 k &&& -BitVec.ofNat 64 k).toNat
theorem low_all : ∀ k : Fin 256, bits .and .i64 ((k.val : Nat) : Int) (-((k.val : Nat) : Int)) = ((low k.val : Nat) : Int) ∧
    (low k.val = k.val ∨ (low k.val < k.val ∧ bits .xor .i64 ((k.val : Nat) : Int) ((low k.val : Nat) : Int) = ((k.val ^^^ low k.val : Nat) : Int) ∧ k.val ^^^ low k.val < k.val)) := by decide +kernel

end Go.Proofs.YtpbmbjdiilnaeaaDoor
