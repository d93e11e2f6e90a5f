/- The law's own: awake. -/
import Derived.Test.YtlnghgalmhmegaaLanF
set_option linter.unusedSimpArgs false
set_option linter.unusedVariables false
namespace Go.Proofs.Ytlnghgalmhmegaa
open Go Go.RowKit Go.Tum Go.ChangeMaps Go.Shelf

set_option maxHeartbeats 1000000 in
theorem awake_any (w : World) : Calls Try.prog 6 #[] w fun e w' => e = .returned (.bool true) ∧ Ext w w' := by
  go_enter Try.func6, Try.ntmps6
  go_wp2_with fail
  refine (new_b w.heap.size _ (Nat.le_refl _)).mono ?_
  rintro e w1 ⟨p, m, rfl, L1, E1, -, -⟩
  have B1 : Below w.heap.size w w1 := E1
  clear E1
  go_wp2_with fail
  refine (put_b w.heap.size _ p m _ _ 3 L1 (by decide) B1.size).mono ?_
  rintro e w2 ⟨he, l2, L2, F2, b2, -⟩
  rw [show decide ((3 : UInt64) ∉ ([] : List UInt64)) = true from by decide] at he
  rw [show putL 3 [] = [3] from by decide] at L2
  subst he
  have B2 := B1.trans b2
  clear F2 b2 L1 B1
  go_wp2_with fail
  refine (put_b w.heap.size _ p m _ _ 1 L2 (by decide) B2.size).mono ?_
  rintro e w3 ⟨he, l3, L3, F3, b3, -⟩
  rw [show decide ((1 : UInt64) ∉ ([3] : List UInt64)) = true from by decide] at he
  rw [show putL 1 [3] = [3, 1] from by decide] at L3
  subst he
  have B3 := B2.trans b3
  clear F3 b3 L2 B2
  go_wp2_with fail
  refine (put_b w.heap.size _ p m _ _ 3 L3 (by decide) B3.size).mono ?_
  rintro e w4 ⟨he, l4, L4, F4, b4, -⟩
  rw [show decide ((3 : UInt64) ∉ ([3, 1] : List UInt64)) = false from by decide] at he
  rw [show putL 3 [3, 1] = [3, 1] from by decide] at L4
  subst he
  have B4 := B3.trans b4
  clear F4 b4 L3 B3
  go_wp2_with fail
  refine (put_b w.heap.size _ p m _ _ 2 L4 (by decide) B4.size).mono ?_
  rintro e w5 ⟨he, l5, L5, F5, b5, -⟩
  rw [show decide ((2 : UInt64) ∉ ([3, 1] : List UInt64)) = true from by decide] at he
  rw [show putL 2 [3, 1] = [3, 1, 2] from by decide] at L5
  subst he
  have B5 := B4.trans b5
  clear F5 b5 L4 B4
  go_wp2_with fail
  refine (drop_b w.heap.size _ p m _ _ 1 L5 B5.size).mono ?_
  rintro e w6 ⟨he, l6, L6, F6, b6, -⟩
  rw [show decide ((1 : UInt64) ∈ ([3, 1, 2] : List UInt64)) = true from by decide] at he
  rw [show dropL 1 [3, 1, 2] = [3, 2] from by decide] at L6
  subst he
  have B6 := B5.trans b6
  clear F6 b6 L5 B5
  go_wp2_with fail
  refine (all_b w.heap.size _ p m _ _ L6 (by decide)).mono ?_
  rintro e w7 ⟨v, rfl, O7, E7⟩
  have L7 := L6.ext E7
  have B7 : Below w.heap.size w w7 := B6.trans (Below.mono E7 B6.size)
  have hlt6 := L6.lt
  obtain ⟨ao, cap, rfl⟩ := O7.shape
  go_wp2_with fail
  refine (take_b w.heap.size _ p m _ _ L7 B7.size).mono ?_
  rintro e w8 ⟨rfl, l8, L8, F8, b8, -⟩
  have B8 := B7.trans b8
  have O8 := OwV.fr O7 F8 hlt6
  dsimp only [List.tail] at L8
  clear b8 F8 O7 hlt6 L7 L6 B6 B7 E7
  have hfi : firstI [3, 2] = .tuple #[.int .u64 3, .bool true] := by rfl
  rw [hfi]
  go_wp2_with fail
  have hV : Vec vU (w8.alloc (.cells #[.int .u64 3, .int .u64 2] 23)) (.slice (some ⟨w8.heap.size, 0, none⟩) 2 2) [3, 2] := (owv_lit w8 0 23 [3, 2] #[.int .u64 3, .int .u64 2] rfl 2 rfl (Nat.zero_le _) (by decide)).vec
  refine (rsame64_any _ _ [3, 2] [3, 2] _ (O8.vec.ext (Ext.alloc _ _)) hV).mono ?_
  rintro e w9 ⟨rfl, E9⟩
  rw [show (([3, 2] : List UInt64) == [3, 2]) = true from by decide]
  have E9' : Ext w8 w9 := (Ext.alloc _ _).trans E9
  have L9 := L8.ext E9'
  have B9 : Below w.heap.size w w9 := B8.trans (Below.mono E9' B8.size)
  clear E9 E9' L8 O8 B8 hV
  go_wp2_with fail
  refine (len_b w.heap.size _ p m _ _ L9).mono ?_
  rintro e w10 ⟨rfl, rfl⟩
  rw [show (([2] : List UInt64).length) = 1 from rfl]
  go_wp2_with fail
  refine (has_b w.heap.size _ p m _ _ 2 L9).mono ?_
  rintro e w10 ⟨rfl, rfl⟩
  rw [show decide ((2 : UInt64) ∈ ([2] : List UInt64)) = true from by decide]
  go_wp2_with fail
  refine (has_b w.heap.size _ p m _ _ 3 L9).mono ?_
  rintro e w10 ⟨rfl, rfl⟩
  rw [show decide ((3 : UInt64) ∈ ([2] : List UInt64)) = false from by decide]
  go_wp2
  go_ret
  exact ⟨rfl, B9⟩
end Go.Proofs.Ytlnghgalmhmegaa
