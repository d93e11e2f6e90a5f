/- The statements of label: awake. -/
import Derived.Test.YtakhanlnfoajcaaDoorLabA
set_option linter.unusedSimpArgs false
set_option linter.unusedVariables false
namespace Go.Proofs.YtakhanlnfoajcaaDoor
open Go Go.RowKit Go.Tum Go.Tum.Rn

theorem aw1 : rightL [97, 98, 57] = true := by decide +kernel
theorem aw2 : rightL [] = false := by decide +kernel
theorem aw3 : rightL [97, 66] = false := by decide +kernel
theorem aw4 : foldL [65, 98, 57] = [97, 98, 57] := by decide +kernel
theorem aw5 : (runes [97, 98, 99]).length = 3 := by decide +kernel
theorem aw6 : cutL 2 [97, 98, 99] = [97, 98] := by decide +kernel
theorem aw7 : lessR (runes [97, 98]) (runes [98]) = true := by decide +kernel
theorem aw8 : lessR (runes [98]) (runes [97, 98]) = false := by decide +kernel
theorem TB.ext {w w' : World} (h : TB w) (k : Ext w w') : TB w' := Utf8Tabs_below h k

set_option maxHeartbeats 1000000 in
theorem awake_any (w : World) (ht : TB w) : Calls Tryd.prog 7 #[] w fun e w' => e = .returned (.bool true) ∧ Ext w w' := by
  have HT := hid ht
  clear ht
  go_enter Tryd.func7, Tryd.ntmps7
  go_wp2_with fail
  refine (right_any [97, 98, 57] _ (by decide)).mono ?_
  rintro e w1 ⟨rfl, hw⟩
  rw [aw1]
  have HE1 := hid hw
  clear hw
  go_wp2_with fail
  refine (right_any [] _ (by decide)).mono ?_
  rintro e w2 ⟨rfl, hw⟩
  rw [aw2]
  have HE2 := hid (HE1.out.trans hw)
  clear hw
  go_wp2_with fail
  refine (right_any [97, 66] _ (by decide)).mono ?_
  rintro e w3 ⟨rfl, hw⟩
  rw [aw3]
  have HE3 := hid (HE2.out.trans hw)
  clear hw
  go_wp2_with fail
  refine (fold_any [65, 98, 57] _ (by decide) (HT.out.ext HE3.out)).mono ?_
  rintro e w4 ⟨rfl, hw⟩
  rw [aw4]
  have HE4 := hid (HE3.out.trans hw)
  clear hw
  go_wp2_with fail
  refine (len_any [97, 98, 99] _ (by decide)).mono ?_
  rintro e w5 ⟨rfl, hw⟩
  rw [aw5]
  have HE5 := hid (HE4.out.trans hw)
  clear hw
  go_wp2_with fail
  refine (cut_any [97, 98, 99] 2 _ (by decide) (by decide) (by decide)).mono ?_
  rintro e w6 ⟨rfl, hw⟩
  rw [aw6]
  have HE6 := hid (HE5.out.trans hw)
  clear hw
  go_wp2_with fail
  refine (less_any [97, 98] [98] _ (by decide) (by decide) (HT.out.ext HE6.out)).mono ?_
  rintro e w7 ⟨rfl, hw⟩
  rw [aw7]
  have HE7 := hid (HE6.out.trans hw)
  clear hw
  go_wp2_with fail
  refine (less_any [98] [97, 98] _ (by decide) (by decide) (HT.out.ext HE7.out)).mono ?_
  rintro e w8 ⟨rfl, hw⟩
  rw [aw8]
  have HE8 := hid (HE7.out.trans hw)
  clear hw
  go_wp2
  go_ret
  exact ⟨rfl, HE8.out⟩
end Go.Proofs.YtakhanlnfoajcaaDoor
