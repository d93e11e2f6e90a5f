/- LabelTells. -/
import Derived.Test.YtakhanlnfoajcaaDoorLaw03
import Derived.Test.YtakhanlnfoajcaaDoorLabR
set_option linter.unusedSimpArgs false
set_option linter.unusedVariables false
namespace Go.Proofs.YtakhanlnfoajcaaDoor
open Go Go.RowKit Go.Tum Go.Tum.Rn

set_option maxHeartbeats 1000000 in
theorem labelTells_law (a b : List UInt8) (n : Int) (w : World) (hn1 : -9223372036854775808 ≤ n) (hn2 : n ≤ 9223372036854775807) (ht : TB w) :
    Calls Tryd.prog 3 #[.string (str a), .string (str b), .int .i64 n] w fun e w' => e = .returned (.bool true) ∧ Ext w w' := by
  have HT := hid ht
  clear ht
  have hsa : (str a).size = a.length := str_size a
  have hsb : (str b).size = b.length := str_size b
  by_cases hla : 300 < a.length ∨ 300 < b.length
  · go_enter Tryd.func3, Tryd.ntmps3
    go_wp2_with fail
    refine (awake_any _ HT.out).mono ?_
    rintro e w1 ⟨rfl, hw⟩
    have HE1 := hid hw
    clear hw
    by_cases h1 : 300 < a.length
    · have hd : decide ((300 : Int) < a.length) = true := by simp; omega
      go_wp2
      go_ret
      exact ⟨rfl, HE1.out⟩
    · have hd : decide ((300 : Int) < a.length) = false := by simp; omega
      have hd2 : decide ((300 : Int) < b.length) = true := by simp; omega
      go_wp2
      go_ret
      exact ⟨rfl, HE1.out⟩
  have hd : decide ((300 : Int) < a.length) = false := by simp; omega
  have hd2 : decide ((300 : Int) < b.length) = false := by simp; omega
  have ha : a.length ≤ 1048576 := by omega
  have hb : b.length ≤ 1048576 := by omega
  go_enter Tryd.func3, Tryd.ntmps3
  go_wp2_with fail
  refine (awake_any _ HT.out).mono ?_
  rintro e w1 ⟨rfl, hw⟩
  have HE1 := hid hw
  clear hw hla
  obtain ⟨RB, hRB⟩ : ∃ RB, rightL a = RB := ⟨_, rfl⟩
  obtain ⟨F, hF⟩ : ∃ F, foldL a = F := ⟨_, rfl⟩
  obtain ⟨K, hK⟩ : ∃ K, (runes a).length = K := ⟨_, rfl⟩
  obtain ⟨C, hC⟩ : ∃ C, cutL n a = C := ⟨_, rfl⟩
  obtain ⟨LB, hLB⟩ : ∃ LB, lessR (runes a) (runes b) = LB := ⟨_, rfl⟩
  have HRB := hid hRB
  have HF := hid hF
  have HK := hid hK
  have HC := hid hC
  have HLB := hid hLB
  clear hRB hF hK hC hLB
  go_wp2_with fail
  clear hd hd2 hsa hsb
  refine (right_any a _ ha).mono ?_
  rintro e w2 ⟨rfl, hw⟩
  rw [HRB.out]
  have HE2 := hid (HE1.out.trans hw)
  clear hw
  go_wp2_with fail
  refine (rright3_any a _ ha).mono ?_
  rintro e w3 ⟨rfl, hw⟩
  rw [HRB.out]
  have HE3 := hid (HE2.out.trans hw)
  clear hw
  go_wp2_with fail
  refine (fold_any a _ ha (HT.out.ext HE3.out)).mono ?_
  rintro e w4 ⟨rfl, hw⟩
  rw [HF.out]
  have HE4 := hid (HE3.out.trans hw)
  clear hw
  go_wp2_with fail
  refine (rfold3_any a _ ha).mono ?_
  rintro e w5 ⟨rfl, hw⟩
  rw [HF.out]
  have HE5 := hid (HE4.out.trans hw)
  clear hw
  go_wp2_with fail
  refine (len_any a _ ha).mono ?_
  rintro e w6 ⟨rfl, hw⟩
  rw [HK.out]
  have HE6 := hid (HE5.out.trans hw)
  clear hw
  go_wp2_with fail
  refine (rlen3_any a _ ha).mono ?_
  rintro e w7 ⟨rfl, hw⟩
  rw [HK.out]
  have HE7 := hid (HE6.out.trans hw)
  clear hw
  go_wp2_with fail
  refine (cut_any a n _ ha hn1 hn2).mono ?_
  rintro e w8 ⟨rfl, hw⟩
  rw [HC.out]
  have HE8 := hid (HE7.out.trans hw)
  clear hw
  go_wp2_with fail
  refine (rcut3_any a n _ ha hn1 hn2).mono ?_
  rintro e w9 ⟨rfl, hw⟩
  rw [HC.out]
  have HE9 := hid (HE8.out.trans hw)
  clear hw
  go_wp2_with fail
  refine (less_any a b _ ha hb (HT.out.ext HE9.out)).mono ?_
  rintro e w10 ⟨rfl, hw⟩
  rw [HLB.out]
  have HE10 := hid (HE9.out.trans hw)
  clear hw
  go_wp2_with fail
  refine (rless3_any a b _ ha hb).mono ?_
  rintro e w11 ⟨rfl, hw⟩
  rw [HLB.out]
  have hE := HE10.out.trans hw
  clear hw
  go_wp2
  go_ret
  exact ⟨rfl, hE⟩
end Go.Proofs.YtakhanlnfoajcaaDoor
