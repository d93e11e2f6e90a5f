/- Records: the document's table and texts; rows of numbers; Same. -/
import Derived.Test.YtpbmbjdiilnaeaaDoorRecB
import Derived.Test.YtpbmbjdiilnaeaaDoorVintR1
set_option maxRecDepth 100000
namespace Go.Proofs.YtpbmbjdiilnaeaaDoor
open Go.RowKit Go.Tum Go.Tum.Crc Go.Tum.Vint

/-- The document's number of numbers; -1: no kind. -/
def rmany (k : Int) : Int := if knownB k then (many k : Int) else -1
def rmanyL : List Int := [-1, 0, 5, 2, 1, 2, 2, 1, 1, 1, 1, 1, 5, 7, 10, 2, 1, 1]
theorem rmany_at : ∀ i : Fin 18, rmanyL.getD i.val 0 = rmany (i.val : Int) := by decide
theorem rmany_bad {k : Int} (h : k < 0 ∨ 17 < k) : rmany k = -1 := by
  have : knownB k = false := by
    unfold knownB
    rcases h with h | h
    · rw [show decide (1 ≤ k) = false from by simp; omega]; rfl
    · rw [show decide (k ≤ 17) = false from by simp; omega, Bool.and_false]
  unfold rmany; rw [this]; rfl

theorem rmany_any (k : Int) (w : World) : Calls Tryd.prog 34 #[.int .i64 k] w fun e w' => e = .returned (.int .i64 (rmany k)) ∧ Ext w w' := by
  have hE := Ext.alloc w (.cells ((rmanyL.map fun i => Value.int .i64 i).toArray) 3)
  have HE := hid hE
  clear hE
  by_cases h1 : k < 0
  · have HR := hid (rmany_bad (.inl h1))
    go_enter Tryd.func34, Tryd.ntmps34
    go_wp2
    go_ret
    rw [HR.out]
    exact ⟨rfl, HE.out⟩
  · by_cases h2 : 17 < k
    · have HR := hid (rmany_bad (.inr h2))
      go_enter Tryd.func34, Tryd.ntmps34
      go_wp2
      go_ret
      rw [HR.out]
      exact ⟨rfl, HE.out⟩
    · obtain ⟨n, rfl⟩ : ∃ n : Nat, k = n := ⟨k.toNat, by omega⟩
      have hn : n < 18 := by omega
      have hn2 : (n : Int) < 18 := by omega
      have hv : (rmanyL.map fun i => Value.int .i64 i)[n]'(by simpa [rmanyL] using hn) = .int .i64 (rmany n) := by
        rw [List.getElem_map, ← rmany_at ⟨n, hn⟩, List.getD_eq_getElem?_getD, List.getElem?_eq_getElem (by simpa [rmanyL] using hn)]
        rfl
      have HV := hid hv
      clear hv
      go_enter Tryd.func34, Tryd.ntmps34
      go_wp2
      go_ret
      exact ⟨congrArg Ending.returned HV.out, HE.out⟩

theorem rtexts_any (k : Int) (n : Nat) (w : World) : Calls Tryd.prog 35 #[.int .i64 k, .int .i64 (n : Int)] w fun e w' => e = .returned (.bool (textB k n)) ∧ w = w' := by
  by_cases h1 : k = 10
  · subst h1
    have HK := hid (show textB 10 n = decide (n ≤ 64) by simp [textB])
    go_enter Tryd.func35, Tryd.ntmps35
    go_wp2
    go_ret
    exact ⟨by rw [HK.out]; simp; omega, rfl⟩
  · by_cases h2 : k = 11
    · subst h2
      have HK := hid (show textB 11 n = decide (n ≤ 64) by simp [textB])
      go_enter Tryd.func35, Tryd.ntmps35
      go_wp2
      go_ret
      exact ⟨by rw [HK.out]; simp; omega, rfl⟩
    · by_cases h3 : k = 16
      · subst h3
        have HK := hid (show textB 16 n = decide (n ≤ 64) by simp [textB])
        go_enter Tryd.func35, Tryd.ntmps35
        go_wp2
        go_ret
        exact ⟨by rw [HK.out]; simp; omega, rfl⟩
      · have HK := hid (show textB k n = decide (n = 0) by simp [textB, h1, h2, h3])
        have e1 : (k == 10) = false := by simpa using h1
        have e2 : (k == 11) = false := by simpa using h2
        have e3 : (k == 16) = false := by simpa using h3
        clear h1 h2 h3
        go_enter Tryd.func35, Tryd.ntmps35
        go_wp2
        go_ret
        have e4 : ((n : Int) == 0) = decide (n = 0) := by
          rw [Bool.eq_iff_iff]; simp
        exact ⟨by rw [HK.out, ← e4]; rfl, rfl⟩

end Go.Proofs.YtpbmbjdiilnaeaaDoor
