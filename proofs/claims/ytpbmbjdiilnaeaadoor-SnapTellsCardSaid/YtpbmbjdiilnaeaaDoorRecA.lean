/- Package record: what may be. -/
import Derived.Test.YtpbmbjdiilnaeaaDoorRecM
import Derived.Test.YtpbmbjdiilnaeaaDoorFrmB
import Derived.Test.YtpbmbjdiilnaeaaDoorVintB1
set_option maxRecDepth 100000
namespace Go.Proofs.YtpbmbjdiilnaeaaDoor
open Go.RowKit Go.Tum Go.Tum.Crc Go.Tum.Vint

/-- The table that the package lays: how many numbers a kind has. -/
def Tab (w : World) : Prop := ∀ i, i < 18 → w.cell? ⟨0, i, none⟩ = some (.int .i64 ((manyT.getD i 0 : Nat) : Int))
theorem Tab.ext {w w' : World} (h : Tab w) (k : Ext w w') : Tab w' := fun i hi => k.cell (h i hi)
abbrev rv (r : Rc) (v : Value) : Value := .agg #[.int .i64 r.kind, v, .string (str r.text)]
abbrev I64b (x : Int) : Prop := -9223372036854775808 ≤ x ∧ x ≤ 9223372036854775807

theorem known_any (k : Int) (w : World) : Calls Tryd.prog 32 #[.int .i64 k] w fun e w' => e = .returned (.bool (knownB k)) ∧ w = w' := by
  have hk : knownB k = (decide (1 ≤ k) && decide (k ≤ 17)) := rfl
  have HK := hid hk
  clear hk
  by_cases h1 : 1 ≤ k
  · by_cases h2 : k ≤ 17
    · go_enter Tryd.func32, Tryd.ntmps32
      go_wp2
      go_ret
      exact ⟨by rw [HK.out]; simp [h1, h2], rfl⟩
    · go_enter Tryd.func32, Tryd.ntmps32
      go_wp2
      go_ret
      exact ⟨by rw [HK.out]; simp [h1, h2], rfl⟩
  · go_enter Tryd.func32, Tryd.ntmps32
    go_wp2
    go_ret
    have h1' : decide (1 ≤ k) = false := by simpa using h1
    exact ⟨by rw [HK.out, h1']; rfl, rfl⟩

theorem textR_any (k : Int) (n : Nat) (w : World) : Calls Tryd.prog 33 #[.int .i64 k, .int .i64 (n : Int)] w fun e w' => e = .returned (.bool (textB k n)) ∧ w = w' := by
  by_cases h1 : k = 10
  · subst h1
    have HK := hid (show textB 10 n = decide (n ≤ 64) by simp [textB])
    go_enter Tryd.func33, Tryd.ntmps33
    go_wp2
    go_ret
    exact ⟨by rw [HK.out]; simp; omega, rfl⟩
  · by_cases h2 : k = 11
    · subst h2
      have HK := hid (show textB 11 n = decide (n ≤ 64) by simp [textB])
      go_enter Tryd.func33, Tryd.ntmps33
      go_wp2
      go_ret
      exact ⟨by rw [HK.out]; simp; omega, rfl⟩
    · by_cases h3 : k = 16
      · subst h3
        have HK := hid (show textB 16 n = decide (n ≤ 64) by simp [textB])
        go_enter Tryd.func33, Tryd.ntmps33
        go_wp2
        go_ret
        exact ⟨by rw [HK.out]; simp; omega, rfl⟩
      · have HK := hid (show textB k n = decide (n = 0) by simp [textB, h1, h2, h3])
        have e1 : (k == 10) = false := by simpa using h1
        have e2 : (k == 11) = false := by simpa using h2
        have e3 : (k == 16) = false := by simpa using h3
        clear h1 h2 h3
        go_enter Tryd.func33, Tryd.ntmps33
        go_wp2
        go_ret
        have e4 : ((n : Int) == 0) = decide (n = 0) := by
          rw [Bool.eq_iff_iff]; simp
        exact ⟨by rw [HK.out, ← e4]; rfl, rfl⟩
end Go.Proofs.YtpbmbjdiilnaeaaDoor
