/- The document's list: Rows and Cursors on one list. -/
import Derived.Test.YtfpljeblehieiaaDoorDedU
set_option linter.unusedSimpArgs false
set_option linter.unusedVariables false
namespace Go.Proofs.YtfpljeblehieiaaDoor
open Go Go.RowKit Go.Tum Go.ChangeMaps Go.Sort Go.Tum.Rn

set_option maxHeartbeats 1000000 in
theorem rrows_eq (u v : Value) (l : List (UInt64 × UInt64)) (w : World) (hu : Sl w 2 u l.length (l.flatMap encR)) (hv : Sl w 2 v l.length (l.flatMap encR)) :
    Calls Tryd.prog 30 #[u, v] w fun e w' => e = .returned (.bool true) ∧ Ext w w' := by
  obtain ⟨ao, cap, rfl⟩ : ∃ a c, u = .slice a l.length c := by obtain ⟨-, a, c, e, -⟩ := hu; exact ⟨a, c, e⟩
  obtain ⟨bo, cbp, rfl⟩ : ∃ a c, v = .slice a l.length c := by obtain ⟨-, a, c, e, -⟩ := hv; exact ⟨a, c, e⟩
  obtain ⟨hle, hm, hz, hc⟩ := Sl.cells hu
  obtain ⟨hle2, hm2, hz2, hc2⟩ := Sl.cells hv
  have hmm : cap ≤ 9223372036854775807 := by simpa [maxLen] using hm
  have hmm2 : cbp ≤ 9223372036854775807 := by simpa [maxLen] using hm2
  have HC := hid hc
  have HC2 := hid hc2
  clear hu hv hc hc2 hm hm2
  have hne : ((l.length : Int) != (l.length : Int)) = false := by simp
  go_enter Tryd.func30, Tryd.ntmps30
  go_wp2
  go_loopw [5] (fun i wr => ∃ k : Nat, k ≤ l.length ∧ i = .int .i64 k ∧ ∃ n, wr = w.drewN n) (fun i _ => l.length - (intOf i).toNat)
  case atStart => exact ⟨0, by omega, rfl, 0, rfl⟩
  case round =>
    obtain ⟨k, hk, rfl, n, rfl⟩ := hrel
    by_cases hlt : k < l.length
    · obtain ⟨a, rfl⟩ : ∃ a, ao = some a := by
        cases ao with
        | none => have := hz rfl; omega
        | some a => exact ⟨a, rfl⟩
      obtain ⟨b, rfl⟩ : ∃ a, bo = some a := by
        cases bo with
        | none => have := hz2 rfl; omega
        | some a => exact ⟨a, rfl⟩
      obtain ⟨g0, g1⟩ := flat2_get (A := fun z : UInt64 × UInt64 => vU z.1) (Bf := fun z => vU z.2) l k hlt
      have r0 := cell_first (i := k * 2) (HC.out a rfl _ _ g0)
      have r1 := cell_next (i := k * 2) (j := 1) (HC.out a rfl _ _ g1) (by decide)
      have s0 := cell_first (i := k * 2) (HC2.out b rfl _ _ g0)
      have s1 := cell_next (i := k * 2) (j := 1) (HC2.out b rfl _ _ g1) (by decide)
      obtain ⟨z, hz3⟩ : ∃ z, l[k] = z := ⟨_, rfl⟩
      rw [hz3] at r0 r1 s0 s1
      obtain ⟨z1, z2⟩ := z
      clear g0 g1 hz3
      have hi1 : (k : Int) < l.length := by omega
      go_wp2
      go_quiet (fail)
      go_wp2
      go_roundw
      case rel => exact ⟨k + 1, by omega, by go_num, _, rfl⟩
      case measure => simp [intOf]; omega
    · have hkf : decide ((k : Int) < (l.length : Int)) = false := by simp; omega
      go_wp2
      go_returns
      exact ⟨rfl, Ext.drewN _ _⟩
end Go.Proofs.YtfpljeblehieiaaDoor
