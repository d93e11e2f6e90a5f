/- Package due: Take. -/
import Derived.Test.YtkagacopgjcdnaaDueH
set_option linter.unusedSimpArgs false
set_option linter.unusedVariables false
namespace Go.Proofs.Ytkagacopgjcdnaa
open Go Go.RowKit Go.Tum Go.ChangeMaps Go.Tum.Hp

abbrev noneV : Value := .tuple #[.int .u64 0, .int .u64 0, .bool false]
def HTakeP (B : Nat) (w : World) (p mt mp : Nat) (At : UInt64 → Option Int) (row : List UInt64) (v : Value) (now : Int) (e : Ending) (w' : World) : Prop :=
  ((row = [] ∨ ∃ x r, row = x :: r ∧ now < tim At x) ∧ e = .returned noneV ∧ Ext w w') ∨
  (∃ x r, row = x :: r ∧ tim At x ≤ now ∧ e = .returned (.tuple #[vU x, .int .u64 (tim At x), .bool true]) ∧ ∃ row' v', (x :: row').Perm row ∧ HB B w' p mt mp (delF At x) row' v' ∧ Below B w w' ∧ Turn w w' p mt mp v v')
set_option maxHeartbeats 1000000 in
theorem htake_any (B : Nat) (w : World) (p mt mp : Nat) (At : UInt64 → Option Int) (row : List UInt64) (v : Value) (now : UInt64) (h : HB B w p mt mp At row v) (hl : row.length ≤ 10000) (hB : B ≤ w.heap.size) :
    Calls Try.prog 10 #[pv p, vU now] w fun e w' => HTakeP B w p mt mp At row v (now.toNat : Int) e w' := by
  cases row with
  | nil =>
    go_enter Try.func10, Try.ntmps10
    go_wp2_with fail
    refine (hfirst_any B w p mt mp At _ v h).mono ?_
    rintro e w1 ⟨rfl, E1⟩
    rw [show fst At [] = .tuple #[.int .u64 0, .int .u64 0, .bool false] from rfl]
    go_wp2
    go_returns
    exact .inl ⟨.inl rfl, rfl, E1⟩
  | cons x r =>
    obtain ⟨t, ht⟩ : ∃ t, tim At x = t := ⟨_, rfl⟩
    have hfs : fst At (x :: r) = .tuple #[vU x, .int .u64 t, .bool true] := by rw [← ht]; rfl
    have HT := hid ht
    by_cases hle : (now.toNat : Int) < t
    · have hd : decide ((now.toNat : Int) < t) = true := by simpa using hle
      have HLE := hid hle
      clear ht hle
      go_enter Try.func10, Try.ntmps10
      go_wp2_with fail
      refine (hfirst_any B w p mt mp At _ v h).mono ?_
      rintro e w1 ⟨rfl, E1⟩
      rw [hfs]
      go_wp2
      go_returns
      exact .inl ⟨.inr ⟨x, r, rfl, by rw [HT.out]; exact HLE.out⟩, rfl, E1⟩
    · have hd : decide ((now.toNat : Int) < t) = false := by simpa using hle
      have HLE := hid hle
      clear ht hle
      go_enter Try.func10, Try.ntmps10
      go_wp2_with fail
      refine (hfirst_any B w p mt mp At _ v h).mono ?_
      rintro e w1 ⟨rfl, E1⟩
      rw [hfs]
      have h1 := h.ext E1
      have HE1 : Hid (Below B w w1) := hid (Below.mono E1 hB)
      go_wp2_with fail
      refine (hdrop_any B w1 p mt mp At _ v x h1 hl (Nat.le_trans hB HE1.out.size)).mono ?_
      rintro e w2 ⟨-, h2⟩
      obtain ⟨rfl, row', v', hpm, hH, hE, hN⟩ := h2 (by simp)
      have HE2 : Hid (Below B w w2) := hid (HE1.out.trans hE)
      have HH := hid hH
      have HPM := hid hpm
      have HTN := hid (turn_ext E1 hN)
      clear hpm hH hE h1 h hN
      go_wp2
      go_returns
      exact .inr ⟨x, r, rfl, by rw [HT.out]; have := HLE.out; omega, by rw [HT.out]; rfl, row', v', HPM.out, HH.out, HE2.out, HTN.out⟩
end Go.Proofs.Ytkagacopgjcdnaa
