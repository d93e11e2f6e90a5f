/- Rows of numbers, held by an array; comparing two of them; what a swap leaves. -/
import Derived.Test.YtpbmbjdiilnaeaaDoorNamS
import Derived.Test.YtpbmbjdiilnaeaaDoorVec
import Derived.Test.YtpbmbjdiilnaeaaDoorParE
import Derived.Test.YtpbmbjdiilnaeaaDoorRgC
import Derived.Test.YtpbmbjdiilnaeaaDoorFr
import Derived.Sort.WalkA
import Derived.Sort.LotA
import Derived.Handy
set_option linter.unusedSimpArgs false
set_option linter.unusedVariables false
namespace Go.Proofs.YtpbmbjdiilnaeaaDoor
open Go Go.RowKit Go.Tum Go.ChangeMaps Go.Sort

abbrev ltU (a b : UInt64) : Bool := decide (a < b)
theorem isNaN_any (a : UInt64) (w : World) : Calls Tryd.prog 56 #[uv a] w fun e w' => e = .returned (.bool false) ∧ w' = w := by
  have h : ((a.toNat : Int) != (a.toNat : Int)) = false := by simp
  go_enter Tryd.func56, Tryd.ntmps56
  go_wp2
  go_ret
  exact ⟨rfl, rfl⟩
theorem lessU_any (a b : UInt64) (w : World) : Calls Tryd.prog 46 #[uv a, uv b] w fun e w' => e = .returned (.bool (ltU a b)) ∧ w' = w := by
  have e1 : ltU a b = decide (a.toNat < b.toNat) := by unfold ltU; simp only [UInt64.lt_iff_toNat_lt]
  obtain ⟨c, hc⟩ : ∃ c, decide (a.toNat < b.toNat) = c := ⟨_, rfl⟩
  rw [e1, hc]
  clear e1
  go_enter Tryd.func46, Tryd.ntmps46
  go_wp2_with fail
  refine (isNaN_any a w).mono ?_
  rintro e w1 ⟨rfl, rfl⟩
  cases c <;> (go_wp2; go_ret; exact ⟨rfl, rfl⟩)
abbrev RowU (w : World) (B g n cap : Nat) (l : List UInt64) : Prop := w.ownsRow B 22 1 (.slice (some ⟨g, 0, none⟩) n cap) n (l.map uv)
theorem addU (g k : Nat) : (⟨g, 0, none⟩ : Addr).add k = ⟨g, k, none⟩ := by unfold Addr.add; split <;> simp_all
theorem RowU.at {w : World} {B g n cap : Nat} {l : List UInt64} (h : RowU w B g n cap l) (hn : l.length = n) {j : Nat} (hj : j < n) : w.cell? ⟨g, j, none⟩ = some (uv (l[j]'(by omega))) ∧ w.frozen? ⟨g, j, none⟩ = false := by
  refine ⟨?_, World.ownsRow.frozenAt h _⟩
  rw [World.ownsRow.cellAt h _ (by omega)]
  simp [show j < l.length by omega]
theorem RowU.set {w : World} {B g n cap : Nat} {l : List UInt64} (h : RowU w B g n cap l) (j : Nat) (z : UInt64) : RowU (w.setCell ⟨g, j, none⟩ (uv z)) B g n cap (l.set j z) ∧ Fr [g] w (w.setCell ⟨g, j, none⟩ (uv z)) := by
  have := (World.ownsRow.stored h j (uv z)).1
  refine ⟨?_, fr_setCell _ _ _ (by simp)⟩
  show World.ownsRow _ B _ 1 _ n ((l.set j z).map uv)
  rw [List.map_set]
  exact this
/-- A row of numbers whose cells an array tells. -/
structure RA (w : World) (B g n cap : Nat) (d : Array UInt64) : Prop where
  row : RowU w B g n cap d.toList
  size : d.size = n
theorem RA.at {w : World} {B g n cap : Nat} {d : Array UInt64} (h : RA w B g n cap d) {j : Nat} (hj : j < n) : w.cell? ⟨g, j, none⟩ = some (uv d[j]!) ∧ w.frozen? ⟨g, j, none⟩ = false := by
  have := h.row.at (by simpa using h.size) hj
  rw [getElem!_pos d j (by rw [h.size]; exact hj)]
  simpa using this
theorem RA.ext {w w' : World} {B g n cap : Nat} {d : Array UInt64} (hx : Ext w w') (h : RA w B g n cap d) : RA w' B g n cap d := ⟨hx.owns h.row, h.size⟩
theorem RA.set {w : World} {B g n cap : Nat} {d : Array UInt64} (h : RA w B g n cap d) (j : Nat) (z : UInt64) : RA (w.setCell ⟨g, j, none⟩ (uv z)) B g n cap (d.setIfInBounds j z) ∧ Fr [g] w (w.setCell ⟨g, j, none⟩ (uv z)) := by
  have := h.row.set j z
  exact ⟨⟨by simpa using this.1, by simpa using h.size⟩, this.2⟩
theorem RA.bound {w : World} {B g n cap : Nat} {d : Array UInt64} (h : RA w B g n cap d) : n ≤ cap ∧ cap ≤ 9223372036854775807 := by
  rcases h.row.2 with ⟨hv, -⟩ | ⟨g', cap', cur, hv, hb, hgg, h1, h2, -⟩
  · cases hv
  · cases hv; exact ⟨h1, by simpa [maxLen] using h2⟩
theorem cellV {B g n cap : Nat} (d : Array UInt64) (j : Nat) (hj : j < n) : ∃ z, Hid (d[j]! = z) ∧ Hid (∀ w', RA w' B g n cap d → w'.cell? ⟨g, j, none⟩ = some (uv z)) :=
  ⟨_, hid rfl, hid fun w' h => (h.at hj).1⟩
theorem RA.swp {w : World} {B g n cap i j : Nat} {d : Array UInt64} {zi zj : UInt64} (hi : Hid (d[i]! = zi)) (hj : Hid (d[j]! = zj)) (h : RA w B g n cap ((d.setIfInBounds i zj).setIfInBounds j zi)) : RA w B g n cap (Sort.swp d i j) := by
  unfold Sort.swp; rw [hi.out, hj.out]; exact h
def SwV (W : World) (B g n cap i j : Nat) (zi zj : UInt64) (d : Array UInt64) (k : Nat) (_ : Nat → Value) (w' : World) : Prop := (k < 1 → Ext W w') ∧ match k with
  | 1 => RA w' B g n cap (d.setIfInBounds i zj) ∧ Fr [g] W w'
  | 2 => RA w' B g n cap ((d.setIfInBounds i zj).setIfInBounds j zi) ∧ Fr [g] W w'
  | _ => True
theorem swoU : SWO ltU where
  irrefl x := by simp
  trans x y z := by simp only [ltU, decide_eq_true_eq, UInt64.lt_iff_toNat_lt]; omega
  ntrans x y z := by simp only [ltU, decide_eq_false_iff_not, UInt64.lt_iff_toNat_lt]; omega
theorem i64v {x : Int} (y : Nat) (h : x = (y : Int)) (hy : y < 9223372036854775808) : IntKind.i64.wrap x = (y : Int) := by rw [h]; exact IntWalk.i64_in _ (by omega)
/-- A number of the program that is a Nat. -/
theorem nameV (k : Nat) : ∃ q : Nat, q = k := ⟨k, rfl⟩
end Go.Proofs.YtpbmbjdiilnaeaaDoor
