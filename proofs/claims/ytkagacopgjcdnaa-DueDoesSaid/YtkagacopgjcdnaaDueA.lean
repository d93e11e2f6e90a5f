/- Package due: a tree in a heap's block; ahead. -/
import Derived.Test.YtkagacopgjcdnaaDueN
import Derived.Test.YtkagacopgjcdnaaVec
import Derived.Carry
import Derived.Deep.QuietTactic
import Derived.BigQuiet
import Derived.Handy
set_option linter.unusedSimpArgs false
set_option linter.unusedVariables false
namespace Go.Proofs.Ytkagacopgjcdnaa
open Go Go.RowKit Go.Tum Go.ChangeMaps

abbrev pv (b : Nat) : Value := .pointer (some ⟨b, 0, none⟩)
theorem lk3 {w : World} {b : Nat} {p q s : Value} {ty : TypeId} (h : w.heap[b]? = some (.cells #[p, q, s] ty (0, 0))) :
    w.cell? ⟨b, 0, none⟩ = some p ∧ w.cell? ⟨b, 1, none⟩ = some q ∧ w.cell? ⟨b, 2, none⟩ = some s ∧ w.frozen? ⟨b, 0, none⟩ = false ∧ w.frozen? ⟨b, 1, none⟩ = false ∧ w.frozen? ⟨b, 2, none⟩ = false := by
  refine ⟨by rw [cell_of_row _ _ _ _ _ _ h]; rfl, by rw [cell_of_row _ _ _ _ _ _ h]; rfl, by rw [cell_of_row _ _ _ _ _ _ h]; rfl, by simp [World.frozen?, h], by simp [World.frozen?, h], by simp [World.frozen?, h]⟩
abbrev heapO (mt mp : Nat) (v : Value) : Obj := .cells #[.map (some mt), v, .map (some mp)] 50 (0, 0)
def plF (row : List UInt64) : UInt64 → Option Int := fun x => if x ∈ row then some (row.idxOf x : Int) else none
structure Tr (b : Nat) (w : World) (p mt mp : Nat) (nt : Nat) (At : UInt64 → Option Int) (row : List UInt64) (v : Value) : Prop where
  hd : w.heap[p]? = some (heapO mt mp v)
  ti : MI .u64 w mt nt At
  pl : MI .i64 w mp row.length (plF row)
  ow : OwV vU w b 23 v row
  nd : row.Nodup
  ne : mt ≠ mp
def tim (At : UInt64 → Option Int) (x : UInt64) : Int := (At x).getD 0
def aheadB (At : UInt64 → Option Int) (x y : UInt64) : Bool := if tim At x ≠ tim At y then decide (tim At x < tim At y) else decide (x < y)
theorem MI.drewN {k : IntKind} {w : World} {m n : Nat} {F : UInt64 → Option Int} (h : MI k w m n F) (j : Nat) : MI k (w.drewN j) m n F := h.fr0 rfl

theorem drewN_two (w : World) (a b : Nat) : (w.drewN a).drewN b = w.drewN (a + b) := by simp [World.drewN, Nat.add_assoc]
set_option maxHeartbeats 1000000 in
theorem ahead_any (b : Nat) (w : World) (p mt mp nt : Nat) (At : UInt64 → Option Int) (row : List UInt64) (v : Value) (x y : UInt64) (h : Tr b w p mt mp nt At row v) :
    Calls Try.prog 22 #[pv p, vU x, vU y] w fun e w' => e = .returned (.bool (aheadB At x y)) ∧ ∃ n, w' = w.drewN n := by
  obtain ⟨c0, -⟩ := lk3 h.hd
  have hx : ∀ j, (Instr.lookup 44 (.map (some mt)) (vU x) false).run Try.prog (w.drewN j) = .ok (.int .u64 (tim At x)) (w.drewN j) := fun j => (h.ti.drewN j).look Try.underlying44 (Try.zeroValue23 _) x
  have hy : ∀ j, (Instr.lookup 44 (.map (some mt)) (vU y) false).run Try.prog (w.drewN j) = .ok (.int .u64 (tim At y)) (w.drewN j) := fun j => (h.ti.drewN j).look Try.underlying44 (Try.zeroValue23 _) y
  clear h
  by_cases ht : tim At x = tim At y
  · have hb : aheadB At x y = decide (x < y) := by unfold aheadB; rw [if_neg (by simp [ht])]
    have hne : (tim At x != tim At y) = false := by simp [ht]
    have hlt : decide (x.toNat < y.toNat) = decide (x < y) := by simp [UInt64.lt_iff_toNat_lt]
    rw [hb]
    clear hb ht
    obtain ⟨tx, htx⟩ : ∃ t, tim At x = t := ⟨_, rfl⟩
    obtain ⟨ty, hty⟩ : ∃ t, tim At y = t := ⟨_, rfl⟩
    rw [htx] at hx hne
    rw [hty] at hy hne
    clear htx hty
    go_enter Try.func22, Try.ntmps22
    go_wp2
    go_quiet (fail)
    go_wp2
    go_ret
    exact ⟨by rw [← hlt]; rfl, _, rfl⟩
  · have hb : aheadB At x y = decide (tim At x < tim At y) := by unfold aheadB; rw [if_pos ht]
    have hne : (tim At x != tim At y) = true := by simp [ht]
    rw [hb]
    clear hb ht
    obtain ⟨tx, htx⟩ : ∃ t, tim At x = t := ⟨_, rfl⟩
    obtain ⟨ty, hty⟩ : ∃ t, tim At y = t := ⟨_, rfl⟩
    rw [htx] at hx hne
    rw [hty] at hy hne
    rw [htx, hty]
    clear htx hty
    go_enter Try.func22, Try.ntmps22
    go_wp2
    go_quiet (fail)
    go_wp2
    go_quiet (fail)
    go_wp2
    go_ret
    exact ⟨rfl, _, drewN_two _ _ _⟩
end Go.Proofs.Ytkagacopgjcdnaa
