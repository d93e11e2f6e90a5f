/- A life: what the statements look at, act by act. -/
import Derived.Test.YtahhafcbnkidnaaLifeA
set_option linter.unusedSimpArgs false
set_option linter.unusedVariables false
namespace Go.Proofs.Ytahhafcbnkidnaa
open Go.RowKit Go.Tum

def cntP (x r : L) (k e most : Int) : Prop :=
  (e ≠ 0 → r.s = 0 ∧ r.c = 0 ∧ r.d = 0 ∧ r.t = 0) ∧ (e = 0 → r.c ≤ most ∧ (r.c = x.c ∨ (r.c = wrap64 (x.c + 1) ∧ k = 0 ∧ r.s = 3) ∨ (r.c = 0 ∧ (k = 1 ∨ k = 5 ∨ k = 6))) ∧ (r.s ≠ 1 ∨ r.c < most))
def endP (x r : L) (k now e : Int) : Prop :=
  e ≠ 0 ∨ (r.s = x.s ∧ r.c = x.c ∧ r.d = x.d ∧ r.t = x.t) ∨ (x.s ≠ 5 ∧ (x.s = 4 → (k = 5 ∧ r.s = 1) ∨ (k = 6 ∧ r.s = 5)) ∧ (x.s = 2 → k = 4 ∧ r.s = 1 ∧ x.d ≤ now) ∧ (x.s ≠ 4 → x.s ≠ 2 → (x.s = 1 ∧ r.s = 3) ∨ x.s = 3))

def tokP (x r : L) (k tok e : Int) : Prop :=
  1 ≤ k → k ≤ 3 → (e = 9 ↔ ¬ (x.s = 3 ∧ x.t = tok)) ∧ (e = 0 → k = 3 → r.s = 3 ∧ r.t = tok) ∧ (e = 0 → k ≠ 3 → ¬ (r.s = 3 ∧ r.t = tok))


set_option maxRecDepth 100000 in
set_option maxHeartbeats 4000000 in
theorem cnt_any (x r : L) (k tok now n e most : Int) (b : Nat) (w : World) (hb : w.cell? ⟨b, 0, none⟩ = some (.int .i64 most)) (H : cntP x r k e most) :
    Calls Try.prog 14 #[lv x, lv r, .agg #[.int .i64 k, .int .u64 tok, .int .u64 now, .int .u64 n], .int .i64 e, .pointer (some ⟨b, 0, none⟩)] w fun e w' => e = .returned (.bool true) ∧ Ext w w' := by
  obtain ⟨s, c, d, t⟩ := x
  obtain ⟨s', c', d', t'⟩ := r
  have H' := hid H
  clear H
  have hc : ∀ o1 o2 o3 : Obj, (((w.alloc o1).alloc o2).alloc o3).cell? ⟨b, 0, none⟩ = some (.int .i64 most) := fun o1 o2 o3 => (((Ext.alloc w o1).trans (Ext.alloc _ o2)).trans (Ext.alloc _ o3)).cell hb
  clear hb
  go_enter Try.func14, Try.ntmps14
  go_wp2
  all_goals (have H := H'.out; clear H'; simp only [cntP] at H)
  (all_goals (go_returns; refine ⟨?_, by (repeat' (first | (with_reducible exact Below.refl _ _) | (with_reducible assumption) | (with_reducible refine Below.alloc ?_ ?_ _) | (with_reducible refine Below.drew ?_) | (with_reducible refine Below.setCell ?_ ?_ _) | (refine Go.Tum.Ext.trans ?_ (by with_reducible assumption)) | go_size))⟩; first | (simp; omega) | (simp_all; done) | (simp_all; omega)))
set_option maxRecDepth 100000 in
set_option maxHeartbeats 4000000 in
theorem end_see (x r : L) (k tok now n e most : Int) (w : World) (H : endP x r k now e) :
    Calls Try.prog 15 #[lv x, lv r, .agg #[.int .i64 k, .int .u64 tok, .int .u64 now, .int .u64 n], .int .i64 e] w fun e w' => e = .returned (.bool true) ∧ Ext w w' := by
  obtain ⟨s, c, d, t⟩ := x
  obtain ⟨s', c', d', t'⟩ := r
  have H' := hid H
  clear H
  go_enter Try.func15, Try.ntmps15
  go_wp2
  all_goals (have H := H'.out; clear H'; simp only [endP] at H)
  (all_goals (go_returns; refine ⟨?_, by (repeat' (first | (with_reducible exact Below.refl _ _) | (with_reducible assumption) | (with_reducible refine Below.alloc ?_ ?_ _) | (with_reducible refine Below.drew ?_) | (with_reducible refine Below.setCell ?_ ?_ _) | (refine Go.Tum.Ext.trans ?_ (by with_reducible assumption)) | go_size))⟩; first | (simp; omega) | (simp_all; done) | (simp_all; omega)))

set_option maxRecDepth 100000 in
set_option maxHeartbeats 4000000 in
theorem tok_any (x r : L) (k tok now n e most : Int) (w : World) (H : tokP x r k tok e) :
    Calls Try.prog 16 #[lv x, lv r, .agg #[.int .i64 k, .int .u64 tok, .int .u64 now, .int .u64 n], .int .i64 e] w fun e w' => e = .returned (.bool true) ∧ Ext w w' := by
  obtain ⟨s, c, d, t⟩ := x
  obtain ⟨s', c', d', t'⟩ := r
  have H' := hid H
  clear H
  go_enter Try.func16, Try.ntmps16
  go_wp2
  all_goals (have H := H'.out; clear H'; simp only [tokP] at H)
  all_goals (go_returns; refine ⟨?_, by (repeat' (first | (with_reducible exact Below.refl _ _) | (with_reducible assumption) | (with_reducible refine Below.alloc ?_ ?_ _) | (with_reducible refine Below.drew ?_) | (with_reducible refine Below.setCell ?_ ?_ _) | (refine Go.Tum.Ext.trans ?_ (by with_reducible assumption)) | go_size))⟩; first | (by_cases he : e = 9 <;> by_cases ht : t = tok <;> simp_all <;> omega))

end Go.Proofs.Ytahhafcbnkidnaa
