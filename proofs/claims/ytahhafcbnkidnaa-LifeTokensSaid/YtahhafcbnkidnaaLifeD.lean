/- A life: an act. -/
import Derived.Test.YtahhafcbnkidnaaLifeC
set_option linter.unusedSimpArgs false
set_option linter.unusedVariables false
namespace Go.Proofs.Ytahhafcbnkidnaa
open Go.RowKit Go.Tum

structure Ac where
  k : Int
  tok : Int
  now : Int
  n : Int
abbrev av (a : Ac) : Value := .agg #[.int .i64 a.k, .int .u64 a.tok, .int .u64 a.now, .int .u64 a.n]
def doL (x : L) (a : Ac) (most : Int) : L × Int :=
  if a.k = 0 then leaseL x a.now a.n a.tok else if a.k = 1 then ackL x a.tok else if a.k = 2 then nackL x a.tok a.now a.n most else if a.k = 3 then extendL x a.tok a.now a.n
  else if a.k = 4 then (passL x a.now most, 0) else if a.k = 5 then deadL x 1 else if a.k = 6 then deadL x 5 else (resetL x most, 0)

set_option maxRecDepth 100000 in
set_option maxHeartbeats 4000000 in
theorem do_any (x : L) (a : Ac) (most : Int) (h1 : U64 a.now) (h2 : U64 a.n) (w : World) :
    Calls Try.prog 9 #[lv x, av a, .int .i64 most] w fun e w' => e = .returned (tl (doL x a most)) ∧ Ext w w' := by
  obtain ⟨s, c, d, t⟩ := x
  obtain ⟨k, tok, now, n⟩ := a
  replace h1 : U64 now := h1
  replace h2 : U64 n := h2
  obtain ⟨h1a, h1b⟩ := h1
  obtain ⟨h2a, h2b⟩ := h2
  go_enter Try.func9, Try.ntmps9
  go_wp2
  (all_goals (go_returns; refine ⟨?_, by (repeat' (first | (with_reducible exact Below.refl _ _) | (with_reducible assumption) | (with_reducible refine Below.alloc ?_ ?_ _) | (with_reducible refine Below.drew ?_) | (with_reducible refine Below.setCell ?_ ?_ _) | (refine Go.Tum.Ext.trans ?_ (by with_reducible assumption)) | go_size))⟩; simp_all [doL, waitL, leaseL, endL, ackL, nackL, extendL, passL, deadL, resetL, overP] <;> (repeat' split) <;> (first | omega | (simp_all; done) | (simp_all; omega))))

set_option maxRecDepth 100000 in
set_option maxHeartbeats 4000000 in
theorem own_any (x : L) (a : Ac) (most : Int) (h1 : U64 a.now) (h2 : U64 a.n) (w : World) :
    Calls Try.prog 10 #[lv x, av a, .int .i64 most] w fun e w' => e = .returned (tl (doL x a most)) ∧ Ext w w' := by
  obtain ⟨s, c, d, t⟩ := x
  obtain ⟨k, tok, now, n⟩ := a
  replace h1 : U64 now := h1
  replace h2 : U64 n := h2
  obtain ⟨h1a, h1b⟩ := h1
  obtain ⟨h2a, h2b⟩ := h2
  go_enter Try.func10, Try.ntmps10
  go_wp2
  (all_goals (go_returns; refine ⟨?_, by (repeat' (first | (with_reducible exact Below.refl _ _) | (with_reducible assumption) | (with_reducible refine Below.alloc ?_ ?_ _) | (with_reducible refine Below.drew ?_) | (with_reducible refine Below.setCell ?_ ?_ _) | (refine Go.Tum.Ext.trans ?_ (by with_reducible assumption)) | go_size))⟩; simp_all [doL, waitL, leaseL, endL, ackL, nackL, extendL, passL, deadL, resetL, overP] <;> (repeat' split) <;> (first | omega | (simp_all; done) | (simp_all; omega))))
end Go.Proofs.Ytahhafcbnkidnaa
