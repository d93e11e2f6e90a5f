/- A life: the document's answers; awake. -/
import Derived.Test.YtahhafcbnkidnaaLifeA
set_option linter.unusedSimpArgs false
set_option linter.unusedVariables false
namespace Go.Proofs.Ytahhafcbnkidnaa
open Go.RowKit Go.Tum

set_option maxRecDepth 100000 in
set_option maxHeartbeats 1000000 in
theorem rends_any (x : L) (most : Int) (w : World) :
    Calls Try.prog 40 #[lv x, .int .i64 most] w fun e w' => e = .returned (lv (endL x most)) ∧ Ext w w' := by
  obtain ⟨s, c, d, t⟩ := x
  go_enter Try.func40, Try.ntmps40
  go_wp2
  (all_goals (go_returns; refine ⟨?_, by (repeat' (first | (with_reducible exact Below.refl _ _) | (with_reducible assumption) | (with_reducible refine Below.alloc ?_ ?_ _) | (with_reducible refine Below.drew ?_) | (with_reducible refine Below.setCell ?_ ?_ _) | (refine Go.Tum.Ext.trans ?_ (by with_reducible assumption)) | go_size))⟩; simp_all [waitL, leaseL, endL, ackL, nackL, extendL, passL, deadL, resetL, overP] <;> (repeat' split) <;> (first | omega | (simp_all; done) | (simp_all; omega))))

set_option maxRecDepth 100000 in
set_option maxHeartbeats 1000000 in
theorem rack_any (x : L) (k : Int) (w : World) :
    Calls Try.prog 26 #[lv x, .int .u64 k] w fun e w' => e = .returned (tl (ackL x k)) ∧ Ext w w' := by
  obtain ⟨s, c, d, t⟩ := x
  go_enter Try.func26, Try.ntmps26
  go_wp2
  (all_goals (go_returns; refine ⟨?_, by (repeat' (first | (with_reducible exact Below.refl _ _) | (with_reducible assumption) | (with_reducible refine Below.alloc ?_ ?_ _) | (with_reducible refine Below.drew ?_) | (with_reducible refine Below.setCell ?_ ?_ _) | (refine Go.Tum.Ext.trans ?_ (by with_reducible assumption)) | go_size))⟩; simp_all [waitL, leaseL, endL, ackL, nackL, extendL, passL, deadL, resetL, overP] <;> (repeat' split) <;> (first | omega | (simp_all; done) | (simp_all; omega))))

set_option maxRecDepth 100000 in
set_option maxHeartbeats 1000000 in
theorem rlease_any (x : L) (now span k : Int) (h1 : U64 now) (h2 : U64 span) (w : World) :
    Calls Try.prog 25 #[lv x, .int .u64 now, .int .u64 span, .int .u64 k] w fun e w' => e = .returned (tl (leaseL x now span k)) ∧ Ext w w' := by
  obtain ⟨s, c, d, t⟩ := x; obtain ⟨h1a, h1b⟩ := h1; obtain ⟨h2a, h2b⟩ := h2
  go_enter Try.func25, Try.ntmps25
  go_wp2
  (all_goals (go_returns; refine ⟨?_, by (repeat' (first | (with_reducible exact Below.refl _ _) | (with_reducible assumption) | (with_reducible refine Below.alloc ?_ ?_ _) | (with_reducible refine Below.drew ?_) | (with_reducible refine Below.setCell ?_ ?_ _) | (refine Go.Tum.Ext.trans ?_ (by with_reducible assumption)) | go_size))⟩; simp_all [waitL, leaseL, endL, ackL, nackL, extendL, passL, deadL, resetL, overP] <;> (repeat' split) <;> (first | omega | (simp_all; done) | (simp_all; omega))))

set_option maxRecDepth 100000 in
set_option maxHeartbeats 1000000 in
theorem rnack_any (x : L) (k now delay most : Int) (h1 : U64 now) (h2 : U64 delay) (w : World) :
    Calls Try.prog 27 #[lv x, .int .u64 k, .int .u64 now, .int .u64 delay, .int .i64 most] w fun e w' => e = .returned (tl (nackL x k now delay most)) ∧ Ext w w' := by
  obtain ⟨s, c, d, t⟩ := x; obtain ⟨h1a, h1b⟩ := h1; obtain ⟨h2a, h2b⟩ := h2
  go_enter Try.func27, Try.ntmps27
  go_wp2
  (all_goals (go_returns; refine ⟨?_, by (repeat' (first | (with_reducible exact Below.refl _ _) | (with_reducible assumption) | (with_reducible refine Below.alloc ?_ ?_ _) | (with_reducible refine Below.drew ?_) | (with_reducible refine Below.setCell ?_ ?_ _) | (refine Go.Tum.Ext.trans ?_ (by with_reducible assumption)) | go_size))⟩; simp_all [waitL, leaseL, endL, ackL, nackL, extendL, passL, deadL, resetL, overP] <;> (repeat' split) <;> (first | omega | (simp_all; done) | (simp_all; omega))))

set_option maxRecDepth 100000 in
set_option maxHeartbeats 1000000 in
theorem rextend_any (x : L) (k now span : Int) (h1 : U64 now) (h2 : U64 span) (w : World) :
    Calls Try.prog 28 #[lv x, .int .u64 k, .int .u64 now, .int .u64 span] w fun e w' => e = .returned (tl (extendL x k now span)) ∧ Ext w w' := by
  obtain ⟨s, c, d, t⟩ := x; obtain ⟨h1a, h1b⟩ := h1; obtain ⟨h2a, h2b⟩ := h2
  go_enter Try.func28, Try.ntmps28
  go_wp2
  (all_goals (go_returns; refine ⟨?_, by (repeat' (first | (with_reducible exact Below.refl _ _) | (with_reducible assumption) | (with_reducible refine Below.alloc ?_ ?_ _) | (with_reducible refine Below.drew ?_) | (with_reducible refine Below.setCell ?_ ?_ _) | (refine Go.Tum.Ext.trans ?_ (by with_reducible assumption)) | go_size))⟩; simp_all [waitL, leaseL, endL, ackL, nackL, extendL, passL, deadL, resetL, overP] <;> (repeat' split) <;> (first | omega | (simp_all; done) | (simp_all; omega))))

set_option maxRecDepth 100000 in
set_option maxHeartbeats 1000000 in
theorem rpass_any (x : L) (now most : Int) (w : World) :
    Calls Try.prog 29 #[lv x, .int .u64 now, .int .i64 most] w fun e w' => e = .returned (lv (passL x now most)) ∧ Ext w w' := by
  obtain ⟨s, c, d, t⟩ := x
  go_enter Try.func29, Try.ntmps29
  go_wp2
  (all_goals (go_returns; refine ⟨?_, by (repeat' (first | (with_reducible exact Below.refl _ _) | (with_reducible assumption) | (with_reducible refine Below.alloc ?_ ?_ _) | (with_reducible refine Below.drew ?_) | (with_reducible refine Below.setCell ?_ ?_ _) | (refine Go.Tum.Ext.trans ?_ (by with_reducible assumption)) | go_size))⟩; simp_all [waitL, leaseL, endL, ackL, nackL, extendL, passL, deadL, resetL, overP] <;> (repeat' split) <;> (first | omega | (simp_all; done) | (simp_all; omega))))

set_option maxRecDepth 100000 in
set_option maxHeartbeats 1000000 in
theorem rreset_any (x : L) (most : Int) (w : World) :
    Calls Try.prog 32 #[lv x, .int .i64 most] w fun e w' => e = .returned (lv (resetL x most)) ∧ Ext w w' := by
  obtain ⟨s, c, d, t⟩ := x
  go_enter Try.func32, Try.ntmps32
  go_wp2
  (all_goals (go_returns; refine ⟨?_, by (repeat' (first | (with_reducible exact Below.refl _ _) | (with_reducible assumption) | (with_reducible refine Below.alloc ?_ ?_ _) | (with_reducible refine Below.drew ?_) | (with_reducible refine Below.setCell ?_ ?_ _) | (refine Go.Tum.Ext.trans ?_ (by with_reducible assumption)) | go_size))⟩; simp_all [waitL, leaseL, endL, ackL, nackL, extendL, passL, deadL, resetL, overP] <;> (repeat' split) <;> (first | omega | (simp_all; done) | (simp_all; omega))))

set_option maxRecDepth 100000 in
set_option maxHeartbeats 1000000 in
theorem rrequeue_any (x : L) (w : World) :
    Calls Try.prog 30 #[lv x] w fun e w' => e = .returned (tl (deadL x 1)) ∧ Ext w w' := by
  obtain ⟨s, c, d, t⟩ := x
  go_enter Try.func30, Try.ntmps30
  go_wp2
  (all_goals (go_returns; refine ⟨?_, by (repeat' (first | (with_reducible exact Below.refl _ _) | (with_reducible assumption) | (with_reducible refine Below.alloc ?_ ?_ _) | (with_reducible refine Below.drew ?_) | (with_reducible refine Below.setCell ?_ ?_ _) | (refine Go.Tum.Ext.trans ?_ (by with_reducible assumption)) | go_size))⟩; simp_all [waitL, leaseL, endL, ackL, nackL, extendL, passL, deadL, resetL, overP] <;> (repeat' split) <;> (first | omega | (simp_all; done) | (simp_all; omega))))

set_option maxRecDepth 100000 in
set_option maxHeartbeats 1000000 in
theorem rpurge_any (x : L) (w : World) :
    Calls Try.prog 31 #[lv x] w fun e w' => e = .returned (tl (deadL x 5)) ∧ Ext w w' := by
  obtain ⟨s, c, d, t⟩ := x
  go_enter Try.func31, Try.ntmps31
  go_wp2
  (all_goals (go_returns; refine ⟨?_, by (repeat' (first | (with_reducible exact Below.refl _ _) | (with_reducible assumption) | (with_reducible refine Below.alloc ?_ ?_ _) | (with_reducible refine Below.drew ?_) | (with_reducible refine Below.setCell ?_ ?_ _) | (refine Go.Tum.Ext.trans ?_ (by with_reducible assumption)) | go_size))⟩; simp_all [waitL, leaseL, endL, ackL, nackL, extendL, passL, deadL, resetL, overP] <;> (repeat' split) <;> (first | omega | (simp_all; done) | (simp_all; omega))))

set_option maxRecDepth 100000 in
set_option maxHeartbeats 1000000 in
theorem rborn_any (now more : Int) (h1 : U64 now) (h2 : U64 more) (w : World) :
    Calls Try.prog 12 #[.int .u64 now, .int .u64 more] w fun e w' => e = .returned (tl (waitL l0 now more)) ∧ Ext w w' := by
  obtain ⟨h1a, h1b⟩ := h1; obtain ⟨h2a, h2b⟩ := h2
  go_enter Try.func12, Try.ntmps12
  go_wp2
  (all_goals (go_returns; refine ⟨?_, by (repeat' (first | (with_reducible exact Below.refl _ _) | (with_reducible assumption) | (with_reducible refine Below.alloc ?_ ?_ _) | (with_reducible refine Below.drew ?_) | (with_reducible refine Below.setCell ?_ ?_ _) | (refine Go.Tum.Ext.trans ?_ (by with_reducible assumption)) | go_size))⟩; simp_all [waitL, leaseL, endL, ackL, nackL, extendL, passL, deadL, resetL, overP] <;> (repeat' split) <;> (first | omega | (simp_all; done) | (simp_all; omega))))

end Go.Proofs.Ytahhafcbnkidnaa
