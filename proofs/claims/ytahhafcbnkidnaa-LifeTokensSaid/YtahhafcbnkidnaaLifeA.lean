/- A life: contracts of the package's methods. -/
import Derived.Test.YtahhafcbnkidnaaRows
import Derived.Test.YtahhafcbnkidnaaLib
import Derived.Deep.QuietTactic
import Derived.BigQuiet
import Derived.Handy
set_option linter.unusedSimpArgs false
set_option linter.unusedVariables false
namespace Go.Proofs.Ytahhafcbnkidnaa
open Go.RowKit Go.Tum

abbrev U64 (x : Int) : Prop := 0 ≤ x ∧ x ≤ 18446744073709551615
abbrev I64 (x : Int) : Prop := -9223372036854775808 ≤ x ∧ x ≤ 9223372036854775807
structure L where
  s : Int
  c : Int
  d : Int
  t : Int
deriving DecidableEq
abbrev lv (x : L) : Value := .agg #[.int .i64 x.s, .int .i64 x.c, .int .u64 x.d, .int .u64 x.t]
abbrev l0 : L := ⟨0, 0, 0, 0⟩
abbrev tl (r : L × Int) : Value := .tuple #[lv r.1, .int .i64 r.2]
abbrev overP (now more : Int) : Prop := 18446744073709551615 - now < more
def waitL (x : L) (now more : Int) : L × Int := if more = 0 then (⟨1, x.c, 0, 0⟩, 0) else if overP now more then (l0, 10) else (⟨2, x.c, now + more, 0⟩, 0)
def leaseL (x : L) (now span k : Int) : L × Int := if x.s ≠ 1 then (l0, 11) else if span = 0 then (l0, 1) else if overP now span then (l0, 10) else (⟨3, wrap64 (x.c + 1), now + span, k⟩, 0)
def endL (x : L) (most : Int) : L := if most ≤ x.c then ⟨4, x.c, 0, 0⟩ else ⟨1, x.c, 0, 0⟩
def ackL (x : L) (k : Int) : L × Int := if x.s = 3 ∧ x.t = k then (⟨5, 0, 0, 0⟩, 0) else (l0, 9)
def nackL (x : L) (k now delay most : Int) : L × Int := if x.s = 3 ∧ x.t = k then (if most ≤ x.c then (endL x most, 0) else waitL x now delay) else (l0, 9)
def extendL (x : L) (k now span : Int) : L × Int := if x.s = 3 ∧ x.t = k then (if span = 0 then (l0, 1) else if overP now span then (l0, 10) else (⟨3, x.c, now + span, k⟩, 0)) else (l0, 9)
def passL (x : L) (now most : Int) : L := if now < x.d then x else if x.s = 2 then ⟨1, x.c, 0, x.t⟩ else if x.s = 3 then endL x most else x
def deadL (x : L) (s : Int) : L × Int := if x.s = 4 then (⟨s, 0, 0, 0⟩, 0) else (l0, 5)
def resetL (x : L) (most : Int) : L := if x.s = 3 then endL x most else x



set_option maxRecDepth 100000 in
set_option maxHeartbeats 1000000 in
theorem wait_any (x : L) (now more : Int) (h1 : U64 now) (h2 : U64 more) (w : World) :
    Calls Try.prog 33 #[lv x, .int .u64 now, .int .u64 more] w fun e w' => e = .returned (tl (waitL x now more)) ∧ Ext w w' := by
  obtain ⟨s, c, d, t⟩ := x; obtain ⟨h1a, h1b⟩ := h1; obtain ⟨h2a, h2b⟩ := h2
  go_enter Try.func33, Try.ntmps33
  go_wp2
  (all_goals (go_returns; refine ⟨?_, by (repeat' (first | (with_reducible exact Below.refl _ _) | (with_reducible assumption) | (with_reducible refine Below.alloc ?_ ?_ _) | (with_reducible refine Below.drew ?_) | (with_reducible refine Below.setCell ?_ ?_ _) | (refine Go.Tum.Ext.trans ?_ (by with_reducible assumption)) | go_size))⟩; simp_all [waitL, leaseL, endL, ackL, nackL, extendL, passL, deadL, resetL, overP] <;> (repeat' split) <;> (first | omega | (simp_all; done) | (simp_all; omega))))

set_option maxRecDepth 100000 in
set_option maxHeartbeats 1000000 in
theorem end_any (x : L) (most : Int) (w : World) :
    Calls Try.prog 37 #[lv x, .int .i64 most] w fun e w' => e = .returned (lv (endL x most)) ∧ Ext w w' := by
  obtain ⟨s, c, d, t⟩ := x
  go_enter Try.func37, Try.ntmps37
  go_wp2
  (all_goals (go_returns; refine ⟨?_, by (repeat' (first | (with_reducible exact Below.refl _ _) | (with_reducible assumption) | (with_reducible refine Below.alloc ?_ ?_ _) | (with_reducible refine Below.drew ?_) | (with_reducible refine Below.setCell ?_ ?_ _) | (refine Go.Tum.Ext.trans ?_ (by with_reducible assumption)) | go_size))⟩; simp_all [waitL, leaseL, endL, ackL, nackL, extendL, passL, deadL, resetL, overP] <;> (repeat' split) <;> (first | omega | (simp_all; done) | (simp_all; omega))))

set_option maxRecDepth 100000 in
set_option maxHeartbeats 1000000 in
theorem ack_any (x : L) (k : Int) (w : World) :
    Calls Try.prog 17 #[lv x, .int .u64 k] w fun e w' => e = .returned (tl (ackL x k)) ∧ Ext w w' := by
  obtain ⟨s, c, d, t⟩ := x
  go_enter Try.func17, Try.ntmps17
  go_wp2
  (all_goals (go_returns; refine ⟨?_, by (repeat' (first | (with_reducible exact Below.refl _ _) | (with_reducible assumption) | (with_reducible refine Below.alloc ?_ ?_ _) | (with_reducible refine Below.drew ?_) | (with_reducible refine Below.setCell ?_ ?_ _) | (refine Go.Tum.Ext.trans ?_ (by with_reducible assumption)) | go_size))⟩; simp_all [waitL, leaseL, endL, ackL, nackL, extendL, passL, deadL, resetL, overP] <;> (repeat' split) <;> (first | omega | (simp_all; done) | (simp_all; omega))))

set_option maxRecDepth 100000 in
set_option maxHeartbeats 1000000 in
theorem lease_any (x : L) (now span k : Int) (h1 : U64 now) (h2 : U64 span) (w : World) :
    Calls Try.prog 20 #[lv x, .int .u64 now, .int .u64 span, .int .u64 k] w fun e w' => e = .returned (tl (leaseL x now span k)) ∧ Ext w w' := by
  obtain ⟨s, c, d, t⟩ := x; obtain ⟨h1a, h1b⟩ := h1; obtain ⟨h2a, h2b⟩ := h2
  go_enter Try.func20, Try.ntmps20
  go_wp2
  (all_goals (go_returns; refine ⟨?_, by (repeat' (first | (with_reducible exact Below.refl _ _) | (with_reducible assumption) | (with_reducible refine Below.alloc ?_ ?_ _) | (with_reducible refine Below.drew ?_) | (with_reducible refine Below.setCell ?_ ?_ _) | (refine Go.Tum.Ext.trans ?_ (by with_reducible assumption)) | go_size))⟩; simp_all [waitL, leaseL, endL, ackL, nackL, extendL, passL, deadL, resetL, overP] <;> (repeat' split) <;> (first | omega | (simp_all; done) | (simp_all; omega))))

set_option maxRecDepth 100000 in
set_option maxHeartbeats 1000000 in
theorem nack_any (x : L) (k now delay most : Int) (h1 : U64 now) (h2 : U64 delay) (w : World) :
    Calls Try.prog 21 #[lv x, .int .u64 k, .int .u64 now, .int .u64 delay, .int .i64 most] w fun e w' => e = .returned (tl (nackL x k now delay most)) ∧ Ext w w' := by
  obtain ⟨s, c, d, t⟩ := x; obtain ⟨h1a, h1b⟩ := h1; obtain ⟨h2a, h2b⟩ := h2
  go_enter Try.func21, Try.ntmps21
  go_wp2
  (all_goals (go_returns; refine ⟨?_, by (repeat' (first | (with_reducible exact Below.refl _ _) | (with_reducible assumption) | (with_reducible refine Below.alloc ?_ ?_ _) | (with_reducible refine Below.drew ?_) | (with_reducible refine Below.setCell ?_ ?_ _) | (refine Go.Tum.Ext.trans ?_ (by with_reducible assumption)) | go_size))⟩; simp_all [waitL, leaseL, endL, ackL, nackL, extendL, passL, deadL, resetL, overP] <;> (repeat' split) <;> (first | omega | (simp_all; done) | (simp_all; omega))))

set_option maxRecDepth 100000 in
set_option maxHeartbeats 1000000 in
theorem extend_any (x : L) (k now span : Int) (h1 : U64 now) (h2 : U64 span) (w : World) :
    Calls Try.prog 23 #[lv x, .int .u64 k, .int .u64 now, .int .u64 span] w fun e w' => e = .returned (tl (extendL x k now span)) ∧ Ext w w' := by
  obtain ⟨s, c, d, t⟩ := x; obtain ⟨h1a, h1b⟩ := h1; obtain ⟨h2a, h2b⟩ := h2
  go_enter Try.func23, Try.ntmps23
  go_wp2
  (all_goals (go_returns; refine ⟨?_, by (repeat' (first | (with_reducible exact Below.refl _ _) | (with_reducible assumption) | (with_reducible refine Below.alloc ?_ ?_ _) | (with_reducible refine Below.drew ?_) | (with_reducible refine Below.setCell ?_ ?_ _) | (refine Go.Tum.Ext.trans ?_ (by with_reducible assumption)) | go_size))⟩; simp_all [waitL, leaseL, endL, ackL, nackL, extendL, passL, deadL, resetL, overP] <;> (repeat' split) <;> (first | omega | (simp_all; done) | (simp_all; omega))))

set_option maxRecDepth 100000 in
set_option maxHeartbeats 1000000 in
theorem pass_any (x : L) (now most : Int) (w : World) :
    Calls Try.prog 18 #[lv x, .int .u64 now, .int .i64 most] w fun e w' => e = .returned (lv (passL x now most)) ∧ Ext w w' := by
  obtain ⟨s, c, d, t⟩ := x
  go_enter Try.func18, Try.ntmps18
  go_wp2
  (all_goals (go_returns; refine ⟨?_, by (repeat' (first | (with_reducible exact Below.refl _ _) | (with_reducible assumption) | (with_reducible refine Below.alloc ?_ ?_ _) | (with_reducible refine Below.drew ?_) | (with_reducible refine Below.setCell ?_ ?_ _) | (refine Go.Tum.Ext.trans ?_ (by with_reducible assumption)) | go_size))⟩; simp_all [waitL, leaseL, endL, ackL, nackL, extendL, passL, deadL, resetL, overP] <;> (repeat' split) <;> (first | omega | (simp_all; done) | (simp_all; omega))))

set_option maxRecDepth 100000 in
set_option maxHeartbeats 1000000 in
theorem reset_any (x : L) (most : Int) (w : World) :
    Calls Try.prog 19 #[lv x, .int .i64 most] w fun e w' => e = .returned (lv (resetL x most)) ∧ Ext w w' := by
  obtain ⟨s, c, d, t⟩ := x
  go_enter Try.func19, Try.ntmps19
  go_wp2
  (all_goals (go_returns; refine ⟨?_, by (repeat' (first | (with_reducible exact Below.refl _ _) | (with_reducible assumption) | (with_reducible refine Below.alloc ?_ ?_ _) | (with_reducible refine Below.drew ?_) | (with_reducible refine Below.setCell ?_ ?_ _) | (refine Go.Tum.Ext.trans ?_ (by with_reducible assumption)) | go_size))⟩; simp_all [waitL, leaseL, endL, ackL, nackL, extendL, passL, deadL, resetL, overP] <;> (repeat' split) <;> (first | omega | (simp_all; done) | (simp_all; omega))))

set_option maxRecDepth 100000 in
set_option maxHeartbeats 1000000 in
theorem requeue_any (x : L) (w : World) :
    Calls Try.prog 22 #[lv x] w fun e w' => e = .returned (tl (deadL x 1)) ∧ Ext w w' := by
  obtain ⟨s, c, d, t⟩ := x
  go_enter Try.func22, Try.ntmps22
  go_wp2
  (all_goals (go_returns; refine ⟨?_, by (repeat' (first | (with_reducible exact Below.refl _ _) | (with_reducible assumption) | (with_reducible refine Below.alloc ?_ ?_ _) | (with_reducible refine Below.drew ?_) | (with_reducible refine Below.setCell ?_ ?_ _) | (refine Go.Tum.Ext.trans ?_ (by with_reducible assumption)) | go_size))⟩; simp_all [waitL, leaseL, endL, ackL, nackL, extendL, passL, deadL, resetL, overP] <;> (repeat' split) <;> (first | omega | (simp_all; done) | (simp_all; omega))))

set_option maxRecDepth 100000 in
set_option maxHeartbeats 1000000 in
theorem purge_any (x : L) (w : World) :
    Calls Try.prog 24 #[lv x] w fun e w' => e = .returned (tl (deadL x 5)) ∧ Ext w w' := by
  obtain ⟨s, c, d, t⟩ := x
  go_enter Try.func24, Try.ntmps24
  go_wp2
  (all_goals (go_returns; refine ⟨?_, by (repeat' (first | (with_reducible exact Below.refl _ _) | (with_reducible assumption) | (with_reducible refine Below.alloc ?_ ?_ _) | (with_reducible refine Below.drew ?_) | (with_reducible refine Below.setCell ?_ ?_ _) | (refine Go.Tum.Ext.trans ?_ (by with_reducible assumption)) | go_size))⟩; simp_all [waitL, leaseL, endL, ackL, nackL, extendL, passL, deadL, resetL, overP] <;> (repeat' split) <;> (first | omega | (simp_all; done) | (simp_all; omega))))

set_option maxRecDepth 100000 in
set_option maxHeartbeats 1000000 in
theorem born_any (now more : Int) (h1 : U64 now) (h2 : U64 more) (w : World) :
    Calls Try.prog 11 #[.int .u64 now, .int .u64 more] w fun e w' => e = .returned (tl (waitL l0 now more)) ∧ Ext w w' := by
  obtain ⟨h1a, h1b⟩ := h1; obtain ⟨h2a, h2b⟩ := h2
  go_enter Try.func11, Try.ntmps11
  go_wp2
  (all_goals (go_returns; refine ⟨?_, by (repeat' (first | (with_reducible exact Below.refl _ _) | (with_reducible assumption) | (with_reducible refine Below.alloc ?_ ?_ _) | (with_reducible refine Below.drew ?_) | (with_reducible refine Below.setCell ?_ ?_ _) | (refine Go.Tum.Ext.trans ?_ (by with_reducible assumption)) | go_size))⟩; simp_all [waitL, leaseL, endL, ackL, nackL, extendL, passL, deadL, resetL, overP] <;> (repeat' split) <;> (first | omega | (simp_all; done) | (simp_all; omega))))
end Go.Proofs.Ytahhafcbnkidnaa
