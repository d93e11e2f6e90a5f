/- Maps from numbers to numbers. -/
import Derived.Test.YtfpljeblehieiaaDoorFr
set_option linter.unusedSimpArgs false
set_option linter.unusedVariables false
namespace Go.Proofs.YtfpljeblehieiaaDoor
open Go Go.RowKit Go.Tum Go.ChangeMaps

abbrev DU := DataW Unit
abbrev vU (x : UInt64) : Value := .int .u64 (x.toNat : Int)
abbrev kU (x : UInt64) : Lit := .int .u64 (x.toNat : Int)
def rdI : Value → Option (DU × List MemPlace)
  | .int k n => some (.lit (.int k n), [])
  | _ => none
theorem rdI_inv {v : Value} {ps : List MemPlace} {k : IntKind} {n : Int} (h : rdI v = some (.lit (.int k n), ps)) : v = .int k n := by
  unfold rdI at h
  split at h
  · simp at h
    rw [h.1.1, h.1.2]
  · simp at h
theorem kU_key (x : UInt64) : keyOf Tryd.prog 29 (vU x) = some (kU x) := Maps.keyOf_int_mk Tryd.underlying29 (by
  have := x.toNat_lt
  simp [Lit.wf, IntKind.min, IntKind.max, IntKind.signed, IntKind.bits]
  omega)
theorem kU_ne {x y : UInt64} (h : x ≠ y) : kU x ≠ kU y := by
  intro e
  simp at e
  exact h (UInt64.toNat_inj.1 (by omega))
theorem keyed64 : Maps.Keyed Tryd.prog 29 := Maps.int_keyed Tryd.underlying29


/-- The map in block m: n keys, x at F x. -/
def MI (k : IntKind) (w : World) (m n : Nat) (F : UInt64 → Option Int) : Prop := ∃ D : DU, w.ownsMap Tryd.prog 29 rdI m n D ∧ Maps.size D = n ∧
  ∀ x z, D.atKey (kU x) z = match F x with | none => z | some i => .lit (.int k i)
theorem MI.hasD {k : IntKind} {F : UInt64 → Option Int} {D : DU} (h : ∀ x z, D.atKey (kU x) z = match F x with | none => z | some i => .lit (.int k i)) (x : UInt64) : Maps.has D (kU x) = (F x).isSome := by
  cases hx : F x with
  | none => exact Maps.has_false_of_atKey fun z => by rw [h, hx]
  | some b => exact Maps.has_true_of_atKey (y := .lit (.int k b)) fun z => by rw [h, hx]
theorem MI.made (k : IntKind) (w : World) : MI k (w.alloc (.map #[] 0)) w.heap.size 0 (fun _ => none) := by
  refine ⟨.map [], World.ownsMap_made w _ _ _, rfl, fun x z => ?_⟩
  exact WideAt.atKey_none z (by simp)
theorem MI.fr {S : List Nat} {k : IntKind} {w w' : World} {m n : Nat} {F : UInt64 → Option Int} (h : MI k w m n F) (f : Fr S w w') (hm : m ∉ S) : MI k w' m n F := by
  obtain ⟨D, ⟨es, c, h1, h4, h5, h6⟩, h2, h3⟩ := h
  exact ⟨D, ⟨es, c, (f.block m (Array.getElem?_eq_some_iff.1 h1).1 hm).trans h1, h4, h5, h6⟩, h2, h3⟩
theorem MI.block {k : IntKind} {w : World} {m n : Nat} {F : UInt64 → Option Int} (h : MI k w m n F) : ∃ es c, w.heap[m]? = some (.map es c) := by
  obtain ⟨D, ⟨es, c, h1, _⟩, _⟩ := h
  exact ⟨es, c, h1⟩
theorem MI.congr {k : IntKind} {w : World} {m n : Nat} {F G : UInt64 → Option Int} (h : MI k w m n F) (e : ∀ x, F x = G x) : MI k w m n G := by
  rw [← funext e]; exact h
section
variable {k : IntKind} {mt vt : TypeId} {w : World} {m n : Nat} {F : UInt64 → Option Int}
theorem MI.look (h : MI k w m n F) (ht : Tryd.prog.underlying mt = some (.map 29 vt)) (hz : (zeroValue vt).run Tryd.prog w = .ok (.int k 0) w) (x : UInt64) :
    (Instr.lookup mt (.map (some m)) (vU x) false).run Tryd.prog w = .ok (.int k ((F x).getD 0)) w := by
  obtain ⟨D, h1, h2, h3⟩ := h
  obtain ⟨v, ps, hrun, hv⟩ := h1.lookup keyed64 ht hz (zd := .lit (.int k 0)) (zp := []) rfl (kU_key x)
  rw [h3] at hv
  have : v = .int k ((F x).getD 0) := by
    cases hx : F x <;> rw [hx] at hv <;> exact rdI_inv hv
  rw [← this]; exact hrun
theorem MI.look_ok (h : MI k w m n F) (ht : Tryd.prog.underlying mt = some (.map 29 vt)) (hz : (zeroValue vt).run Tryd.prog w = .ok (.int k 0) w) (x : UInt64) :
    (Instr.lookup mt (.map (some m)) (vU x) true).run Tryd.prog w = .ok (.tuple #[.int k ((F x).getD 0), .bool (F x).isSome]) w := by
  obtain ⟨D, h1, h2, h3⟩ := h
  obtain ⟨v, ps, hrun, hv⟩ := h1.look_ok keyed64 ht hz (zd := .lit (.int k 0)) (zp := []) rfl (kU_key x)
  rw [h3] at hv
  have : v = .int k ((F x).getD 0) := by
    cases hx : F x <;> rw [hx] at hv <;> exact rdI_inv hv
  rw [MI.hasD h3] at hrun
  rw [← this]; exact hrun
theorem MI.len (h : MI k w m n F) (ht : Tryd.prog.underlying mt = some (.map 29 vt)) (ty : TypeId) : (Builtin.len_ #[mt] ty #[.map (some m)]).run Tryd.prog w = .ok (.int .i64 (n : Int)) w := by
  obtain ⟨D, h1, h2, h3⟩ := h
  rw [h1.len ht ty, h2]
def setF (F : UInt64 → Option Int) (x : UInt64) (i : Int) : UInt64 → Option Int := fun y => if y = x then some i else F y
def delF (F : UInt64 → Option Int) (x : UInt64) : UInt64 → Option Int := fun y => if y = x then none else F y
theorem MI.store (h : MI k w m n F) (ht : Tryd.prog.underlying mt = some (.map 29 vt)) (hl : n ≤ 1048576) (x : UInt64) (i : Int) :
    ∃ w', (Instr.mapUpdate mt (.map (some m)) (vU x) (.int k i)).run Tryd.prog w = .ok () w' ∧ MI k w' m (if (F x).isSome then n else n + 1) (setF F x i) ∧ w.mapTurned w' m := by
  obtain ⟨D, h1, h2, h3⟩ := h
  obtain ⟨w', hrun, r1, r2⟩ := h1.store keyed64 ht (by simp [maxLen]; omega) (kU_key x) (show rdI (.int k i) = some (.lit (.int k i), []) from rfl)
  have hsz : Maps.size (D.put (kU x) (.lit (.int k i))) = (if (F x).isSome then n else n + 1) := by
    rw [Maps.size_put (h1.tidy keyed64), MI.hasD h3 x, h2]
  refine ⟨w', hrun, ⟨D.put (kU x) (.lit (.int k i)), ?_, hsz, fun y z => ?_⟩, r2⟩
  · obtain ⟨es, c, e1, e2, e3, e4⟩ := r1
    refine ⟨es, c, e1, e2, ?_, e4⟩
    rw [← hsz, e4]
    simp [Maps.size, length_sorted]
  · unfold setF
    by_cases hy : y = x
    · subst hy
      rw [Maps.atKey_put_same h1.isMap (by simp [WideAt.IsKeyLit]), if_pos rfl]
    · rw [Maps.atKey_put_other (kU_ne hy), h3, if_neg hy]
theorem MI.del (h : MI k w m (n + 1) F) (ht : Tryd.prog.underlying mt = some (.map 29 vt)) {x : UInt64} (hx : (F x).isSome = true) (ty : TypeId) :
    ∃ w', (Builtin.delete_ #[mt, 29] ty #[.map (some m), vU x]).run Tryd.prog w = .ok (.tuple #[]) w' ∧ MI k w' m n (delF F x) ∧ w.mapTurned w' m := by
  obtain ⟨D, h1, h2, h3⟩ := h
  obtain ⟨w', hrun, r1, r2⟩ := h1.drop keyed64 ht (kU_key x) ty
  have hsz : Maps.size (D.del (kU x)) = n := by
    have := Maps.size_del (h1.tidy keyed64) (k := kU x)
    rw [MI.hasD h3 x, hx, h2] at this
    simp at this; omega
  refine ⟨w', hrun, ⟨_, ?_, hsz, fun y z => ?_⟩, r2⟩
  · obtain ⟨es, c, e1, e2, e3, e4⟩ := r1
    refine ⟨es, c, e1, e2, ?_, e4⟩
    rw [← hsz, e4]
    simp [Maps.size, length_sorted]
  · unfold delF
    by_cases hy : y = x
    · subst hy; rw [Maps.atKey_del_same, if_pos rfl]
    · rw [Maps.atKey_del_other (kU_ne hy), if_neg hy, h3]
end
end Go.Proofs.YtfpljeblehieiaaDoor
