/- Maps of pointers, by names. -/
import Derived.Test.YtijpokajhjhllaaGreatDoorFr
import Derived.Maps.Range
set_option linter.unusedSimpArgs false
set_option linter.unusedVariables false
namespace Go.Proofs.YtijpokajhjhllaaGreatDoor
open Go Go.RowKit Go.Tum Go.ChangeMaps

abbrev DU := DataW Unit
abbrev Nm := List UInt8
abbrev vN (x : Nm) : Value := .string (str x)
abbrev kN (x : Nm) : Lit := .string x
def ptr : Option Nat → Value
  | none => .pointer none
  | some b => .pointer (some ⟨b, 0, none⟩)
def rdP : Value → Option (DU × List MemPlace)
  | .pointer none => some (.nil, [])
  | .pointer (some ⟨b, 0, none⟩) => some (.lit (.int .i64 (b : Int)), [])
  | _ => none
theorem rdP_ptr (b : Option Nat) : rdP (ptr b) = some ((match b with | none => .nil | some b => .lit (.int .i64 (b : Int))), []) := by cases b <;> rfl
theorem rdP_inv {v : Value} {ps : List MemPlace} (b : Option Nat) (h : rdP v = some ((match b with | none => .nil | some b => .lit (.int .i64 (b : Int))), ps)) : v = ptr b := by
  unfold rdP at h
  split at h
  · cases b <;> simp at h
    rfl
  · cases b <;> simp at h
    rename_i b0 b1
    obtain ⟨h1, -⟩ := h
    have : b0 = b1 := by omega
    subst this; rfl
  · simp at h
theorem kN_key {x : Nm} (hx : x.length ≤ maxLen) : keyOf Tryz.prog 9 (vN x) = some (kN x) := by
  simp only [keyOf, Tryz.underlying9, mapKey]
  rw [if_pos (by rw [str_size]; exact hx), str_data]
theorem kN_ne {x y : Nm} (h : x ≠ y) : kN x ≠ kN y := by
  intro e
  simp at e
  exact h e
theorem keyedS : Maps.Keyed Tryz.prog 9 := Maps.string_keyed Tryz.underlying9
theorem key_inv {key : Value} {kl : Lit} (h : keyOf Tryz.prog 9 key = some kl) : ∃ x : Nm, key = vN x ∧ kl = kN x ∧ x.length ≤ maxLen := by
  simp only [keyOf, mapKey, Tryz.underlying9] at h
  cases key with
  | string s =>
    by_cases hs : s.size ≤ maxLen
    · simp only [if_pos hs, Option.some.injEq] at h
      exact ⟨s.data.toList, by simp [str], h.symm, hs⟩
    · simp only [if_neg hs, reduceCtorEq] at h
  | _ => simp only [reduceCtorEq] at h
theorem lk_cons (a : Nm) (b : Nat) (r : List (Nm × Nat)) (y : Nm) : ((a, b) :: r).lookup y = if y = a then some b else r.lookup y := by
  by_cases h : y = a
  · subst h; simp [List.lookup]
  · have : (y == a) = false := by simp [h]
    simp [List.lookup, this, h]
def PM (w : World) (m : Nat) (l : List (Nm × Nat)) : Prop := ∃ D : DU, w.ownsMap Tryz.prog 9 rdP m l.length D ∧ Maps.size D = l.length ∧
  ∀ x z, D.atKey (kN x) z = match l.lookup x with | none => z | some b => .lit (.int .i64 (b : Int))
theorem PM.has {w : World} {m : Nat} {l : List (Nm × Nat)} {D : DU} (h : ∀ x z, D.atKey (kN x) z = match l.lookup x with | none => z | some b => .lit (.int .i64 (b : Int))) (x : Nm) : Maps.has D (kN x) = (l.lookup x).isSome := by
  cases hx : l.lookup x with
  | none => exact Maps.has_false_of_atKey fun z => by rw [h, hx]
  | some b => exact Maps.has_true_of_atKey (y := .lit (.int .i64 (b : Int))) fun z => by rw [h, hx]
theorem PM.made (w : World) : PM (w.alloc (.map #[] 0)) w.heap.size [] := by
  refine ⟨.map [], World.ownsMap_made w _ _ _, rfl, fun x z => ?_⟩
  exact WideAt.atKey_none z (by simp)
theorem PM.look {w : World} {m : Nat} {l : List (Nm × Nat)} (h : PM w m l) (x : Nm) (hk : x.length ≤ maxLen) : (Instr.lookup 68 (.map (some m)) (vN x) false).run Tryz.prog w = .ok (ptr (l.lookup x)) w := by
  obtain ⟨D, h1, h2, h3⟩ := h
  obtain ⟨v, ps, hrun, hv⟩ := h1.lookup keyedS Tryz.underlying68 (Tryz.zeroValue91 w) (zd := .nil) (zp := []) rfl (kN_key hk)
  rw [h3] at hv
  have : v = ptr (l.lookup x) := rdP_inv (l.lookup x) (by rw [hv])
  rw [← this]; exact hrun
theorem PM.len {w : World} {m : Nat} {l : List (Nm × Nat)} (h : PM w m l) (ty : TypeId) : (Builtin.len_ #[68] ty #[.map (some m)]).run Tryz.prog w = .ok (.int .i64 (l.length : Nat)) w := by
  obtain ⟨D, h1, h2, h3⟩ := h
  rw [h1.len Tryz.underlying68 ty, h2]
theorem PM.store {w : World} {m : Nat} {l : List (Nm × Nat)} (h : PM w m l) (hl : l.length ≤ 1048576) {x : Nm} (hx : l.lookup x = none) (hk : x.length ≤ maxLen) (b : Nat) :
    ∃ w', (Instr.mapUpdate 68 (.map (some m)) (vN x) (.pointer (some ⟨b, 0, none⟩))).run Tryz.prog w = .ok () w' ∧ PM w' m (l ++ [(x, b)]) ∧ w.mapTurned w' m := by
  obtain ⟨D, h1, h2, h3⟩ := h
  obtain ⟨w', hrun, r1, r2⟩ := h1.store keyedS Tryz.underlying68 (by simp [maxLen]; omega) (kN_key hk) (show rdP (.pointer (some ⟨b, 0, none⟩)) = some (.lit (.int .i64 (b : Int)), []) from rfl)
  refine ⟨w', hrun, ⟨_, by simpa using r1, ?_, fun y z => ?_⟩, r2⟩
  · rw [Maps.size_put (h1.tidy keyedS), PM.has (w := w) (m := m) h3 x, hx, h2]; simp
  · rw [List.lookup_append]
    by_cases hy : y = x
    · subst hy
      rw [Maps.atKey_put_same h1.isMap (by simp [WideAt.IsKeyLit]), hx]
      simp
    · rw [Maps.atKey_put_other (kN_ne hy), h3]
      have : ([(x, b)] : List (Nm × Nat)).lookup y = none := by rw [lk_cons, if_neg hy]; rfl
      rw [this]
      cases l.lookup y <;> rfl
theorem lookup_filter (l : List (Nm × Nat)) (x y : Nm) : (l.filter fun p => p.1 != x).lookup y = if y = x then none else l.lookup y := by
  induction l with
  | nil => simp
  | cons p r ih =>
    obtain ⟨a, b⟩ := p
    by_cases h1 : a = x
    · subst h1
      simp only [List.filter_cons, bne_self_eq_false, Bool.false_eq_true, if_false, ih]
      rw [lk_cons]
      by_cases h2 : y = a
      · rw [if_pos h2, if_pos h2]
      · rw [if_neg h2, if_neg h2, if_neg h2]
    · have : (a != x) = true := by simp [h1]
      simp only [List.filter_cons, this, if_true]
      rw [lk_cons, lk_cons, ih]
      by_cases h2 : y = x
      · subst h2; rw [if_neg (Ne.symm h1), if_pos rfl, if_pos rfl]
      · rw [if_neg h2, if_neg h2]
theorem PM.del {w : World} {m : Nat} {l : List (Nm × Nat)} (h : PM w m l) {x : Nm} (hk : x.length ≤ maxLen) (hx : (l.lookup x).isSome = true) (hn : (l.filter fun p => p.1 != x).length + 1 = l.length) (ty : TypeId) :
    ∃ w', (Builtin.delete_ #[68, 9] ty #[.map (some m), vN x]).run Tryz.prog w = .ok (.tuple #[]) w' ∧ PM w' m (l.filter fun p => p.1 != x) ∧ w.mapTurned w' m := by
  obtain ⟨D, h1, h2, h3⟩ := h
  obtain ⟨w', hrun, r1, r2⟩ := h1.drop keyedS Tryz.underlying68 (kN_key hk) ty
  have hsz : Maps.size (D.del (kN x)) = (l.filter fun p => p.1 != x).length := by
    have := Maps.size_del (h1.tidy keyedS) (k := kN x)
    rw [PM.has (w := w) (m := m) h3 x, hx, h2] at this
    simp at this; omega
  refine ⟨w', hrun, ⟨_, ?_, hsz, fun y z => ?_⟩, r2⟩
  · obtain ⟨es, c, e1, e2, e3, e4⟩ := r1
    refine ⟨es, c, e1, e2, ?_, e4⟩
    rw [← hsz, e4]
    simp [Maps.size, length_sorted]
  · rw [lookup_filter]
    by_cases hy : y = x
    · subst hy; rw [Maps.atKey_del_same, if_pos rfl]
    · rw [Maps.atKey_del_other (kN_ne hy), if_neg hy, h3]
theorem PM.fr {S : List Nat} {w w' : World} {m : Nat} {l : List (Nm × Nat)} (h : PM w m l) (k : Fr S w w') (hm : m ∉ S) : PM w' m l := by
  obtain ⟨D, ⟨es, c, h1, h4, h5, h6⟩, h2, h3⟩ := h
  exact ⟨D, ⟨es, c, (k.block m (Array.getElem?_eq_some_iff.1 h1).1 hm).trans h1, h4, h5, h6⟩, h2, h3⟩
theorem PM.block {w : World} {m : Nat} {l : List (Nm × Nat)} (h : PM w m l) : ∃ es c, w.heap[m]? = some (.map es c) := by
  obtain ⟨D, ⟨es, c, h1, _⟩, _⟩ := h
  exact ⟨es, c, h1⟩

end Go.Proofs.YtijpokajhjhllaaGreatDoor
