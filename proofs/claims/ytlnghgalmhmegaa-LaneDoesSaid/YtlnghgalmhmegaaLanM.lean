/- A lane: a map of pointers, a chain of blocks. -/
import Derived.Test.YtlnghgalmhmegaaRows
import Derived.Test.YtlnghgalmhmegaaLib
import Derived.Maps.OwnSet
import Derived.Maps.Views
import Derived.Lib.SmallJoins
set_option linter.unusedSimpArgs false
set_option linter.unusedVariables false
namespace Go.Proofs.Ytlnghgalmhmegaa
open Go Go.RowKit Go.Tum Go.ChangeMaps

/-! ### what a step leaves -/
structure Fr (S : List Nat) (w w' : World) : Prop where
  os : w'.os = w.os
  tape : w'.tape = w.tape
  output : w'.output = w.output
  size : w.heap.size ≤ w'.heap.size
  block : ∀ k, k < w.heap.size → k ∉ S → w'.heap[k]? = w.heap[k]?
theorem Fr.refl (S : List Nat) (w : World) : Fr S w w := ⟨rfl, rfl, rfl, Nat.le_refl _, fun _ _ _ => rfl⟩
theorem Fr.trans {S : List Nat} {a b c : World} (h : Fr S a b) (k : Fr S b c) : Fr S a c :=
  ⟨k.os.trans h.os, k.tape.trans h.tape, k.output.trans h.output, Nat.le_trans h.size k.size, fun j hj hn => (k.block j (Nat.lt_of_lt_of_le hj h.size) hn).trans (h.block j hj hn)⟩
theorem Fr.mono {S T : List Nat} {a b : World} (h : Fr S a b) (hs : ∀ x ∈ S, x ∈ T) : Fr T a b := ⟨h.os, h.tape, h.output, h.size, fun j hj hn => h.block j hj fun hm => hn (hs j hm)⟩
theorem Fr.wider {S T : List Nat} {a b : World} (h : Fr S a b) (hs : ∀ x ∈ S, x ∈ T ∨ a.heap.size ≤ x) : Fr T a b := ⟨h.os, h.tape, h.output, h.size, fun j hj hn => h.block j hj fun hm => by
  rcases hs j hm with h1 | h1
  · exact hn h1
  · omega⟩
theorem Ext.fr {S : List Nat} {a b : World} (h : Ext a b) : Fr S a b := ⟨h.os, h.tape, h.output, h.size, fun j hj _ => h.block j hj⟩
theorem Fr.ext {a b : World} (h : Fr [] a b) : Ext a b := ⟨h.os, h.tape, h.output, h.size, fun j hj => h.block j hj (by simp)⟩
theorem Fr.below {S : List Nat} {a b : World} {B : Nat} (h : Fr S a b) (hS : ∀ x ∈ S, B ≤ x) (hB : B ≤ a.heap.size) : Below B a b :=
  ⟨h.os, h.tape, h.output, h.size, fun j hj => h.block j (by omega) fun hm => by have := hS j hm; omega⟩
theorem fr_setCell {S : List Nat} (w : World) (a : Addr) (v : Value) (h : a.block ∈ S) : Fr S w (w.setCell a v) := by
  refine ⟨rfl, rfl, rfl, by simp, fun j hj hn => heap_setCell_other _ _ _ _ fun e => hn (by rw [e]; exact h)⟩
theorem fr_turned {S : List Nat} {w w' : World} {b : Nat} (h : w.mapTurned w' b) (hb : b ∈ S) : Fr S w w' := by
  obtain ⟨es, c, es', c', h1, rfl⟩ := h
  refine ⟨rfl, rfl, rfl, by simp [setBlock], fun j hj hn => ?_⟩
  have : b ≠ j := fun e => hn (by rw [← e]; exact hb)
  simp [setBlock, Array.getElem?_setIfInBounds_ne this]

/-! ### the map -/
abbrev DU := DataW Unit
abbrev vU (x : UInt64) : Value := .int .u64 (x.toNat : Int)
abbrev kU (x : UInt64) : Lit := .int .u64 (x.toNat : Int)
def ptr : Option Nat → Value
  | none => .pointer none
  | some b => .pointer (some ⟨b, 0, none⟩)
def rdP : Value → Option (DU × List MemPlace)
  | .pointer none => some (.nil, [])
  | .pointer (some ⟨b, 0, none⟩) => some (.lit (.int .i64 (b : Int)), [])
  | _ => none
theorem rdP_ptr (b : Option Nat) : rdP (ptr b) = some ((match b with | none => .nil | some b => .lit (.int .i64 (b : Int))), []) := by cases b <;> rfl
theorem rdP_inv {v : Value} {ps : List MemPlace} (b : Option Nat) (h : rdP v = some ((match b with | none => .nil | some b => .lit (.int .i64 (b : Int))), ps)) : v = ptr b := by
  unfold rdP at h
  split at h
  · cases b <;> simp at h
    rfl
  · cases b <;> simp at h
    rename_i b0 b1
    obtain ⟨h1, -⟩ := h
    have : b0 = b1 := by omega
    subst this; rfl
  · simp at h
theorem kU_key (x : UInt64) : keyOf Try.prog 23 (vU x) = some (kU x) := Maps.keyOf_int_mk Try.underlying23 (by
  have := x.toNat_lt
  simp [Lit.wf, IntKind.min, IntKind.max, IntKind.signed, IntKind.bits]
  omega)
theorem kU_ne {x y : UInt64} (h : x ≠ y) : kU x ≠ kU y := by
  intro e
  simp at e
  exact h (UInt64.toNat_inj.1 (by omega))
theorem keyed64 : Maps.Keyed Try.prog 23 := Maps.int_keyed Try.underlying23

theorem lk_cons (a : UInt64) (b : Nat) (r : List (UInt64 × Nat)) (y : UInt64) : ((a, b) :: r).lookup y = if y = a then some b else r.lookup y := by
  by_cases h : y = a
  · subst h; simp [List.lookup]
  · have : (y == a) = false := by simp [h]
    simp [List.lookup, this, h]
def PM (w : World) (m : Nat) (l : List (UInt64 × Nat)) : Prop := ∃ D : DU, w.ownsMap Try.prog 23 rdP m l.length D ∧ Maps.size D = l.length ∧
  ∀ x z, D.atKey (kU x) z = match l.lookup x with | none => z | some b => .lit (.int .i64 (b : Int))
theorem PM.has {w : World} {m : Nat} {l : List (UInt64 × Nat)} {D : DU} (h : ∀ x z, D.atKey (kU x) z = match l.lookup x with | none => z | some b => .lit (.int .i64 (b : Int))) (x : UInt64) : Maps.has D (kU x) = (l.lookup x).isSome := by
  cases hx : l.lookup x with
  | none => exact Maps.has_false_of_atKey fun z => by rw [h, hx]
  | some b => exact Maps.has_true_of_atKey (y := .lit (.int .i64 (b : Int))) fun z => by rw [h, hx]
theorem PM.made (w : World) : PM (w.alloc (.map #[] 0)) w.heap.size [] := by
  refine ⟨.map [], World.ownsMap_made w _ _ _, rfl, fun x z => ?_⟩
  exact WideAt.atKey_none z (by simp)
theorem PM.look {w : World} {m : Nat} {l : List (UInt64 × Nat)} (h : PM w m l) (x : UInt64) : (Instr.lookup 41 (.map (some m)) (vU x) false).run Try.prog w = .ok (ptr (l.lookup x)) w := by
  obtain ⟨D, h1, h2, h3⟩ := h
  obtain ⟨v, ps, hrun, hv⟩ := h1.lookup keyed64 Try.underlying41 (Try.zeroValue42 w) (zd := .nil) (zp := []) rfl (kU_key x)
  rw [h3] at hv
  have : v = ptr (l.lookup x) := rdP_inv (l.lookup x) (by rw [hv])
  rw [← this]; exact hrun
theorem PM.len {w : World} {m : Nat} {l : List (UInt64 × Nat)} (h : PM w m l) (ty : TypeId) : (Builtin.len_ #[41] ty #[.map (some m)]).run Try.prog w = .ok (.int .i64 (l.length : Nat)) w := by
  obtain ⟨D, h1, h2, h3⟩ := h
  rw [h1.len Try.underlying41 ty, h2]
theorem PM.store {w : World} {m : Nat} {l : List (UInt64 × Nat)} (h : PM w m l) (hl : l.length ≤ 1048576) {x : UInt64} (hx : l.lookup x = none) (b : Nat) :
    ∃ w', (Instr.mapUpdate 41 (.map (some m)) (vU x) (.pointer (some ⟨b, 0, none⟩))).run Try.prog w = .ok () w' ∧ PM w' m (l ++ [(x, b)]) ∧ w.mapTurned w' m := by
  obtain ⟨D, h1, h2, h3⟩ := h
  obtain ⟨w', hrun, r1, r2⟩ := h1.store keyed64 Try.underlying41 (by simp [maxLen]; omega) (kU_key x) (show rdP (.pointer (some ⟨b, 0, none⟩)) = some (.lit (.int .i64 (b : Int)), []) from rfl)
  refine ⟨w', hrun, ⟨_, by simpa using r1, ?_, fun y z => ?_⟩, r2⟩
  · rw [Maps.size_put (h1.tidy keyed64), PM.has (w := w) (m := m) h3 x, hx, h2]; simp
  · rw [List.lookup_append]
    by_cases hy : y = x
    · subst hy
      rw [Maps.atKey_put_same h1.isMap (by simp [WideAt.IsKeyLit]), hx]
      simp
    · rw [Maps.atKey_put_other (kU_ne hy), h3]
      have : ([(x, b)] : List (UInt64 × Nat)).lookup y = none := by rw [lk_cons, if_neg hy]; rfl
      rw [this]
      cases l.lookup y <;> rfl
theorem lookup_filter (l : List (UInt64 × Nat)) (x y : UInt64) : (l.filter fun p => p.1 != x).lookup y = if y = x then none else l.lookup y := by
  induction l with
  | nil => simp
  | cons p r ih =>
    obtain ⟨a, b⟩ := p
    by_cases h1 : a = x
    · subst h1
      simp only [List.filter_cons, bne_self_eq_false, Bool.false_eq_true, if_false, ih]
      rw [lk_cons]
      by_cases h2 : y = a
      · rw [if_pos h2, if_pos h2]
      · rw [if_neg h2, if_neg h2, if_neg h2]
    · have : (a != x) = true := by simp [h1]
      simp only [List.filter_cons, this, if_true]
      rw [lk_cons, lk_cons, ih]
      by_cases h2 : y = x
      · subst h2; rw [if_neg (Ne.symm h1), if_pos rfl, if_pos rfl]
      · rw [if_neg h2, if_neg h2]
theorem PM.del {w : World} {m : Nat} {l : List (UInt64 × Nat)} (h : PM w m l) {x : UInt64} (hx : (l.lookup x).isSome = true) (hn : (l.filter fun p => p.1 != x).length + 1 = l.length) (ty : TypeId) :
    ∃ w', (Builtin.delete_ #[41, 23] ty #[.map (some m), vU x]).run Try.prog w = .ok (.tuple #[]) w' ∧ PM w' m (l.filter fun p => p.1 != x) ∧ w.mapTurned w' m := by
  obtain ⟨D, h1, h2, h3⟩ := h
  obtain ⟨w', hrun, r1, r2⟩ := h1.drop keyed64 Try.underlying41 (kU_key x) ty
  have hsz : Maps.size (D.del (kU x)) = (l.filter fun p => p.1 != x).length := by
    have := Maps.size_del (h1.tidy keyed64) (k := kU x)
    rw [PM.has (w := w) (m := m) h3 x, hx, h2] at this
    simp at this; omega
  refine ⟨w', hrun, ⟨_, ?_, hsz, fun y z => ?_⟩, r2⟩
  · obtain ⟨es, c, e1, e2, e3, e4⟩ := r1
    refine ⟨es, c, e1, e2, ?_, e4⟩
    rw [← hsz, e4]
    simp [Maps.size, length_sorted]
  · rw [lookup_filter]
    by_cases hy : y = x
    · subst hy; rw [Maps.atKey_del_same, if_pos rfl]
    · rw [Maps.atKey_del_other (kU_ne hy), if_neg hy, h3]
theorem PM.fr {S : List Nat} {w w' : World} {m : Nat} {l : List (UInt64 × Nat)} (h : PM w m l) (k : Fr S w w') (hm : m ∉ S) : PM w' m l := by
  obtain ⟨D, ⟨es, c, h1, h4, h5, h6⟩, h2, h3⟩ := h
  exact ⟨D, ⟨es, c, (k.block m (Array.getElem?_eq_some_iff.1 h1).1 hm).trans h1, h4, h5, h6⟩, h2, h3⟩
theorem PM.block {w : World} {m : Nat} {l : List (UInt64 × Nat)} (h : PM w m l) : ∃ es c, w.heap[m]? = some (.map es c) := by
  obtain ⟨D, ⟨es, c, h1, _⟩, _⟩ := h
  exact ⟨es, c, h1⟩

/-! ### the chain -/
def hdB : List (UInt64 × Nat) → Option Nat
  | [] => none
  | p :: _ => some p.2
def lsB : List (UInt64 × Nat) → Option Nat
  | [] => none
  | p :: r => (lsB r).or (some p.2)
theorem lsB_snoc : ∀ (l : List (UInt64 × Nat)) (x : UInt64) (b : Nat), lsB (l ++ [(x, b)]) = some b
  | [], _, _ => rfl
  | p :: r, x, b => by simp only [List.cons_append, lsB, lsB_snoc r x b]; rfl
theorem hdB_append (l r : List (UInt64 × Nat)) : hdB (l ++ r) = (hdB l).or (hdB r) := by cases l <;> simp [hdB]
abbrev linkO (x : UInt64) (p q : Option Nat) : Obj := .cells #[vU x, ptr p, ptr q] 48 (0, 0)
def Ch (w : World) : Option Nat → List (UInt64 × Nat) → Option Nat → Prop
  | _, [], _ => True
  | pv, (x, b) :: r, nx => w.heap[b]? = some (linkO x pv ((hdB r).or nx)) ∧ Ch w (some b) r nx
theorem Ch.fr {S : List Nat} {w w' : World} (k : Fr S w w') : ∀ {l : List (UInt64 × Nat)} {pv nx : Option Nat}, Ch w pv l nx → (∀ p ∈ l, p.2 ∉ S) → Ch w' pv l nx
  | [], _, _, _, _ => trivial
  | (x, b) :: r, pv, nx, h, hs => ⟨(k.block b (Array.getElem?_eq_some_iff.1 h.1).1 (hs (x, b) (by simp))).trans h.1, Ch.fr k h.2 fun p hp => hs p (List.mem_cons_of_mem _ hp)⟩
theorem Ch.append {w : World} : ∀ {l r : List (UInt64 × Nat)} {pv nx : Option Nat}, Ch w pv (l ++ r) nx ↔ Ch w pv l ((hdB r).or nx) ∧ Ch w ((lsB l).or pv) r nx
  | [], r, pv, nx => by simp [Ch, lsB]
  | (x, b) :: l, r, pv, nx => by
    have ih := Ch.append (w := w) (l := l) (r := r) (pv := some b) (nx := nx)
    simp only [List.cons_append, Ch]
    have e1 : (hdB (l ++ r)).or nx = (hdB l).or ((hdB r).or nx) := by cases l <;> simp [hdB]
    have e2 : (lsB ((x, b) :: l)).or pv = (lsB l).or (some b) := by simp only [lsB]; cases lsB l <;> rfl
    rw [ih, e1, e2, and_assoc]
theorem Ch.mem {w : World} : ∀ {l : List (UInt64 × Nat)} {pv nx : Option Nat}, Ch w pv l nx → ∀ p ∈ l, ∃ q r, w.heap[p.2]? = some (linkO p.1 q r)
  | [], _, _, _, p, h => absurd h (by simp)
  | (x, b) :: l, _, _, h, p, hp => by
    rcases List.mem_cons.1 hp with rfl | hp
    · exact ⟨_, _, h.1⟩
    · exact Ch.mem h.2 p hp
/-- The last one's pointer behind is set. -/
theorem Ch.setBehind {w : World} {l : List (UInt64 × Nat)} {y : UInt64} {c : Nat} {pv nx : Option Nat} (nx' : Option Nat) (h : Ch w pv (l ++ [(y, c)]) nx) (hc : ∀ p ∈ l, p.2 ≠ c) : Ch (w.setCell ⟨c, 2, none⟩ (ptr nx')) pv (l ++ [(y, c)]) nx' := by
  rw [Ch.append] at h ⊢
  refine ⟨Ch.fr (fr_setCell (S := [c]) w _ _ (by simp)) (by simpa [hdB] using h.1) (fun p hp => by simpa using hc p hp), ?_, trivial⟩
  have := Go.Joins.block_setCell (i := 2) h.2.1 (ptr nx')
  simpa [hdB] using this
/-- The first one's pointer ahead is set. -/
theorem Ch.setAhead {w : World} {l : List (UInt64 × Nat)} {y : UInt64} {c : Nat} {pv nx : Option Nat} (pv' : Option Nat) (h : Ch w pv ((y, c) :: l) nx) (hc : ∀ p ∈ l, p.2 ≠ c) : Ch (w.setCell ⟨c, 1, none⟩ (ptr pv')) pv' ((y, c) :: l) nx := by
  refine ⟨?_, Ch.fr (fr_setCell (S := [c]) w _ _ (by simp)) h.2 (fun p hp => by simpa using hc p hp)⟩
  have := Go.Joins.block_setCell (i := 1) h.1 (ptr pv')
  simpa using this

/-! ### the lane -/
abbrev laneO (m : Nat) (l : List (UInt64 × Nat)) : Obj := .cells #[.map (some m), ptr (hdB l), ptr (lsB l)] 44 (0, 0)
structure Lane (w : World) (p m : Nat) (l : List (UInt64 × Nat)) : Prop where
  hd : w.heap[p]? = some (laneO m l)
  mp : PM w m l
  ch : Ch w none l none
  ni : (l.map (·.1)).Nodup
  nb : (l.map (·.2)).Nodup
abbrev ids (l : List (UInt64 × Nat)) : List UInt64 := l.map (·.1)
/-- The blocks of a lane. -/
abbrev Bl (p m : Nat) (l : List (UInt64 × Nat)) : List Nat := p :: m :: l.map (·.2)
theorem Lane.fr {S : List Nat} {w w' : World} {p m : Nat} {l : List (UInt64 × Nat)} (h : Lane w p m l) (k : Fr S w w') (hs : ∀ x ∈ Bl p m l, x ∉ S) : Lane w' p m l :=
  ⟨(k.block p (Array.getElem?_eq_some_iff.1 h.hd).1 (hs p (by simp))).trans h.hd, h.mp.fr k (hs m (by simp)), h.ch.fr k fun q hq => hs q.2 (by simp; exact .inr (.inr ⟨q.1, hq⟩)), h.ni, h.nb⟩
theorem Lane.ext {w w' : World} {p m : Nat} {l : List (UInt64 × Nat)} (h : Lane w p m l) (k : Ext w w') : Lane w' p m l := h.fr (S := []) (Ext.fr k) (by simp)
theorem Lane.p_ne_m {w : World} {p m : Nat} {l : List (UInt64 × Nat)} (h : Lane w p m l) : p ≠ m := by
  rintro rfl
  obtain ⟨es, c, h1⟩ := h.mp.block
  rw [h.hd] at h1; cases h1
theorem Lane.p_ne {w : World} {p m : Nat} {l : List (UInt64 × Nat)} (h : Lane w p m l) : ∀ q ∈ l, q.2 ≠ p := by
  intro q hq e
  obtain ⟨a, b, h1⟩ := h.ch.mem q hq
  rw [e, h.hd] at h1
  simp at h1
theorem Lane.m_ne {w : World} {p m : Nat} {l : List (UInt64 × Nat)} (h : Lane w p m l) : ∀ q ∈ l, q.2 ≠ m := by
  intro q hq e
  obtain ⟨a, b, h1⟩ := h.ch.mem q hq
  obtain ⟨es, c, h2⟩ := h.mp.block
  rw [e, h2] at h1
  cases h1
theorem Lane.lt {w : World} {p m : Nat} {l : List (UInt64 × Nat)} (h : Lane w p m l) : ∀ x ∈ Bl p m l, x < w.heap.size := by
  intro x hx
  simp only [List.mem_cons, List.mem_map] at hx
  rcases hx with rfl | rfl | ⟨q, hq, rfl⟩
  · exact (Array.getElem?_eq_some_iff.1 h.hd).1
  · obtain ⟨es, c, h2⟩ := h.mp.block
    exact (Array.getElem?_eq_some_iff.1 h2).1
  · obtain ⟨a, b, h1⟩ := h.ch.mem q hq
    exact (Array.getElem?_eq_some_iff.1 h1).1
theorem lookup_none {l : List (UInt64 × Nat)} {x : UInt64} : l.lookup x = none ↔ x ∉ ids l := by
  induction l with
  | nil => simp
  | cons p r ih =>
    obtain ⟨a, b⟩ := p
    by_cases h : x = a
    · subst h; rw [lk_cons]; simp
    · rw [lk_cons, if_neg h, ih]; simp [h]
end Go.Proofs.Ytlnghgalmhmegaa
