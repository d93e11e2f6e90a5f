/- Arguments opened to what the laws want: slices of one-cell values and of structs of one-cell fields, as lists. -/
import Derived.Test.YtijpokajhjhllaaGreatDoorLib
import Derived.Deep.Slices
import Derived.Deep.Fields
import Derived.ChangeSame
import Derived.OpenShut
import Derived.RowKit
import Derived.Lib.SmallJoins
namespace Go.Tum
open Go Go.RowKit Go.WideShapes Go.ChangeShapes Go.Deep

theorem list_of {α : Type} {Q : Nat → α → Prop} : ∀ (n : Nat), (∀ i, i < n → ∃ x, Q i x) → ∃ l : List α, l.length = n ∧ ∀ i (h : i < l.length), Q i l[i]
  | 0, _ => ⟨[], rfl, fun i h => absurd h (by simp)⟩
  | n + 1, h => by
    obtain ⟨l, hl, hq⟩ := list_of n fun i hi => h i (by omega)
    obtain ⟨x, hx⟩ := h n (by omega)
    refine ⟨l ++ [x], by simp [hl], fun i hi => ?_⟩
    rcases Nat.lt_or_ge i l.length with h1 | h1
    · rw [List.getElem_append_left h1]; exact hq i h1
    · have : i = n := by simp at hi; omega
      subst this
      simpa [hl] using hx

/-- The cells of a list's elements, one behind the other. -/
theorem flat_get {α : Type} {c : α → List Value} {size : Nat} : ∀ {l : List α} (_ : ∀ x ∈ l, (c x).length = size) (i : Nat) (h : i < l.length) (j : Nat), j < size → (l.flatMap c)[i * size + j]? = (c l[i])[j]?
  | [], _, i, h, _, _ => absurd h (by simp)
  | x :: r, hc, 0, _, j, hj => by
    have := hc x (by simp)
    simp only [List.flatMap_cons, Nat.zero_mul, Nat.zero_add, List.getElem_cons_zero]
    rw [List.getElem?_append_left (by omega)]
  | x :: r, hc, i + 1, h, j, hj => by
    have := hc x (by simp)
    simp only [List.flatMap_cons, List.getElem_cons_succ]
    rw [List.getElem?_append_right (by rw [this, Nat.succ_mul]; omega)]
    have e : (i + 1) * size + j - (c x).length = i * size + j := by rw [this, Nat.succ_mul]; omega
    rw [e]
    exact flat_get (fun y hy => hc y (List.mem_cons_of_mem _ hy)) i (by simpa using h) j hj
theorem flat_len {α : Type} {c : α → List Value} {size : Nat} : ∀ {l : List α}, (∀ x ∈ l, (c x).length = size) → (l.flatMap c).length = l.length * size
  | [], _ => by simp
  | x :: r, hc => by
    simp only [List.flatMap_cons, List.length_append, List.length_cons]
    rw [hc x (by simp), flat_len (fun y hy => hc y (List.mem_cons_of_mem _ hy)), Nat.succ_mul]; omega

/-- A slice whose elements are l, each of 'size' cells as c tells. -/
def RowsOf (w : World) (size : Nat) (v : Value) {α : Type} (c : α → List Value) (l : List α) : Prop := (∀ x ∈ l, (c x).length = size) ∧ Sl w size v l.length (l.flatMap c)
theorem RowsOf.ext {w w' : World} {size : Nat} {v : Value} {α : Type} {c : α → List Value} {l : List α} (h : RowsOf w size v c l) (k : Ext w w') : RowsOf w' size v c l := ⟨h.1, h.2.ext k⟩
theorem RowsOf.nil (w : World) (size : Nat) {α : Type} (c : α → List Value) : RowsOf w size (.slice none 0 0) c [] := ⟨fun x h => absurd h (by simp), Sl.nil w size⟩
theorem RowsOf.mk' {w : World} {size : Nat} {a : Addr} {len cap : Nat} {α : Type} {c : α → List Value} {l : List α} (hl : l.length = len) (hlc : len ≤ cap) (hcm : cap ≤ maxLen) (hs : 0 < size)
    (hc : ∀ x ∈ l, (c x).length = size) (h : ∀ i (h : i < l.length) j u, (c l[i])[j]? = some u → w.cell? (a.add (i * size + j)) = some u) : RowsOf w size (.slice (some a) len cap) c l := by
  subst hl
  refine ⟨hc, by rw [flat_len hc], some a, cap, rfl, hlc, hcm, (fun h => by cases h), fun a' ha k u hu => ?_⟩
  cases ha
  have hk : k < l.length * size := by
    have := (List.getElem?_eq_some_iff.1 hu).1
    rwa [flat_len hc] at this
  have hi : k / size < l.length := Nat.div_lt_of_lt_mul (by rw [Nat.mul_comm]; exact hk)
  have e : k / size * size + k % size = k := by rw [Nat.mul_comm]; exact Nat.div_add_mod k size
  have := flat_get hc (k / size) hi (k % size) (Nat.mod_lt _ hs)
  rw [e] at this
  have h2 := h (k / size) hi (k % size) u (by rw [← this]; exact hu)
  rw [e] at h2
  exact h2
theorem RowsOf.open {w : World} {size : Nat} {v : Value} {α : Type} {c : α → List Value} {l : List α} (h : RowsOf w size v c l) :
    ∃ ao cap, v = .slice ao l.length cap ∧ l.length ≤ cap ∧ cap ≤ 9223372036854775807 ∧ (0 < cap → ∃ a, ao = some a) ∧
      ∀ a, ao = some a → ∀ i (h : i < l.length) j u, (c l[i])[j]? = some u → w.cell? (a.add (i * size + j)) = some u := by
  obtain ⟨hc, h1, ao, cap, h2, h3, h4, h5, h6⟩ := h
  refine ⟨ao, cap, h2, h3, by simpa [maxLen] using h4, fun hp => ?_, fun a ha i hi j u hu => h6 a ha _ u ?_⟩
  · cases ao with
    | none => have := h5 rfl; omega
    | some a => exact ⟨a, rfl⟩
  · have hj : j < size := by
      have := (List.getElem?_eq_some_iff.1 hu).1
      rwa [hc _ (List.getElem_mem hi)] at this
    rw [flat_get hc i hi j hj]; exact hu

theorem RowsOf.opens {w : World} {size n cap : Nat} {ao : Option Addr} {α : Type} {c : α → List Value} {l : List α} (h : RowsOf w size (.slice ao n cap) c l) :
    n = l.length ∧ n ≤ cap ∧ cap ≤ 9223372036854775807 ∧ (0 < cap → ∃ a, ao = some a) ∧ ∀ a, ao = some a → ∀ i (h : i < l.length) j u, (c l[i])[j]? = some u → w.cell? (a.add (i * size + j)) = some u := by
  obtain ⟨ao', cap', e, h1, h2, h3, h4⟩ := h.open
  cases e
  exact ⟨rfl, h1, h2, h3, h4⟩
theorem add_at (a : Addr) (i j : Nat) (hj : j ≠ 0) : (⟨(a.add i).block, (a.add i).off + j, none⟩ : Addr) = a.add (i + j) := by
  unfold Addr.add
  by_cases hi : i = 0
  · subst hi; simp [hj]
  · rw [if_neg hi, if_neg (by omega)]; simp [Nat.add_assoc]
/-- The first cell of an element, and the others, as a load of the whole asks for them. -/
theorem cell_first {w : World} {a : Addr} {i : Nat} {u : Value} (h : w.cell? (a.add (i + 0)) = some u) : w.cell? (a.add i) = some u := h
theorem cell_next {w : World} {a : Addr} {i j : Nat} {u : Value} (h : w.cell? (a.add (i + j)) = some u) (hj : j ≠ 0) : w.cell? ⟨(a.add i).block, (a.add i).off + j, none⟩ = some u := by rw [add_at a i j hj]; exact h

section
variable {H : Type} {enc : TypeId × Value → H} {P : Program} {w : World} {base : Nat} {spare : Nat → Bool} {held : Bool}
theorem open_slice_fields {t e : TypeId} {fs : Array Field} {fuel : Nat} {cs : List Value} {x : DataW H × List MemPlace} (ht : P.underlying t = some (.slice e)) (he : P.underlying e = some (.struct fs))
    (hone : oneCellFields P fs = true) (hC : P.cellsOf e = fs.size) (h : DataW.trod enc P w base spare held fuel t cs = some x) :
    (cs = [.slice none 0 0] ∧ x = (.nil, [])) ∨
    ∃ (a : Addr) (len cap m : Nat) (D : Nat → DataW H) (Pl : Nat → List MemPlace), cs = [.slice (some a) len cap] ∧ base ≤ a.block ∧ len ≤ cap ∧ cap ≤ maxLen ∧ m = (if spare a.block then cap else len) ∧
      x = (.slice ((List.range len).map D) ((List.range (m - len)).map fun j => D (len + j)), MemPlace.row a (m * fs.size) ++ (List.range m).flatMap Pl) ∧
      ∀ i, i < m → ∃ (ys : List (DataW H × List MemPlace)) (n : Nat), D i = .agg (ys.map (·.1)) ∧ Pl i = ys.flatMap (·.2) ∧ ys.length = fs.size ∧
        ∀ (j : Nat) (f : Field), fs[j]? = some f → ∃ (v : Value) (y : DataW H × List MemPlace), w.cell? (a.add (i * fs.size + j)) = some v ∧ ys[j]? = some y ∧ DataW.trod enc P w base spare held n f.type [v] = some y := by
  rcases open_slice ht h with h0 | ⟨a, len, cap, m, n, D, Pl, hcs, hb, hl, hm, hmm, hx, hi⟩
  · exact .inl h0
  · refine .inr ⟨a, len, cap, m, D, Pl, hcs, hb, hl, hm, hmm, by rw [hC] at hx; exact hx, fun i him => ?_⟩
    obtain ⟨cs', hc, ht'⟩ := hi i him
    rw [hC] at hc
    obtain ⟨ys, n', hn', hy, hlen, hyl, hf⟩ := DataW.trod_struct he ht'
    obtain ⟨_, hcl, hat⟩ := World.cells?_some hc
    simp only [Prod.mk.injEq] at hy
    refine ⟨ys, n', hy.1, hy.2, hyl, fun j f hj => ?_⟩
    obtain ⟨ho, hk⟩ := hone_of hone j f hj
    have hjl : j < fs.size := (Array.getElem?_eq_some_iff.1 hj).1
    have hcell := hat j hjl
    have hv : cs'[j]? = some (cs'[j]'(by omega)) := List.getElem?_eq_getElem (by omega)
    have h1 := hf j f hj
    rw [ho, hk] at h1
    have hone' : (cs'.drop j).take 1 = [cs'[j]'(by omega)] := by
      rw [List.drop_eq_getElem_cons (by omega)]
      rfl
    rw [hone'] at h1
    have hys : ys[j]? = some (ys[j]'(by omega)) := List.getElem?_eq_getElem (by omega)
    refine ⟨_, _, ?_, hys, h1.trans hys⟩
    rw [← Go.Deep.add_add, hcell, hv]

/-- What one field's reading says of its cell. -/
inductive Fk (P : Program) : TypeId → Value → Prop
  | int {t k n} : P.underlying t = some (.int k) → (Lit.int k n).wf = true → Fk P t (.int k n)
  | bool {t b} : P.underlying t = some .bool → Fk P t (.bool b)
  | string {t s} : P.underlying t = some .string → s.size ≤ maxLen → Fk P t (.string s)

/-- An argument that is a slice of structs of ints. -/
theorem open_rows {t e : TypeId} {fs : Array Field} {ks : List IntKind} {v : Value} {d : DataW H} {p : List MemPlace} (ht : P.underlying t = some (.slice e)) (he : P.underlying e = some (.struct fs))
    (hone : oneCellFields P fs = true) (hC : P.cellsOf e = fs.size) (hk : fs.toList.map (fun f => P.underlying f.type) = ks.map (fun k => some (.int k))) (hpos : 0 < fs.size)
    {r : Reach} {b0 : Nat} (hval : Value.okWide P w r b0 t v) (h : DataW.Trod enc P w base spare held t v d p) :
    ∃ l : List (List Int), RowsOf w fs.size v (fun z => (ks.zip z).map fun y => Value.int y.1 y.2) l ∧ ∀ z ∈ l, z.length = ks.length ∧ ∀ y ∈ ks.zip z, (Lit.int y.1 y.2).wf = true := by
  have hlen : ks.length = fs.size := by have := congrArg List.length hk; simpa using this.symm
  have hv1 : v.cells.toList = [v] := by
    obtain ⟨a, len, cap, rfl⟩ := okWide_slice ht hval
    rfl
  obtain ⟨fuel, hf⟩ := h
  rw [hv1] at hf
  rcases open_slice_fields ht he hone hC hf with ⟨h0, _⟩ | ⟨a, len, cap, m, D, Pl, hcs, hb, hl, hm, hmm, hx, hi⟩
  · simp at h0; subst h0
    exact ⟨[], RowsOf.nil _ _ _, fun z hz => absurd hz (by simp)⟩
  · simp at hcs; subst hcs
    have hlm : len ≤ m := by rw [hmm]; split <;> omega
    have hrow : ∀ i, i < len → ∃ z : List Int, (z.length = ks.length ∧ ∀ y ∈ ks.zip z, (Lit.int y.1 y.2).wf = true) ∧ ∀ j u, ((ks.zip z).map fun y => Value.int y.1 y.2)[j]? = some u → w.cell? (a.add (i * fs.size + j)) = some u := by
      intro i hil
      obtain ⟨ys, n, hD, hPl, hyl, hfj⟩ := hi i (by omega)
      have hj : ∀ j, j < fs.size → ∃ n : Int, ∃ k, ks[j]? = some k ∧ (Lit.int k n).wf = true ∧ w.cell? (a.add (i * fs.size + j)) = some (.int k n) := by
        intro j hjs
        obtain ⟨u, y, hcell, hy, htr⟩ := hfj j fs[j] (by simp [hjs])
        have hkj : (fs.toList.map (fun f => P.underlying f.type))[j]? = (ks.map (fun k => some (TypeDesc.int k)))[j]? := by rw [hk]
        have hjk : j < ks.length := by omega
        simp [hjs, hjk] at hkj
        obtain ⟨n', e1, e2, e3⟩ := DataW.trod_int hkj htr
        simp at e1; subst e1
        exact ⟨n', ks[j], by simp [hjk], e3, hcell⟩
      obtain ⟨z, hz, hq⟩ := list_of fs.size hj
      refine ⟨z, ⟨by omega, ?_⟩, ?_⟩
      · intro y hy
        obtain ⟨j, hjl, hjy⟩ := List.mem_iff_getElem.1 hy
        simp at hjl
        obtain ⟨k, hk1, hk2, _⟩ := hq j (by omega)
        rw [List.getElem_zip] at hjy
        subst hjy
        rw [List.getElem?_eq_getElem (by omega)] at hk1
        cases hk1; exact hk2
      · intro j u hu
        rw [List.getElem?_map] at hu
        have hjl : j < (ks.zip z).length := by
          rcases Nat.lt_or_ge j (ks.zip z).length with h | h
          · exact h
          · rw [List.getElem?_eq_none h] at hu; cases hu
        rw [List.getElem?_eq_getElem hjl, List.getElem_zip] at hu
        simp at hjl
        obtain ⟨k, hk1, _, hk3⟩ := hq j (by omega)
        rw [List.getElem?_eq_getElem (by omega)] at hk1
        cases hk1
        simp at hu; subst hu; exact hk3
    obtain ⟨l, hll, hq⟩ := list_of len hrow
    refine ⟨l, RowsOf.mk' hll hl hm hpos ?_ ?_, ?_⟩
    · intro x hx
      obtain ⟨i, hil, rfl⟩ := List.mem_iff_getElem.1 hx
      have := (hq i hil).1.1
      simp; omega
    · intro i hil j u hu
      exact (hq i hil).2 j u hu
    · intro z hz
      obtain ⟨i, hil, rfl⟩ := List.mem_iff_getElem.1 hz
      exact (hq i hil).1

/-- Bytes: a field's reading, and an argument's. -/
theorem open_byt_trod {t e : TypeId} {v : Value} {fuel : Nat} {x : DataW H × List MemPlace} (ht : P.underlying t = some (.slice e)) (he : P.underlying e = some (.int .u8)) (hc : P.cellsOf e = 1)
    (h : DataW.trod enc P w base (fun _ => true) held fuel t [v] = some x) : ∃ l : List UInt8, Byt w v l := by
  rcases open_ints ht he hc h with ⟨h0, _⟩ | ⟨a, len, cap, zs, hcs, hb, hl, hm, hz, hx, hcell, hw⟩
  · simp at h0; subst h0
    exact byt_of_row (.inl ⟨rfl, rfl, rfl, rfl⟩)
  · simp at hcs; subst hcs
    exact byt_of_row (.inr ⟨a, rfl, hl, hm, by simpa using hz, hcell, hw⟩)
theorem open_byt {t e : TypeId} {v : Value} {d : DataW H} {p : List MemPlace} (ht : P.underlying t = some (.slice e)) (he : P.underlying e = some (.int .u8)) (hc : P.cellsOf e = 1)
    {r : Reach} {b0 : Nat} (hval : Value.okWide P w r b0 t v) (h : DataW.Trod enc P w base (fun _ => true) held t v d p) : ∃ l : List UInt8, Byt w v l := by
  obtain ⟨a, len, cap, rfl⟩ := okWide_slice ht hval
  obtain ⟨fuel, hf⟩ := h
  exact open_byt_trod ht he hc hf
theorem u8_of {n : Int} (h : (Lit.int .u8 n).wf = true) : ∃ b : UInt8, n = (b.toNat : Int) := by
  simp [Lit.wf, IntKind.min, IntKind.max, IntKind.signed, IntKind.bits] at h
  exact ⟨UInt8.ofNat n.toNat, by simp; omega⟩
theorem i64_wf {n : Int} (h : (Lit.int .i64 n).wf = true) : -9223372036854775808 ≤ n ∧ n ≤ 9223372036854775807 := by
  simp [Lit.wf, IntKind.min, IntKind.max, IntKind.signed, IntKind.bits] at h
  exact ⟨by omega, by omega⟩
theorem u32_wf {n : Int} (h : (Lit.int .u32 n).wf = true) : ∃ t : Nat, n = t ∧ t < 4294967296 := by
  simp [Lit.wf, IntKind.min, IntKind.max, IntKind.signed, IntKind.bits] at h
  exact ⟨n.toNat, by omega, by omega⟩
theorem u64_wf {n : Int} (h : (Lit.int .u64 n).wf = true) : ∃ t : Nat, n = t ∧ t < 18446744073709551616 := by
  simp [Lit.wf, IntKind.min, IntKind.max, IntKind.signed, IntKind.bits] at h
  exact ⟨n.toNat, by omega, by omega⟩
end
end Go.Tum
