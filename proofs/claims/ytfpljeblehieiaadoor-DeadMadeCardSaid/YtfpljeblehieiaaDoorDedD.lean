/- The dead: rows sorted by SortFunc. -/
import Derived.Test.YtfpljeblehieiaaDoorDedC
import Derived.Test.YtfpljeblehieiaaDoorDedS
set_option linter.unusedSimpArgs false
set_option linter.unusedVariables false
namespace Go.Proofs.YtfpljeblehieiaaDoor
open Go Go.RowKit Go.Tum Go.ChangeMaps Go.Sort
open Go.Shelf

section
variable {α : Type} [Inhabited α] {A Bf : α → Value}
omit [Inhabited α] in
theorem flat2_get (l : List α) (i : Nat) (h : i < l.length) : (l.flatMap fun z => [A z, Bf z])[i * 2]? = some (A l[i]) ∧ (l.flatMap fun z => [A z, Bf z])[i * 2 + 1]? = some (Bf l[i]) := by
  induction l generalizing i with
  | nil => simp at h
  | cons z r ih =>
    cases i with
    | zero => simp
    | succ i =>
      have := ih i (by simpa using h)
      rw [show (i + 1) * 2 = i * 2 + 1 + 1 by omega]
      simpa using this
theorem flatK_list (l : List α) : (flatK (fun z => [A z, Bf z]) 2 l.toArray).toList = l.flatMap fun z => [A z, Bf z] := by
  have hlen : (l.flatMap fun z => [A z, Bf z]).length = l.length * 2 := by
    induction l with
    | nil => rfl
    | cons z r ih => simp [ih]; omega
  apply List.ext_getElem?
  intro t
  by_cases ht : t < l.length * 2
  · have h1 : (flatK (fun z => [A z, Bf z]) 2 l.toArray).toList[t]? = some ((flatK (fun z => [A z, Bf z]) 2 l.toArray)[t]!) := by
      rw [Array.getElem?_toList, getElem!_pos _ t (by simpa using ht), Array.getElem?_eq_getElem (by simpa using ht)]
    have hq : t / 2 < l.length := by omega
    have hin : l.toArray[t / 2]! = l[t / 2] := by rw [getElem!_pos _ (t / 2) (by simpa using hq)]; simp
    rw [h1, get_flatK _ _ _ _ (by simpa using ht), hin]
    obtain ⟨g0, g1⟩ := flat2_get (A := A) (Bf := Bf) l (t / 2) hq
    rcases Nat.mod_two_eq_zero_or_one t with h2 | h2
    · rw [h2]
      have : t = t / 2 * 2 := by omega
      conv => rhs; rw [this]
      rw [g0]; rfl
    · rw [h2]
      have : t = t / 2 * 2 + 1 := by omega
      conv => rhs; rw [this]
      rw [g1]; rfl
  · rw [List.getElem?_eq_none (by simp; omega), List.getElem?_eq_none (by omega)]
end
theorem take_putId (cur F : Array Value) (h : F.size ≤ cur.size) : (putCells id 0 F cur).toList.take F.size = F.toList := by
  apply List.ext_getElem?
  intro j
  by_cases hj : j < F.size
  · rw [List.getElem?_take_of_lt hj, Array.getElem?_toList]
    simp [putCells, hj, show j < cur.size by omega]
  · rw [List.getElem?_take_eq_none (by omega), List.getElem?_eq_none (by simp; omega)]
theorem heap_putId {w : World} {g n : Nat} {os : Array Obj} {cur : Array Value} {e : TypeId} {fr : Nat × Nat} (F : Array Value) (hb : w.heap[g]? = some (.cells cur e fr)) :
    (grow (putRow id (Sort.ahead w n) g 0 F) os).heap[g]? = some (.cells (putCells id 0 F cur) e fr) := by
  have hg : g < w.heap.size := (Array.getElem?_eq_some_iff.1 hb).1
  rw [heap_grow_old _ _ (by simpa using hg)]
  simp [putRow, mapBlock, Sort.ahead, Array.getElem?_modify, hb, onCells]
theorem fr_putId {w : World} {g n : Nat} {os : Array Obj} (F : Array Value) : Fr [g] w (grow (putRow id (Sort.ahead w n) g 0 F) os) := by
  refine ⟨rfl, rfl, rfl, by simp, fun k hk hne => ?_⟩
  rw [heap_grow_old _ _ (by simpa using hk)]
  have : g ≠ k := fun e => hne (by rw [e]; simp)
  simp [putRow, mapBlock, Sort.ahead, Array.getElem?_modify, this]
theorem own_holds {α : Type} [Inhabited α] {A Bf : α → Value} {w : World} {B e g cap : Nat} {l : List α} (h : w.ownsRow B e 2 (.slice (some ⟨g, 0, none⟩) l.length cap) l.length (l.flatMap fun z => [A z, Bf z])) :
    HoldsK (fun z => [A z, Bf z]) 2 w g 0 l.toArray := by
  intro j hj
  have hj2 : j < l.length * 2 := by simpa using hj
  refine ⟨?_, by rw [Nat.zero_add]; exact World.ownsRow.frozenAt h j⟩
  rw [Nat.zero_add, World.ownsRow.cellAt h j hj2, ← flatK_list, Array.getElem?_toList, Array.getElem?_eq_getElem hj, getElem!_pos _ j hj]
  rfl
theorem own_sorted {α : Type} [Inhabited α] {A Bf : α → Value} {w : World} {B e g cap n : Nat} {os : Array Obj} {l m : List α} (h : w.ownsRow B e 2 (.slice (some ⟨g, 0, none⟩) l.length cap) l.length (l.flatMap fun z => [A z, Bf z])) (hl : m.length = l.length) :
    (sortWorldK (fun z => [A z, Bf z]) 2 w g 0 n m.toArray os).ownsRow B e 2 (.slice (some ⟨g, 0, none⟩) l.length cap) l.length (m.flatMap fun z => [A z, Bf z]) := by
  have hlen : (m.flatMap fun z => [A z, Bf z]).length = m.length * 2 := by
    have := congrArg List.length (flatK_list (A := A) (Bf := Bf) m)
    simpa using this.symm
  refine ⟨by rw [hlen, hl], ?_⟩
  rcases h.2 with ⟨hv, -⟩ | ⟨g', cap', cur, hv, hb, hgg, h1, h2, h3, h4⟩
  · cases hv
  · cases hv
    refine .inr ⟨g, cap, _, rfl, hb, heap_putId _ hgg, h1, h2, by simp [putCells, h3], ?_⟩
    have := take_putId cur (flatK (fun z => [A z, Bf z]) 2 m.toArray) (by rw [size_flatK, h3]; simp; omega)
    rw [size_flatK] at this
    simp only [List.size_toArray] at this
    rw [← hl, this, flatK_list]
/-! ### the order of rows -/
theorem cmpU_neg {x y : UInt64} : cmpU x y < 0 ↔ x < y := by
  unfold cmpU
  by_cases h : x < y
  · simp [h]
  · rw [if_neg h]
    by_cases h2 : y < x
    · simp [h2, h]
    · simp [h2, h]
theorem cmpU_zero {x y : UInt64} : cmpU x y = 0 ↔ x = y := by
  unfold cmpU
  by_cases h : x < y
  · rw [if_pos h]
    have : x ≠ y := fun e => by rw [e] at h; exact absurd h (UInt64.lt_irrefl y)
    simp [this]
  · rw [if_neg h]
    by_cases h2 : y < x
    · rw [if_pos h2]
      have : x ≠ y := fun e => by rw [e] at h2; exact absurd h2 (UInt64.lt_irrefl y)
      simp [this]
    · rw [if_neg h2]
      have : x = y := UInt64.le_antisymm (UInt64.not_lt.1 h2) (UInt64.not_lt.1 h)
      simp [this]
def ltP (a b : UInt64 × UInt64) : Bool := decide (a.2 < b.2 ∨ a.2 = b.2 ∧ a.1 < b.1)
theorem lt_cfP (a b : UInt64 × UInt64) : ltOf cfP a b = ltP a b := by
  unfold ltOf cfP or2 ltP
  by_cases h : cmpU a.2 b.2 = 0
  · have h1 := cmpU_zero.1 h
    rw [if_neg (by simpa using h)]
    have : ¬ a.2 < b.2 := by rw [h1]; exact UInt64.lt_irrefl _
    rw [h1] at this ⊢
    simp only [this, false_or, cmpU_neg, true_and]
  · have h1 : a.2 ≠ b.2 := fun e => h (cmpU_zero.2 e)
    rw [if_pos h]
    simp only [h1, false_and, or_false, cmpU_neg]
theorem u64_lt {x y : UInt64} : x < y ↔ x.toNat < y.toNat := UInt64.lt_iff_toNat_lt
theorem u64_eq {x y : UInt64} : x = y ↔ x.toNat = y.toNat := UInt64.toNat_inj.symm
theorem swoP : SWO (ltOf cfP) where
  irrefl x := by rw [lt_cfP]; simp [ltP, UInt64.lt_irrefl]
  trans x y z h1 h2 := by
    rw [lt_cfP] at *
    simp only [ltP, decide_eq_true_eq, u64_lt, u64_eq] at *
    omega
  ntrans x y z h1 h2 := by
    rw [lt_cfP] at *
    simp only [ltP, decide_eq_false_iff_not, u64_lt, u64_eq] at *
    omega
theorem totP (x y : UInt64 × UInt64) (h1 : ltOf cfP x y = false) (h2 : ltOf cfP y x = false) : x = y := by
  rw [lt_cfP] at h1 h2
  simp only [ltP, decide_eq_false_iff_not, u64_lt, u64_eq] at h1 h2
  exact Prod.ext (u64_eq.2 (by omega)) (u64_eq.2 (by omega))
/-- Rows by their places, and ids. -/
def sortP (l : List (UInt64 × UInt64)) : List (UInt64 × UInt64) := l.mergeSort fun x y => !(ltOf cfP) y x
theorem sortP_perm (l : List (UInt64 × UInt64)) : (sortP l).Perm l := List.mergeSort_perm _ _
theorem sortP_len (l : List (UInt64 × UInt64)) : (sortP l).length = l.length := (sortP_perm l).length_eq
theorem sortP_pair (l : List (UInt64 × UInt64)) : (sortP l).Pairwise fun x y => ltP y x = false := by
  have := List.pairwise_mergeSort (le := fun x y => !(ltOf cfP) y x) (fun a b c h1 h2 => by
    simp only [Bool.not_eq_true'] at *
    rw [lt_cfP] at *
    simp only [ltP, decide_eq_false_iff_not, u64_lt, u64_eq] at *
    omega) (fun a b => by
    simp only [lt_cfP, ltP, Bool.or_eq_true, Bool.not_eq_true', decide_eq_false_iff_not, u64_lt, u64_eq]
    omega) l
  exact this.imp fun h => by simpa [lt_cfP] using h
/-- Who is sorted, and a permutation, is what the sort gives. -/
theorem sortP_of {l m : List (UInt64 × UInt64)} (h : l.Perm m) (hm : m.Pairwise fun x y => ltP x y = true) : sortP l = m := by
  refine List.Perm.eq_of_pairwise (le := fun x y => ltP y x = false) (fun a b _ _ h1 h2 => totP a b (by rw [lt_cfP]; exact h2) (by rw [lt_cfP]; exact h1)) (sortP_pair l) (hm.imp fun {a b} h => ?_) ((sortP_perm l).trans h)
  simp only [ltP, decide_eq_true_eq, decide_eq_false_iff_not, u64_lt, u64_eq] at *
  omega
theorem row_shape {w : World} {b e s n : Nat} {v : Value} {xs : List Value} (h : w.ownsRow b e s v n xs) : ∃ ao cap, v = .slice ao n cap := by
  rcases h.2 with ⟨a, b⟩ | ⟨g, cap, cur, hv, _⟩
  · subst b; exact ⟨_, _, a⟩
  · exact ⟨_, _, hv⟩
def oB (v : Value) : List Nat := match v.ownBlock with | some g => [g] | none => []
theorem sortR_any {B : Nat} {w : World} {v : Value} (l : List (UInt64 × UInt64)) (h : w.ownsRow B 48 2 v l.length (l.flatMap encR)) (hl : l.length ≤ 1000000) :
    Calls Tryd.prog 42 #[v, .func (.func 43) #[] #[]] w fun e w' => e = .returned (.tuple #[]) ∧ w'.ownsRow B 48 2 v l.length ((sortP l).flatMap encR) ∧ Fr (oB v) w w' := by
  rcases h.2 with ⟨hv, h0⟩ | ⟨g, cap, cur, hv, hb, hgg, h1, h2, h3, h4⟩
  · have hl0 : l = [] := List.length_eq_zero_iff.1 h0
    subst hv hl0
    refine (AnyF.slices_SortFunc_none Tryd.sortRow none 0 _ w).mono ?_
    rintro e w' ⟨rfl, rfl⟩
    exact ⟨rfl, by simpa [sortP] using h, Fr.refl _ _⟩
  · subst hv
    have eg : ∀ args w, (callFunc 43 args).run Tryd.prog w = .ok (.enter 43 args) w := enters_of Tryd.func43 (by kernel_rfl) rfl
    have hcmp : CmpLays Tryd.prog 43 #[] encR 2 cfP g 0 l.toArray.size w := fun m os dk _ x y => byPlace_any x y _
    have hc := AnyQ.slices_SortFunc_total Tryd.sortRow 2 Tryd.isAgg48 Tryd.sizeOf48 encR (fun _ => rfl) (fun x v hv => by simp at hv; rcases hv with rfl | rfl <;> rfl) cfP swoP 43 #[] g 0 cap l.toArray w eg hcmp (own_holds h) (Array.getElem?_eq_some_iff.1 hgg).1 (by simp; omega) totP
    refine hc.mono ?_
    rintro e w' ⟨rfl, n, os, rfl⟩
    refine ⟨rfl, ?_, ?_⟩
    · exact own_sorted h (sortP_len l)
    · exact (fr_putId _).mono (by intro q hq; simp [oB, Value.ownBlock] at hq ⊢; exact hq)
end Go.Proofs.YtfpljeblehieiaaDoor
