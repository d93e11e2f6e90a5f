/- The lane's contracts for a caller; the law's own: awake. -/
import Derived.Test.YtlnghgalmhmegaaLanE
import Derived.Test.YtlnghgalmhmegaaSame64
set_option linter.unusedSimpArgs false
set_option linter.unusedVariables false
namespace Go.Tum
open Go.RowKit
theorem OwV.fr0 {α : Type} {f : α → Value} {w w' : World} {b e : Nat} {v : Value} {l : List α} (h : OwV f w b e v l) (k : ∀ g, b ≤ g → g < w.heap.size → w'.heap[g]? = w.heap[g]?) : OwV f w' b e v l := by
  refine ⟨h.1, ?_⟩
  rcases h.2 with hn | ⟨g, cap, cur, hv, hb, hgg, rest⟩
  · exact .inl hn
  · exact .inr ⟨g, cap, cur, hv, hb, by rw [k g hb (Array.getElem?_eq_some_iff.1 hgg).1]; exact hgg, rest⟩
end Go.Tum
namespace Go.Proofs.Ytlnghgalmhmegaa
open Go Go.RowKit Go.Tum Go.ChangeMaps Go.Shelf

theorem OwV.fr {f : UInt64 → Value} {S : List Nat} {w w' : World} {b e : Nat} {v : Value} {l : List UInt64} (h : OwV f w b e v l) (k : Fr S w w') (hs : ∀ x ∈ S, x < b) : OwV f w' b e v l :=
  OwV.fr0 h fun g hb hg => k.block g hg fun hm => by have := hs g hm; omega
/-- A lane whose blocks lie above B, its ids I. -/
structure LB (B : Nat) (w : World) (p m : Nat) (l : List (UInt64 × Nat)) (I : List UInt64) : Prop where
  ln : Lane w p m l
  hi : ∀ x ∈ Bl p m l, B ≤ x
  ii : ids l = I
def putL (x : UInt64) (I : List UInt64) : List UInt64 := if x ∈ I then I else I ++ [x]
def dropL (x : UInt64) (I : List UInt64) : List UInt64 := I.filter (· != x)
abbrev firstI (I : List UInt64) : Value := .tuple #[vU (I.headD 0), .bool (decide (I ≠ []))]
theorem LB.len {B : Nat} {w : World} {p m : Nat} {l : List (UInt64 × Nat)} {I : List UInt64} (h : LB B w p m l I) : l.length = I.length := by rw [← h.ii]; simp
theorem LB.ext {B : Nat} {w w' : World} {p m : Nat} {l : List (UInt64 × Nat)} {I : List UInt64} (h : LB B w p m l I) (k : Ext w w') : LB B w' p m l I := ⟨h.ln.ext k, h.hi, h.ii⟩
theorem LB.lt {B : Nat} {w : World} {p m : Nat} {l : List (UInt64 × Nat)} {I : List UInt64} (h : LB B w p m l I) : ∀ x ∈ Bl p m l, x < w.heap.size := h.ln.lt
theorem LB.fr {S : List Nat} {B : Nat} {w w' : World} {p m : Nat} {l : List (UInt64 × Nat)} {I : List UInt64} (h : LB B w p m l I) (k : Fr S w w') (hs : ∀ x ∈ Bl p m l, x ∉ S) : LB B w' p m l I := ⟨h.ln.fr k hs, h.hi, h.ii⟩

theorem new_b (B : Nat) (w : World) (hB : B ≤ w.heap.size) : Calls Try.prog 7 #[] w fun e w' => ∃ p m, e = .returned (pv p) ∧ LB B w' p m [] [] ∧ Ext w w' ∧ w.heap.size ≤ p ∧ w.heap.size ≤ m := by
  refine (new_any w).mono ?_
  rintro e w' ⟨p, m, rfl, L, E, hp, hm⟩
  exact ⟨p, m, rfl, ⟨L, by simp; omega, rfl⟩, E, hp, hm⟩
def PutB (B : Nat) (w : World) (p m : Nat) (l : List (UInt64 × Nat)) (I : List UInt64) (x : UInt64) (e : Ending) (w' : World) : Prop :=
  e = .returned (.bool (decide (x ∉ I))) ∧ ∃ l', LB B w' p m l' (putL x I) ∧ Fr (Bl p m l) w w' ∧ Below B w w' ∧ (∀ q ∈ Bl p m l', q ∈ Bl p m l ∨ w.heap.size ≤ q)
theorem put_b (B : Nat) (w : World) (p m : Nat) (l : List (UInt64 × Nat)) (I : List UInt64) (x : UInt64) (h : LB B w p m l I) (hl : I.length ≤ 1000000) (hB : B ≤ w.heap.size) :
    Calls Try.prog 8 #[pv p, vU x] w fun e w' => PutB B w p m l I x e w' := by
  refine (put_any w p m l x h.ln (by rw [h.len]; exact hl)).mono ?_
  rintro e w' ⟨rfl, l', L, hI, F, G⟩
  have hG : ∀ q ∈ Bl p m l', q ∈ Bl p m l ∨ w.heap.size ≤ q := by
    intro q hq
    simp only [List.mem_cons, List.mem_map] at hq
    rcases hq with rfl | rfl | ⟨q, hq, rfl⟩
    · exact .inl (by simp)
    · exact .inl (by simp)
    · rcases G q hq with h1 | h1
      · exact .inl (by simp only [List.mem_cons, List.mem_map]; exact .inr (.inr ⟨q, h1, rfl⟩))
      · exact .inr h1
  refine ⟨by rw [h.ii], l', ⟨L, ?_, by rw [hI, h.ii]; rfl⟩, F, F.below h.hi hB, hG⟩
  intro q hq
  rcases hG q hq with h1 | h1
  · exact h.hi q h1
  · omega
def DropB (B : Nat) (w : World) (p m : Nat) (l : List (UInt64 × Nat)) (I : List UInt64) (x : UInt64) (e : Ending) (w' : World) : Prop :=
  e = .returned (.bool (decide (x ∈ I))) ∧ ∃ l', LB B w' p m l' (dropL x I) ∧ Fr (Bl p m l) w w' ∧ Below B w w' ∧ (∀ q ∈ Bl p m l', q ∈ Bl p m l)
theorem drop_b (B : Nat) (w : World) (p m : Nat) (l : List (UInt64 × Nat)) (I : List UInt64) (x : UInt64) (h : LB B w p m l I) (hB : B ≤ w.heap.size) :
    Calls Try.prog 12 #[pv p, vU x] w fun e w' => DropB B w p m l I x e w' := by
  refine (drop_any w p m l x h.ln).mono ?_
  rintro e w' ⟨rfl, l', L, rfl, F⟩
  have hG : ∀ q ∈ Bl p m (l.filter fun q => q.1 != x), q ∈ Bl p m l := by
    intro q hq
    simp only [List.mem_cons, List.mem_map, List.mem_filter] at hq ⊢
    rcases hq with rfl | rfl | ⟨q, ⟨hq, -⟩, rfl⟩
    · exact .inl rfl
    · exact .inr (.inl rfl)
    · exact .inr (.inr ⟨q, hq, rfl⟩)
  refine ⟨by rw [h.ii], _, ⟨L, fun q hq => h.hi q (hG q hq), ?_⟩, F, F.below h.hi hB, hG⟩
  rw [← h.ii]
  simp [ids, dropL, List.filter_map, Function.comp_def]
theorem first_b (B : Nat) (w : World) (p m : Nat) (l : List (UInt64 × Nat)) (I : List UInt64) (h : LB B w p m l I) :
    Calls Try.prog 14 #[pv p] w fun e w' => e = .returned (firstI I) ∧ Ext w w' := by
  refine (first_any w p m l h.ln).mono ?_
  rintro e w' ⟨rfl, E⟩
  refine ⟨?_, E⟩
  rw [← h.ii]
  cases l <;> simp [firstV, firstI, firstU, ids]
def TakeB (B : Nat) (w : World) (p m : Nat) (l : List (UInt64 × Nat)) (I : List UInt64) (e : Ending) (w' : World) : Prop :=
  e = .returned (firstI I) ∧ ∃ l', LB B w' p m l' I.tail ∧ Fr (Bl p m l) w w' ∧ Below B w w' ∧ (∀ q ∈ Bl p m l', q ∈ Bl p m l)
theorem take_b (B : Nat) (w : World) (p m : Nat) (l : List (UInt64 × Nat)) (I : List UInt64) (h : LB B w p m l I) (hB : B ≤ w.heap.size) :
    Calls Try.prog 10 #[pv p] w fun e w' => TakeB B w p m l I e w' := by
  refine (take_any w p m l h.ln).mono ?_
  rintro e w' ⟨rfl, L, F⟩
  have hG : ∀ q ∈ Bl p m l.tail, q ∈ Bl p m l := by
    intro q hq
    simp only [List.mem_cons, List.mem_map] at hq ⊢
    rcases hq with rfl | rfl | ⟨q, hq, rfl⟩
    · exact .inl rfl
    · exact .inr (.inl rfl)
    · exact .inr (.inr ⟨q, List.mem_of_mem_tail hq, rfl⟩)
  refine ⟨?_, _, ⟨L, fun q hq => h.hi q (hG q hq), ?_⟩, F, F.below h.hi hB, hG⟩
  · rw [← h.ii]
    cases l <;> simp [firstV, firstI, firstU, ids]
  · rw [← h.ii]
    simp [ids]
theorem all_b (B : Nat) (w : World) (p m : Nat) (l : List (UInt64 × Nat)) (I : List UInt64) (h : LB B w p m l I) (hl : I.length ≤ 1000000) :
    Calls Try.prog 17 #[pv p] w fun e w' => ∃ v, e = .returned v ∧ OwV vU w' w.heap.size 23 v I ∧ Ext w w' := by
  have := all_any w p m l h.ln (by rw [h.len]; exact hl)
  rw [h.ii] at this
  exact this
theorem has_b (B : Nat) (w : World) (p m : Nat) (l : List (UInt64 × Nat)) (I : List UInt64) (x : UInt64) (h : LB B w p m l I) :
    Calls Try.prog 18 #[pv p, vU x] w fun e w' => e = .returned (.bool (decide (x ∈ I))) ∧ w = w' := by
  have := has_any w p m l x h.ln
  rw [h.ii] at this
  exact this
theorem len_b (B : Nat) (w : World) (p m : Nat) (l : List (UInt64 × Nat)) (I : List UInt64) (h : LB B w p m l I) :
    Calls Try.prog 20 #[pv p] w fun e w' => e = .returned (.int .i64 (I.length : Nat)) ∧ w = w' := by
  have := llen_any w p m l h.ln
  rw [h.len] at this
  exact this
end Go.Proofs.Ytlnghgalmhmegaa
