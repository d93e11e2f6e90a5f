/- Package lane: First, Take, All. -/
import Derived.Test.YtlnghgalmhmegaaLanC
import Derived.Test.YtlnghgalmhmegaaVec
set_option linter.unusedSimpArgs false
set_option linter.unusedVariables false
namespace Go.Proofs.Ytlnghgalmhmegaa
open Go Go.RowKit Go.Tum Go.ChangeMaps Go.Shelf
attribute [local go_sem] Oper.semAt_some

theorem ext_putObj {w W : World} (h : Ext w W) (l : Nat) (o : Obj) (hl : w.heap.size ≤ l) : Ext w (W.putObj l o) :=
  ⟨h.os, h.tape, h.output, by rw [World.putObj_size]; exact h.size, fun k hk => (World.putObj_heap_other (by omega)).trans (h.block k hk)⟩
theorem box1 {w : World} {b : Nat} {v : Value} {ty : TypeId} (h : w.heap[b]? = some (.cells #[v] ty (0, 0))) : w.cell? ⟨b, 0, none⟩ = some v ∧ w.frozen? ⟨b, 0, none⟩ = false := by
  constructor <;> simp [World.cell?, World.frozen?, h]
theorem box1_set {w : World} {b : Nat} {v : Value} {ty : TypeId} (u : Value) (h : w.heap[b]? = some (.cells #[v] ty (0, 0))) : (w.setCell ⟨b, 0, none⟩ u).heap[b]? = some (.cells #[u] ty (0, 0)) := by
  simpa using Go.Joins.block_setCell (i := 0) h u
def firstU : List (UInt64 × Nat) → UInt64
  | [] => 0
  | p :: _ => p.1
abbrev firstV (l : List (UInt64 × Nat)) : Value := .tuple #[vU (firstU l), .bool (decide (l ≠ []))]
theorem first_results (tmps : Array Value) (w : World) (B C : Nat) (v u : Value) (h2 : tmps.getD 2 undef = .pointer (some ⟨B, 0, none⟩)) (h3 : tmps.getD 3 undef = .pointer (some ⟨C, 0, none⟩)) (m0 : w.cell? ⟨B, 0, none⟩ = some v) (m1 : w.cell? ⟨C, 0, none⟩ = some u) :
    (results Try.f14 tmps).run Try.prog w = .ok (.tuple #[v, u]) w := by
  have h2' : tmps[2]?.getD undef = .pointer (some ⟨B, 0, none⟩) := by simpa using h2
  have h3' : tmps[3]?.getD undef = .pointer (some ⟨C, 0, none⟩) := by simpa using h3
  simp [results, Try.results14, go_sem, h2', h3', m0, m1]

set_option maxRecDepth 100000 in
set_option maxHeartbeats 1000000 in
theorem first_in (w : World) (p m : Nat) (l : List (UInt64 × Nat)) (h : Lane w p m l) :
    CallsIn FW 9 Try.prog 14 #[pv p] w fun e w' => e = .returned (firstV l) ∧ Ext w w' := by
  refine callsIn_of_wp_marks Try.func14 rfl trivial ?_ rfl
  simp only [Try.ntmps14, List.size_toArray, List.length_cons, List.length_nil, Nat.reduceAdd, Nat.reduceSub, Array.replicate_succ, Array.replicate_zero, List.push_toArray, List.append_toArray, List.nil_append, List.cons_append]
  gi_wp2
  have hV : Ext w ((w.alloc (.cells #[.int .u64 0] 23)).alloc (.cells #[.bool false] 4)) := (Ext.alloc _ _).trans (Ext.alloc _ _)
  have hb0 : ((w.alloc (.cells #[.int .u64 0] 23)).alloc (.cells #[.bool false] 4)).heap[w.heap.size]? = some (.cells #[.int .u64 0] 23 (0, 0)) := (Ext.alloc _ _).obj (heap_alloc_new w _)
  have hb1 : ((w.alloc (.cells #[.int .u64 0] 23)).alloc (.cells #[.bool false] 4)).heap[w.heap.size + 1]? = some (.cells #[.bool false] 4 (0, 0)) := by
    have := heap_alloc_new (w.alloc (.cells #[.int .u64 0] 23)) (.cells #[.bool false] 4)
    rwa [World.size_alloc] at this
  have hs : ((w.alloc (.cells #[.int .u64 0] 23)).alloc (.cells #[.bool false] 4)).heap.size = w.heap.size + 2 := by simp
  generalize (w.alloc (.cells #[.int .u64 0] 23)).alloc (.cells #[.bool false] 4) = V at *
  refine range_each (p := p) (xs := ids l) rfl rfl
    (fun pre W => pre = [] ∧ W.heap[w.heap.size]? = some (.cells #[.int .u64 0] 23 (0, 0)) ∧ W.heap[w.heap.size + 1]? = some (.cells #[.bool false] 4 (0, 0)) ∧ Ext w W)
    (fun pre W => ∃ x, pre = [x] ∧ W.heap[w.heap.size]? = some (.cells #[vU x] 23 (0, 0)) ∧ W.heap[w.heap.size + 1]? = some (.cells #[.bool true] 4 (0, 0)) ∧ Ext w W)
    (each_gives fun pre W hi => h.ext hi.2.2.2)
    (fun pre W l' o hl' hi => ⟨hi.1, (World.putObj_heap_other (by omega)).trans hi.2.1, (World.putObj_heap_other (by omega)).trans hi.2.2.1, ext_putObj hi.2.2.2 _ _ (by omega)⟩)
    (fun pre W l' o hl' hi => by
      obtain ⟨x, e, i1, i2, i3⟩ := hi
      exact ⟨x, e, (World.putObj_heap_other (by omega)).trans i1, (World.putObj_heap_other (by omega)).trans i2, ext_putObj i3 _ _ (by omega)⟩)
    (fun o1 o2 => ⟨rfl, (Ext.alloc _ _).obj ((Ext.alloc _ _).obj hb0), (Ext.alloc _ _).obj ((Ext.alloc _ _).obj hb1), (hV.trans (Ext.alloc _ _)).trans (Ext.alloc _ _)⟩)
    (fun x => { tmps := #[pv p, undef, .pointer (some ⟨w.heap.size, 0, none⟩), .pointer (some ⟨w.heap.size + 1, 0, none⟩), vU x, pv p, .func (.func 21) #[pv p] #[], vU x, undef], defers := [] }) ?assign ?body ?done ?stop
  case assign =>
    intro l' x W K hK
    gi_wp2
    exact hK
  case body =>
    rintro l' pre x W hl' hlt ⟨rfl, i1, i2, i3⟩ hpre
    obtain ⟨c0, f0⟩ := box1 i1
    obtain ⟨c1, f1⟩ := box1 i2
    gi_wp2
    refine ⟨⟨?_, ?_⟩, x, rfl, ?_, ?_, ?_⟩
    · rw [heap_setCell_other _ _ _ _ (by dsimp only; omega), heap_setCell_other _ _ _ _ (by dsimp only; omega)]
    · rw [heap_setCell_other _ _ _ _ (by dsimp only; omega), heap_setCell_other _ _ _ _ (by dsimp only; omega)]
    · rw [heap_setCell_other _ _ _ _ (by dsimp only; omega)]; exact box1_set _ i1
    · exact box1_set _ ((heap_setCell_other _ _ _ _ (by dsimp only; omega)).trans i2)
    · exact Below.setCell (Below.setCell i3 (by dsimp only; omega) _) (by dsimp only; omega) _
  case done =>
    rintro W ⟨hn, i1, i2, i3⟩ hK
    have hl0 : l = [] := by simpa using hn
    subst hl0
    obtain ⟨c0, f0⟩ := box1 i1
    obtain ⟨c1, f1⟩ := box1 i2
    gi_wp2
    have hK' : ((W.setCell ⟨w.heap.size, 0, none⟩ (.int .u64 0)).setCell ⟨w.heap.size + 1, 0, none⟩ (.bool false)).heap[V.heap.size]? = some (.deferred (some [])) := by
      rw [heap_setCell_other _ _ _ _ (by dsimp only; omega), heap_setCell_other _ _ _ _ (by dsimp only; omega)]; exact hK
    refine ⟨by simp, .inl ⟨_, _, rfl, run_takeDeferred hK', ?_⟩⟩
    have i1' : ((W.setCell ⟨w.heap.size, 0, none⟩ (.int .u64 0)).setCell ⟨w.heap.size + 1, 0, none⟩ (.bool false)).heap[w.heap.size]? = some (.cells #[.int .u64 0] 23 (0, 0)) := by
      rw [heap_setCell_other _ _ _ _ (by dsimp only; omega)]; exact box1_set _ i1
    have i2' : ((W.setCell ⟨w.heap.size, 0, none⟩ (.int .u64 0)).setCell ⟨w.heap.size + 1, 0, none⟩ (.bool false)).heap[w.heap.size + 1]? = some (.cells #[.bool false] 4 (0, 0)) :=
      box1_set _ ((heap_setCell_other _ _ _ _ (by dsimp only; omega)).trans i2)
    have i3' : Ext w ((W.setCell ⟨w.heap.size, 0, none⟩ (.int .u64 0)).setCell ⟨w.heap.size + 1, 0, none⟩ (.bool false)) :=
      Below.setCell (Below.setCell i3 (by dsimp only; omega) _) (by dsimp only; omega) _
    exact ⟨firstV [], first_results _ _ _ _ _ _ rfl rfl (box1 ((World.putObj_heap_other (by omega)).trans i1')).1 (box1 ((World.putObj_heap_other (by omega)).trans i2')).1, rfl, ext_putObj i3' _ _ (by omega)⟩
  case stop =>
    rintro pre W hpre ⟨x, rfl, i1, i2, i3⟩ hK
    obtain ⟨c0, f0⟩ := box1 i1
    obtain ⟨c1, f1⟩ := box1 i2
    have hfl : firstV l = .tuple #[vU x, .bool true] := by
      cases l with
      | nil => simp at hpre
      | cons y l =>
        have : x = y.1 := by simpa using hpre
        rw [this]; rfl
    gi_wp2
    refine ⟨by simp, .inl ⟨_, _, rfl, run_takeDeferred hK, ?_⟩⟩
    exact ⟨.tuple #[vU x, .bool true], first_results _ _ _ _ _ _ rfl rfl (box1 ((World.putObj_heap_other (by omega)).trans i1)).1 (box1 ((World.putObj_heap_other (by omega)).trans i2)).1, by rw [hfl], ext_putObj i3 _ _ (by omega)⟩
theorem first_any (w : World) (p m : Nat) (l : List (UInt64 × Nat)) (h : Lane w p m l) :
    Calls Try.prog 14 #[pv p] w fun e w' => e = .returned (firstV l) ∧ Ext w w' := callsIn_wide.1 (first_in w p m l h)
end Go.Proofs.Ytlnghgalmhmegaa
