/- The dead in memory; New, Has, Last, Add, Drop. -/
import Derived.Test.YtfpljeblehieiaaDoorDedM
import Derived.Test.YtfpljeblehieiaaDoorRgC
set_option linter.unusedSimpArgs false
set_option linter.unusedVariables false
namespace Go.Proofs.YtfpljeblehieiaaDoor
open Go Go.RowKit Go.Tum Go.ChangeMaps
open Go.ParB (upd Lof)
open Go.ParE (putS slotsR slots Closed)

abbrev pv (b : Nat) : Value := .pointer (some ⟨b, 0, none⟩)
theorem lk3 {w : World} {b : Nat} {v0 v1 v2 : Value} {ty : TypeId} (h : w.heap[b]? = some (.cells #[v0, v1, v2] ty (0, 0))) :
    w.cell? ⟨b, 0, none⟩ = some v0 ∧ w.cell? ⟨b, 1, none⟩ = some v1 ∧ w.cell? ⟨b, 2, none⟩ = some v2 ∧ (∀ i, w.frozen? ⟨b, i, none⟩ = false) := by
  refine ⟨by rw [cell_of_row _ _ _ _ _ _ h]; rfl, by rw [cell_of_row _ _ _ _ _ _ h]; rfl, by rw [cell_of_row _ _ _ _ _ _ h]; rfl, fun i => by simp [World.frozen?, h]⟩
theorem lk2 {w : World} {b : Nat} {v0 v1 : Value} {ty : TypeId} (h : w.heap[b]? = some (.cells #[v0, v1] ty (0, 0))) :
    w.cell? ⟨b, 0, none⟩ = some v0 ∧ w.cell? ⟨b, 1, none⟩ = some v1 ∧ (∀ i, w.frozen? ⟨b, i, none⟩ = false) := by
  refine ⟨by rw [cell_of_row _ _ _ _ _ _ h]; rfl, by rw [cell_of_row _ _ _ _ _ _ h]; rfl, fun i => by simp [World.frozen?, h]⟩
theorem lk1 {w : World} {b : Nat} {v0 : Value} {ty : TypeId} (h : w.heap[b]? = some (.cells #[v0] ty (0, 0))) : w.cell? ⟨b, 0, none⟩ = some v0 ∧ w.frozen? ⟨b, 0, none⟩ = false := by
  constructor <;> simp [World.cell?, World.frozen?, h]
theorem block_set {w : World} {b : Nat} {cs : Array Value} {ty : TypeId} (h : w.heap[b]? = some (.cells cs ty (0, 0))) (i : Nat) (u : Value) : (w.setCell ⟨b, i, none⟩ u).heap[b]? = some (.cells (cs.setIfInBounds i u) ty (0, 0)) := by
  simpa using Go.Joins.block_setCell (i := i) h u
/-- How many were ever added; ids and places; names and places. -/
structure PD where
  last : UInt64
  rows : List (UInt64 × UInt64)
  seen : List (Nm × UInt64)
abbrev deadO (mp ms : Nat) (s : PD) : Obj := .cells #[vU s.last, .map (some mp), .map (some ms)] 68 (0, 0)
structure DD (w : World) (p mp ms : Nat) (s : PD) : Prop where
  hd : w.heap[p]? = some (deadO mp ms s)
  rm : ∃ l, PMU w mp l ∧ l.Perm s.rows
  sm : ∃ l, PMN w ms l ∧ l.Perm s.seen
  ne : mp ≠ ms
  nr : (s.rows.map Prod.fst).Nodup
  ns : (s.seen.map Prod.fst).Nodup
  lr : s.rows.length ≤ 100000
  ls : s.seen.length ≤ 100000
section
variable {w w' : World} {p mp ms : Nat} {s : PD}
theorem DD.pm (h : DD w p mp ms s) : p ≠ mp := by
  rintro e
  obtain ⟨l, hl, -⟩ := h.rm
  obtain ⟨es, ck, hb⟩ := hl.block
  rw [← e, h.hd] at hb; cases hb
theorem DD.ps (h : DD w p mp ms s) : p ≠ ms := by
  rintro e
  obtain ⟨l, hl, -⟩ := h.sm
  obtain ⟨es, ck, hb⟩ := hl.block
  rw [← e, h.hd] at hb; cases hb
theorem DD.fr (h : DD w p mp ms s) {S : List Nat} (f : Fr S w w') (h1 : p ∉ S) (h2 : mp ∉ S) (h3 : ms ∉ S) : DD w' p mp ms s := by
  obtain ⟨l, hl, pl⟩ := h.rm
  obtain ⟨k, hk, pk⟩ := h.sm
  exact ⟨(f.block p (Array.getElem?_eq_some_iff.1 h.hd).1 h1).trans h.hd, ⟨l, hl.fr f h2, pl⟩, ⟨k, hk.fr f h3, pk⟩, h.ne, h.nr, h.ns, h.lr, h.ls⟩
theorem DD.ext (h : DD w p mp ms s) (k : Ext w w') : DD w' p mp ms s := h.fr (S := []) (Ext.fr k) (by simp) (by simp) (by simp)
theorem DD.lt (h : DD w p mp ms s) : p < w.heap.size ∧ mp < w.heap.size ∧ ms < w.heap.size := by
  obtain ⟨l, hl, -⟩ := h.rm
  obtain ⟨k, hk, -⟩ := h.sm
  obtain ⟨es, ck, hb⟩ := hl.block
  obtain ⟨es2, ck2, hb2⟩ := hk.block
  exact ⟨(Array.getElem?_eq_some_iff.1 h.hd).1, (Array.getElem?_eq_some_iff.1 hb).1, (Array.getElem?_eq_some_iff.1 hb2).1⟩
end
theorem perm_lookup {α β : Type} [BEq α] [LawfulBEq α] [DecidableEq α] {l m : List (α × β)} (h : l.Perm m) (hn : (m.map Prod.fst).Nodup) (x : α) : l.lookup x = m.lookup x := by
  have hl : (l.map Prod.fst).Nodup := ((h.map Prod.fst).nodup_iff).2 hn
  cases hx : m.lookup x with
  | none =>
    rw [lku_none] at hx ⊢
    intro hm
    exact hx ((h.map Prod.fst).mem_iff.1 hm)
  | some b => exact nodup_lku hl (h.mem_iff.2 (lku_mem hx))
theorem perm_noK {α β : Type} [BEq α] [LawfulBEq α] [DecidableEq α] {l m : List (α × β)} (h : l.Perm m) (x : α) : (noK l x).Perm (noK m x) := h.filter _
theorem perm_nodup {α β : Type} {l m : List (α × β)} (h : l.Perm m) (hn : (m.map Prod.fst).Nodup) : (l.map Prod.fst).Nodup := ((h.map Prod.fst).nodup_iff).2 hn
theorem noK_nodup {α β : Type} [BEq α] {l : List (α × β)} (hn : (l.map Prod.fst).Nodup) (x : α) : ((noK l x).map Prod.fst).Nodup := (List.filter_sublist.map Prod.fst).nodup hn
theorem noK_none {α β : Type} [BEq α] [LawfulBEq α] [DecidableEq α] {l : List (α × β)} {x : α} (h : l.lookup x = none) : noK l x = l := List.filter_eq_self.2 fun z hz => by
  have : z.1 ≠ x := fun e => lku_none.1 h (List.mem_map.2 ⟨z, hz, e⟩)
  simpa using this
theorem noK_len {α β : Type} [BEq α] (l : List (α × β)) (x : α) : (noK l x).length ≤ l.length := List.length_filter_le _ _
theorem not_mem_noK {α β : Type} [BEq α] [LawfulBEq α] {l : List (α × β)} {x : α} : x ∉ (noK l x).map Prod.fst := by
  intro h
  obtain ⟨z, hz, e⟩ := List.mem_map.1 h
  have := (List.mem_filter.1 hz).2
  simp [e] at this
abbrev newD : PD := ⟨0, [], []⟩
set_option maxHeartbeats 1000000 in
theorem dnew_any (w : World) : Calls Tryd.prog 9 #[] w fun e w' => (∃ p mp ms, e = .returned (pv p) ∧ DD w' p mp ms newD ∧ w.heap.size ≤ p ∧ w.heap.size ≤ mp ∧ w.heap.size ≤ ms) ∧ Ext w w' := by
  have hmm := @run_makeMap Tryd.prog
  go_enter Tryd.func9, Tryd.ntmps9
  go_wp2
  go_returns
  refine ⟨⟨w.heap.size + 1 + 1, w.heap.size, w.heap.size + 1, rfl, ?_, by omega, by omega, by omega⟩, ((Ext.alloc _ _).trans (Ext.alloc _ _)).trans (Ext.alloc _ _)⟩
  refine ⟨?_, ⟨[], ?_, List.Perm.refl _⟩, ⟨[], ?_, List.Perm.refl _⟩, by omega, by simp, by simp, by simp, by simp⟩
  · have := heap_alloc_new ((w.alloc (.map #[] 0)).alloc (.map #[] 0)) (.cells #[.int .u64 0, .map (some w.heap.size), .map (some (w.heap.size + 1))] 68 (0, 0))
    rw [World.size_alloc, World.size_alloc] at this
    exact this
  · exact ((PMU.made w).ext (Ext.alloc _ _)).ext (Ext.alloc _ _)
  · have := (PMN.made (w.alloc (.map #[] 0))).ext (Ext.alloc _ (.cells #[.int .u64 0, .map (some w.heap.size), .map (some (w.heap.size + 1))] 68 (0, 0)))
    rw [World.size_alloc] at this
    exact this
theorem dhas_any {w : World} {p mp ms : Nat} {s : PD} (x : UInt64) (h : DD w p mp ms s) :
    Calls Tryd.prog 28 #[pv p, vU x] w fun e w' => e = .returned (.bool (s.rows.lookup x).isSome) ∧ w = w' := by
  obtain ⟨-, c1, -, -⟩ := lk3 h.hd
  obtain ⟨l, hl, pl⟩ := h.rm
  have hlk := hl.look_ok Tryd.underlying65 x
  rw [perm_lookup pl h.nr] at hlk
  clear hl pl h
  go_enter Tryd.func28, Tryd.ntmps28
  go_wp2
  go_ret
  exact ⟨rfl, rfl⟩
theorem dlast_any {w : World} {p mp ms : Nat} {s : PD} (h : DD w p mp ms s) :
    Calls Tryd.prog 20 #[pv p] w fun e w' => e = .returned (vU s.last) ∧ w = w' := by
  obtain ⟨c0, -, -, -⟩ := lk3 h.hd
  clear h
  go_enter Tryd.func20, Tryd.ntmps20
  go_wp2
  go_ret
  exact ⟨rfl, rfl⟩
def addD (s : PD) (x : UInt64) : Bool × PD := if (s.rows.lookup x).isSome then (false, s) else (true, { s with last := s.last + 1, rows := s.rows ++ [(x, s.last + 1)] })
def dropD (s : PD) (x : UInt64) : Bool × PD := ((s.rows.lookup x).isSome, { s with rows := noK s.rows x })
def ActD (w : World) (p mp ms : Nat) (b : Bool) (s : PD) (e : Ending) (w' : World) : Prop := e = .returned (.bool b) ∧ DD w' p mp ms s ∧ Fr [p, mp, ms] w w'
theorem u64_add1 (x : UInt64) : IntKind.u64.wrap ((x.toNat : Int) + 1) = ((x + 1).toNat : Int) := by
  have h := x.toNat_lt
  rw [UInt64.toNat_add]
  simp only [IntKind.wrap, IntKind.signed, IntKind.bits, IntKind.min, IntKind.max]
  simp
set_option maxRecDepth 100000 in
set_option maxHeartbeats 1000000 in
theorem ddrop_any {w : World} {p mp ms : Nat} {s : PD} (x : UInt64) (h : DD w p mp ms s) :
    Calls Tryd.prog 27 #[pv p, vU x] w fun e w' => ActD w p mp ms (dropD s x).1 (dropD s x).2 e w' := by
  have H := hid h
  obtain ⟨-, c1, -, -⟩ := lk3 h.hd
  obtain ⟨l, hl, pl⟩ := h.rm
  obtain ⟨w2, hrun, hl2, ht⟩ := hl.del Tryd.underlying65 (perm_nodup pl h.nr) x 0
  have hF := fr_turned (S := [mp]) ht (by simp)
  have HD : Hid (DD w2 p mp ms (dropD s x).2 ∧ Fr [p, mp, ms] w w2) := hid ⟨⟨(hF.block p h.lt.1 (by simpa using h.pm)).trans h.hd, ⟨_, hl2, perm_noK pl x⟩, (by
      obtain ⟨k, hk, pk⟩ := h.sm
      exact ⟨k, hk.fr hF (by simpa using h.ne.symm), pk⟩), h.ne, noK_nodup h.nr x, h.ns, Nat.le_trans (noK_len _ _) h.lr, h.ls⟩, hF.mono (by simp)⟩
  have HR := hid hrun
  clear h hl pl hl2 ht hF hrun
  go_enter Tryd.func27, Tryd.ntmps27
  go_wp2_with fail
  refine (dhas_any x H.out).mono ?_
  rintro e w1 ⟨rfl, rfl⟩
  have hr := HR.out
  go_wp2
  go_ret
  exact ⟨rfl, HD.out⟩
end Go.Proofs.YtfpljeblehieiaaDoor
