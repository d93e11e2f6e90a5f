/- Package lane: Take, All. -/
import Derived.Test.YtlnghgalmhmegaaLanD
set_option linter.unusedSimpArgs false
set_option linter.unusedVariables false
namespace Go.Proofs.Ytlnghgalmhmegaa
open Go Go.RowKit Go.Tum Go.ChangeMaps Go.Shelf

theorem filter_tail {x : UInt64} {b : Nat} {r : List (UInt64 × Nat)} (h : (((x, b) :: r).map (·.1)).Nodup) : ((x, b) :: r).filter (fun q => q.1 != x) = r := by
  have h2 := List.nodup_cons.1 h
  rw [List.filter_cons]
  simp only [bne_self_eq_false, Bool.false_eq_true, if_false]
  refine List.filter_eq_self.2 fun q hq => ?_
  have : q.1 ≠ x := fun e => h2.1 (by rw [← e]; exact List.mem_map.2 ⟨q, hq, rfl⟩)
  simpa using this
def TakeP (w : World) (p m : Nat) (l : List (UInt64 × Nat)) (e : Ending) (w' : World) : Prop :=
  e = .returned (firstV l) ∧ Lane w' p m l.tail ∧ Fr (Bl p m l) w w'
set_option maxHeartbeats 1000000 in
theorem take_any (w : World) (p m : Nat) (l : List (UInt64 × Nat)) (h : Lane w p m l) :
    Calls Try.prog 10 #[pv p] w fun e w' => TakeP w p m l e w' := by
  cases l with
  | nil =>
    go_enter Try.func10, Try.ntmps10
    go_wp2_with fail
    refine (first_any _ p m _ h).mono ?_
    rintro e w1 ⟨rfl, E1⟩
    have h1 := h.ext E1
    dsimp only [firstV, firstU, ne_eq, not_true_eq_false, decide_false]
    go_wp2
    go_returns
    exact ⟨rfl, h1, Ext.fr E1⟩
  | cons a r =>
    obtain ⟨x, b⟩ := a
    have hni := h.ni
    go_enter Try.func10, Try.ntmps10
    go_wp2_with fail
    refine (first_any _ p m _ h).mono ?_
    rintro e w1 ⟨rfl, E1⟩
    have h1 := h.ext E1
    have hfv : firstV ((x, b) :: r) = .tuple #[vU x, .bool true] := rfl
    rw [hfv]
    go_wp2_with fail
    refine (drop_any _ p m _ x h1).mono ?_
    rintro e w2 ⟨he, l', h2, hl', F2⟩
    rw [filter_tail hni] at hl'
    subst hl'
    generalize (decide (x ∈ ids ((x, b) :: l'))) = bb at he
    subst he
    go_wp2
    go_returns
    exact ⟨rfl, h2, (Ext.fr E1).trans F2⟩

theorem below_append {W w1 : World} {base e k : Nat} {v : Value} {xs : List Value} {tmp : Obj} (hrow : W.ownsRow base e 1 v k xs) (hb : base ≤ W.heap.size) (hgrow : (W.alloc tmp).grownBy w1 v.ownBlock) : Below base W w1 := by
  refine ((Below.refl base W).alloc hb tmp).grown hgrow (by simp; omega) fun j ej => ?_
  rcases hrow.2 with ⟨rfl, _⟩ | ⟨g, cap, cur, rfl, hb, _, _⟩
  · simp [Value.ownBlock] at ej
  · obtain rfl : g = j := by simpa [Value.ownBlock] using ej
    exact hb
theorem info64 : (Try.prog.info? 23).map (fun i => (i.zero, i.size, i.bytes)) = some (some (.int .u64 0), 1, 8) := by kernel_rfl
attribute [local go_sem] Oper.semAt_some in
set_option maxRecDepth 100000 in
set_option maxHeartbeats 1000000 in
theorem all_in (w : World) (p m : Nat) (l : List (UInt64 × Nat)) (h : Lane w p m l) (hlen : l.length ≤ 1000000) :
    CallsIn FW 9 Try.prog 17 #[pv p] w fun e w' => ∃ v, e = .returned v ∧ OwV vU w' w.heap.size 23 v (ids l) ∧ Ext w w' := by
  obtain ⟨i0, hi, hz0, hz1, hz2⟩ := info_parts info64
  refine callsIn_of_wp_marks Try.func17 rfl trivial ?_ rfl
  simp only [Try.ntmps17, List.size_toArray, List.length_cons, List.length_nil, Nat.reduceAdd, Nat.reduceSub, Array.replicate_succ, Array.replicate_zero, List.push_toArray, List.append_toArray, List.nil_append, List.cons_append]
  gi_wp2
  have hV : Ext w (w.alloc (.cells #[.slice none 0 0] 28)) := Ext.alloc _ _
  have hb0 : (w.alloc (.cells #[.slice none 0 0] 28)).heap[w.heap.size]? = some (.cells #[.slice none 0 0] 28 (0, 0)) := heap_alloc_new w _
  have hs : (w.alloc (.cells #[.slice none 0 0] 28)).heap.size = w.heap.size + 1 := by simp
  generalize w.alloc (.cells #[.slice none 0 0] 28) = V at *
  refine range_each (p := p) (xs := ids l) rfl rfl
    (fun pre W => ∃ v, W.heap[w.heap.size]? = some (.cells #[v] 28 (0, 0)) ∧ W.ownsRow (w.heap.size + 3) 23 1 v pre.length (pre.map vU) ∧ Ext w W)
    (fun pre W => False)
    (each_gives fun pre W hi => h.ext hi.choose_spec.2.2)
    (fun pre W l' o hl' hi => by
      obtain ⟨v, i1, i2, i3⟩ := hi
      refine ⟨v, (World.putObj_heap_other (by omega)).trans i1, ?_, ext_putObj i3 _ _ (by omega)⟩
      refine i2.kept (grownBy_putObj' W l' o) ?_
      rcases i2.2 with ⟨rfl, _⟩ | ⟨g, cap, cur, rfl, hbg, hgb, _⟩
      · exact .inl rfl
      · refine .inr fun e' => ?_
        obtain rfl : g = l' := by simpa [Value.ownBlock] using e'
        omega)
    (fun pre W l' o hl' hi => hi.elim)
    (fun o1 o2 => ⟨_, (Ext.alloc _ _).obj ((Ext.alloc _ _).obj hb0), World.ownsRow_nil _ _ _ _, (hV.trans (Ext.alloc _ _)).trans (Ext.alloc _ _)⟩)
    (fun x => { tmps := #[pv p, undef, .slice none 0 0, .pointer (some ⟨w.heap.size, 0, none⟩), vU x, pv p, .func (.func 21) #[pv p] #[], vU x, undef, undef, undef, undef, undef], defers := [] }) ?assign ?body ?done ?stop
  case assign =>
    intro l' x W K hK
    gi_wp2
    exact hK
  case body =>
    rintro l' pre x W hl' hlt ⟨v, i1, hrow, i3⟩ hpre
    obtain ⟨c0, f0⟩ := box1 i1
    have hplen : pre.length + 1 ≤ l.length := by
      have := hpre.length_le
      simpa using this
    gi_wp2_with (gi_at_builtin; refine wpListIn_append_own _ rfl _ _ 28 rfl (w.heap.size + 3) 23 i0 (.int .u64 0) 1 8 Try.underlying28 hi hz0 hz1 hz2 rfl (by decide) _ _ _ rfl (hrow.alloc _) ⟨W.heap.size, 0, none⟩ 1 1 [vU x] rfl rfl (cell_one_new _ _ _) (by simp [Value.oneCell']) (by simp [maxLen]; omega) (by omega) (by simp; omega) ?_; intro v' w1 hown' hgrow _; obtain ⟨g', cap', rfl⟩ := ownsRow_succ hown'; have hbl := below_append hrow (by omega) hgrow; have i1' := (hbl.block w.heap.size (by omega)).trans i1; have hc1 := (box1 i1').1; have hf1 := (box1 i1').2)
    have hO : OwV vU w1 (w.heap.size + 3) 23 (.slice (some ⟨g', 0, none⟩) (pre.length + 1) cap') (pre ++ [x]) := by unfold OwV; simpa using hown'
    have hg' := hO.block
    have hO2 := hO.setOther ⟨w.heap.size, 0, none⟩ (.slice (some ⟨g', 0, none⟩) (pre.length + 1) cap') (by dsimp only; omega)
    have hE2 : Ext w w1 := Below.trans i3 (hbl.mono (by omega))
    have hE3 : Ext w (w1.setCell ⟨w.heap.size, 0, none⟩ (.slice (some ⟨g', 0, none⟩) (pre.length + 1) cap')) := Below.setCell hE2 (by dsimp only; omega) _
    refine ⟨⟨?_, ?_⟩, _, box1_set _ i1', ?_, hE3⟩
    · exact (heap_setCell_other _ _ _ _ (by dsimp only; omega)).trans (hbl.block l' (by omega))
    · exact (heap_setCell_other _ _ _ _ (by dsimp only; omega)).trans (hbl.block _ (by omega))
    · simpa [OwV] using hO2
  case done =>
    rintro W ⟨v, i1, hrow, i3⟩ hK
    obtain ⟨c0, f0⟩ := box1 i1
    gi_wp2
    refine ⟨by simp, .inl ⟨_, _, rfl, run_takeDeferred hK, ?_⟩⟩
    exact ⟨_, results_tmp rfl _ _ _, v, rfl, owns_mono (ownsRow_putObj hrow _ hK rfl) (by omega), ext_putObj i3 _ _ (by omega)⟩
  case stop =>
    rintro pre W _ h _
    exact h.elim
theorem all_any (w : World) (p m : Nat) (l : List (UInt64 × Nat)) (h : Lane w p m l) (hlen : l.length ≤ 1000000) :
    Calls Try.prog 17 #[pv p] w fun e w' => ∃ v, e = .returned v ∧ OwV vU w' w.heap.size 23 v (ids l) ∧ Ext w w' := callsIn_wide.1 (all_in w p m l h hlen)
end Go.Proofs.Ytlnghgalmhmegaa
