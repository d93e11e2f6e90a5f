/- Package lane: New, Has, Len, Put. -/
import Derived.Test.YtlnghgalmhmegaaLanM
import Derived.Carry
import Derived.Deep.QuietTactic
import Derived.BigQuiet
import Derived.Handy
set_option linter.unusedSimpArgs false
set_option linter.unusedVariables false
namespace Go.Proofs.Ytlnghgalmhmegaa
open Go Go.RowKit Go.Tum Go.ChangeMaps

abbrev pv (b : Nat) : Value := .pointer (some ⟨b, 0, none⟩)
theorem lk3 {w : World} {b : Nat} {p q s : Value} {ty : TypeId} (h : w.heap[b]? = some (.cells #[p, q, s] ty (0, 0))) :
    w.cell? ⟨b, 0, none⟩ = some p ∧ w.cell? ⟨b, 1, none⟩ = some q ∧ w.cell? ⟨b, 2, none⟩ = some s ∧ w.frozen? ⟨b, 0, none⟩ = false ∧ w.frozen? ⟨b, 1, none⟩ = false ∧ w.frozen? ⟨b, 2, none⟩ = false := by
  refine ⟨by rw [cell_of_row _ _ _ _ _ _ h]; rfl, by rw [cell_of_row _ _ _ _ _ _ h]; rfl, by rw [cell_of_row _ _ _ _ _ _ h]; rfl, by simp [World.frozen?, h], by simp [World.frozen?, h], by simp [World.frozen?, h]⟩

theorem new_any (w : World) : Calls Try.prog 7 #[] w fun e w' => ∃ p m, e = .returned (pv p) ∧ Lane w' p m [] ∧ Ext w w' ∧ w.heap.size ≤ p ∧ w.heap.size ≤ m := by
  have hmm := @run_makeMap Try.prog
  go_enter Try.func7, Try.ntmps7
  go_wp2
  go_ret
  refine ⟨w.heap.size + 1, w.heap.size, rfl, ⟨?_, ?_, trivial, by simp, by simp⟩, (Ext.alloc _ _).trans (Ext.alloc _ _), by omega, by omega⟩
  · have := heap_alloc_new (w.alloc (.map #[] 0)) (laneO w.heap.size [])
    rw [World.size_alloc] at this
    exact this
  · exact (PM.made w).fr (S := []) (Ext.fr (Ext.alloc _ _)) (by simp)

theorem has_any (w : World) (p m : Nat) (l : List (UInt64 × Nat)) (x : UInt64) (h : Lane w p m l) :
    Calls Try.prog 18 #[pv p, vU x] w fun e w' => e = .returned (.bool (decide (x ∈ ids l))) ∧ w = w' := by
  obtain ⟨c0, c1, c2, -⟩ := lk3 h.hd
  have hlk := h.mp.look x
  cases hx : l.lookup x with
  | none =>
    rw [hx] at hlk
    have hn : decide (x ∈ ids l) = false := by simpa using lookup_none.1 hx
    have HN := hid hn
    simp only [ptr] at hlk
    clear hx hn c1 c2
    go_enter Try.func18, Try.ntmps18
    go_wp2
    go_ret
    exact ⟨by rw [HN.out]; rfl, rfl⟩
  | some b =>
    rw [hx] at hlk
    have hn : decide (x ∈ ids l) = true := by
      rw [decide_eq_true_eq]
      refine Classical.byContradiction fun h2 => ?_
      rw [lookup_none.2 h2] at hx; cases hx
    have HN := hid hn
    simp only [ptr] at hlk
    clear hx hn c1 c2
    go_enter Try.func18, Try.ntmps18
    go_wp2
    go_ret
    exact ⟨by rw [HN.out]; rfl, rfl⟩

theorem llen_any (w : World) (p m : Nat) (l : List (UInt64 × Nat)) (h : Lane w p m l) :
    Calls Try.prog 20 #[pv p] w fun e w' => e = .returned (.int .i64 (l.length : Nat)) ∧ w = w' := by
  obtain ⟨c0, c1, c2, -⟩ := lk3 h.hd
  have hlk := h.mp.len
  clear c1 c2
  go_enter Try.func20, Try.ntmps20
  go_wp2
  go_ret
  exact ⟨rfl, rfl⟩

theorem lane_end {w1 w' : World} {p m : Nat} {l' : List (UInt64 × Nat)} (hT : w1.mapTurned w' m) (hp : p ≠ m) (hne : ∀ q ∈ l', q.2 ≠ m) (hd : w1.heap[p]? = some (laneO m l')) (hm : PM w' m l') (hc : Ch w1 none l' none)
    (h1 : (l'.map (·.1)).Nodup) (h2 : (l'.map (·.2)).Nodup) : Lane w' p m l' := by
  have k := fr_turned (S := [m]) hT (by simp)
  exact ⟨(k.block p (Array.getElem?_eq_some_iff.1 hd).1 (by simpa using hp)).trans hd, hm, hc.fr k (fun q hq => by simpa using hne q hq), h1, h2⟩

def PutP (w : World) (p m : Nat) (l : List (UInt64 × Nat)) (x : UInt64) (e : Ending) (w' : World) : Prop :=
  e = .returned (.bool (decide (x ∉ ids l))) ∧ ∃ l', Lane w' p m l' ∧ ids l' = (if x ∈ ids l then ids l else ids l ++ [x]) ∧ Fr (Bl p m l) w w' ∧ (∀ q ∈ l', q ∈ l ∨ w.heap.size ≤ q.2)

set_option maxHeartbeats 1000000 in
theorem put_any (w : World) (p m : Nat) (l : List (UInt64 × Nat)) (x : UInt64) (h : Lane w p m l) (hl : l.length ≤ 1000000) :
    Calls Try.prog 8 #[pv p, vU x] w (PutP w p m l x) := by
  have H := hid h
  have hch := has_any w p m l x h
  by_cases hx : x ∈ ids l
  · rw [decide_eq_true hx] at hch
    have HX := hid hx
    clear h hx
    go_enter Try.func8, Try.ntmps8
    go_wp2_with fail
    refine hch.mono ?_
    rintro e w1 ⟨rfl, rfl⟩
    clear hch
    go_wp2
    go_ret
    unfold PutP
    have hx := HX.out
    exact ⟨by rw [show decide (x ∉ ids l) = false by simpa using hx]; rfl, l, H.out, by rw [if_pos hx], Fr.refl _ _, fun q hq => .inl hq⟩
  · rw [decide_eq_false hx] at hch
    have HX := hid hx
    have hlk := lookup_none.2 hx
    have hfresh : ∀ q ∈ l, q.2 ≠ w.heap.size := fun q hq e => by
      have := h.lt q.2 (by simp; exact .inr (.inr ⟨q.1, hq⟩))
      omega
    have hpl : p < w.heap.size := h.lt p (by simp)
    have hml : m < w.heap.size := h.lt m (by simp)
    have hpm := h.p_ne_m
    have hmne := h.m_ne
    have hpne := h.p_ne
    have hni := h.ni
    have hnb := h.nb
    clear hx
    rcases List.eq_nil_or_concat l with hl0 | ⟨l0, ⟨y, c⟩, hl0⟩
    · subst hl0
      obtain ⟨c0, c1, c2, f0, f1, f2⟩ := lk3 h.hd
      simp only [lsB, hdB, ptr] at c0 c1 c2
      obtain ⟨V, hV⟩ : ∃ V, ((w.setCell ⟨p, 1, none⟩ (pv w.heap.size)).setCell ⟨p, 2, none⟩ (pv w.heap.size)).alloc (.cells #[vU x, .pointer none, .pointer none] 48) = V := ⟨_, rfl⟩
      have hfr : Fr [p, m] w V := by
        rw [← hV]
        exact ((fr_setCell (S := [p, m]) w ⟨p, 1, none⟩ (pv w.heap.size) (by simp)).trans (fr_setCell _ ⟨p, 2, none⟩ (pv w.heap.size) (by simp))).trans (Ext.fr (Ext.alloc _ _))
      have hfr2 : Fr [p] w V := by
        rw [← hV]
        exact ((fr_setCell (S := [p]) w ⟨p, 1, none⟩ (pv w.heap.size) (by simp)).trans (fr_setCell _ ⟨p, 2, none⟩ (pv w.heap.size) (by simp))).trans (Ext.fr (Ext.alloc _ _))
      obtain ⟨w', hrun, hPM, hT⟩ := (h.mp.fr hfr2 (by simpa using hpm.symm)).store (by simp) hlk w.heap.size
      have hd1 : V.heap[p]? = some (laneO m [(x, w.heap.size)]) := by
        rw [← hV]
        refine (Ext.alloc _ _).obj ?_
        have := Go.Joins.block_setCell (i := 2) (Go.Joins.block_setCell (i := 1) h.hd (pv w.heap.size)) (pv w.heap.size)
        simpa [laneO, hdB, lsB, ptr] using this
      have hb1 : V.heap[w.heap.size]? = some (linkO x none none) := by
        rw [← hV]
        have := heap_alloc_new ((w.setCell ⟨p, 1, none⟩ (pv w.heap.size)).setCell ⟨p, 2, none⟩ (pv w.heap.size)) (.cells #[vU x, .pointer none, .pointer none] 48)
        simpa [linkO, ptr] using this
      rw [← hV] at hrun
      have HF := hid (And.intro hPM (And.intro hT (And.intro hd1 (And.intro hb1 hfr))))
      clear hPM hT hd1 hb1 hfr hfr2 hV
      go_enter Try.func8, Try.ntmps8
      go_wp2_with fail
      refine hch.mono ?_
      rintro e w1 ⟨rfl, rfl⟩
      clear hch
      go_wp2
      go_ret
      unfold PutP
      obtain ⟨hPM, hT, hd1, hb1, hfr⟩ := HF.out
      refine ⟨rfl, [(x, w.heap.size)], lane_end hT hpm (by simpa using Nat.ne_of_gt hml) hd1 (by simpa using hPM) ⟨by simpa [hdB] using hb1, trivial⟩ (by simp) (by simp), by simp, (hfr.trans (fr_turned hT (by simp))), by simp⟩
    · rw [List.concat_eq_append] at hl0
      subst hl0
      have hls : lsB (l0 ++ [(y, c)]) = some c := lsB_snoc l0 y c
      obtain ⟨c0, c1, c2, f0, f1, f2⟩ := lk3 h.hd
      rw [hls] at c2
      simp only [ptr] at c2
      have hcp : c ≠ p := hpne (y, c) (by simp)
      have hcm : c ≠ m := hmne (y, c) (by simp)
      have hcl : c < w.heap.size := h.lt c (by simp)
      have hch2 := Ch.append.1 h.ch
      obtain ⟨k0, k1, k2, g0, g1, g2⟩ := lk3 hch2.2.1
      simp only [hdB, Option.or_none, Option.none_or, ptr] at k2
      have hcnd : ∀ q ∈ l0, q.2 ≠ c := by
        intro q hq e
        rw [List.map_append, List.map_cons, List.map_nil, List.nodup_append] at hnb
        exact hnb.2.2 q.2 (List.mem_map.2 ⟨q, hq, rfl⟩) c (by simp) e
      obtain ⟨V, hV⟩ : ∃ V, ((w.setCell ⟨c, 2, none⟩ (pv w.heap.size)).setCell ⟨p, 2, none⟩ (pv w.heap.size)).alloc (.cells #[vU x, pv c, .pointer none] 48) = V := ⟨_, rfl⟩
      have hfr : Fr (Bl p m (l0 ++ [(y, c)])) w V := by
        rw [← hV]
        exact ((fr_setCell w ⟨c, 2, none⟩ (pv w.heap.size) (by simp)).trans (fr_setCell _ ⟨p, 2, none⟩ (pv w.heap.size) (by simp))).trans (Ext.fr (Ext.alloc _ _))
      have hfr2 : Fr [c, p] w V := by
        rw [← hV]
        exact ((fr_setCell w ⟨c, 2, none⟩ (pv w.heap.size) (by simp)).trans (fr_setCell _ ⟨p, 2, none⟩ (pv w.heap.size) (by simp))).trans (Ext.fr (Ext.alloc _ _))
      obtain ⟨w', hrun, hPM, hT⟩ := (h.mp.fr hfr2 (by simp; exact ⟨hcm.symm, hpm.symm⟩)).store (by omega) hlk w.heap.size
      have hd1 : V.heap[p]? = some (laneO m ((l0 ++ [(y, c)]) ++ [(x, w.heap.size)])) := by
        rw [← hV]
        refine (Ext.alloc _ _).obj ?_
        have h1 : (w.setCell ⟨c, 2, none⟩ (pv w.heap.size)).heap[p]? = _ := (heap_setCell_other _ _ _ _ (by dsimp only; exact hcp.symm)).trans h.hd
        have := Go.Joins.block_setCell (i := 2) h1 (pv w.heap.size)
        have e1 : hdB (l0 ++ [(y, c)] ++ [(x, w.heap.size)]) = hdB (l0 ++ [(y, c)]) := by cases l0 <;> rfl
        unfold laneO
        rw [e1, lsB_snoc]
        simpa [ptr] using this
      have hb1 : V.heap[w.heap.size]? = some (linkO x (some c) none) := by
        rw [← hV]
        have := heap_alloc_new ((w.setCell ⟨c, 2, none⟩ (pv w.heap.size)).setCell ⟨p, 2, none⟩ (pv w.heap.size)) (.cells #[vU x, pv c, .pointer none] 48)
        simpa [linkO, ptr] using this
      have hc1 : Ch V none (l0 ++ [(y, c)]) (some w.heap.size) := by
        rw [← hV]
        have h1 := Ch.setBehind (some w.heap.size) h.ch hcnd
        have h2 := Ch.fr (fr_setCell (S := [p]) _ ⟨p, 2, none⟩ (pv w.heap.size) (by simp)) h1 (fun q hq => by simpa using hpne q hq)
        exact Ch.fr (S := []) (Ext.fr (Ext.alloc _ _)) h2 (by simp)
      rw [← hV] at hrun
      have hni2 : (((l0 ++ [(y, c)]) ++ [(x, w.heap.size)]).map (·.1)).Nodup := by
        rw [List.map_append, List.nodup_append]
        refine ⟨hni, by simp, fun a ha b hb e => ?_⟩
        simp only [List.map_cons, List.map_nil, List.mem_singleton] at hb
        subst hb; subst e
        exact HX.out ha
      have hnb2 : (((l0 ++ [(y, c)]) ++ [(x, w.heap.size)]).map (·.2)).Nodup := by
        rw [List.map_append, List.nodup_append]
        refine ⟨hnb, by simp, fun a ha b hb e => ?_⟩
        simp only [List.map_cons, List.map_nil, List.mem_singleton] at hb
        subst hb; subst e
        obtain ⟨q, hq, e⟩ := List.mem_map.1 ha
        exact hfresh q hq e
      have hmn2 : ∀ q ∈ (l0 ++ [(y, c)]) ++ [(x, w.heap.size)], q.2 ≠ m := by
        intro q hq
        rcases List.mem_append.1 hq with hq | hq
        · exact hmne q hq
        · simp at hq; subst hq; exact Nat.ne_of_gt hml
      have HF := hid (And.intro hPM (And.intro hT (And.intro hd1 (And.intro hb1 (And.intro hc1 (And.intro hfr (And.intro hni2 (And.intro hnb2 hmn2))))))))
      clear hPM hT hd1 hb1 hfr hfr2 hV hc1 hni2 hnb2 hmn2 hnb hni hmne hpne hcnd hfresh hch2 hls
      go_enter Try.func8, Try.ntmps8
      go_wp2_with fail
      refine hch.mono ?_
      rintro e w1 ⟨rfl, rfl⟩
      clear hch
      go_wp2
      go_ret
      unfold PutP
      obtain ⟨hPM, hT, hd1, hb1, hc1, hfr, hni2, hnb2, hmn2⟩ := HF.out
      have hx := HX.out
      refine ⟨by rw [decide_eq_true hx]; rfl, _, lane_end hT hpm hmn2 hd1 hPM (Ch.append.2 ⟨by simpa [hdB] using hc1, by simpa [hdB, lsB_snoc] using hb1, trivial⟩) hni2 hnb2, by rw [if_neg hx]; simp, (hfr.trans (fr_turned hT (by simp))), fun q hq => ?_⟩
      rcases List.mem_append.1 hq with hq | hq
      · exact .inl hq
      · simp at hq; subst hq; exact .inr (Nat.le_refl _)
end Go.Proofs.Ytlnghgalmhmegaa
