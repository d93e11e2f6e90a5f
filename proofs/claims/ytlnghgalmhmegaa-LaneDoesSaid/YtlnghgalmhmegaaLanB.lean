/- Package lane: Drop. -/
import Derived.Test.YtlnghgalmhmegaaLanA
set_option linter.unusedSimpArgs false
set_option linter.unusedVariables false
namespace Go.Proofs.Ytlnghgalmhmegaa
open Go Go.RowKit Go.Tum Go.ChangeMaps

theorem lsB_append : ∀ (l r : List (UInt64 × Nat)), lsB (l ++ r) = (lsB r).or (lsB l)
  | [], r => by simp [lsB]
  | p :: l, r => by
    simp only [List.cons_append, lsB, lsB_append l r]
    cases lsB r <;> simp
theorem lookup_split : ∀ {l : List (UInt64 × Nat)} {x : UInt64} {b : Nat}, l.lookup x = some b → ∃ l1 l2, l = l1 ++ (x, b) :: l2
  | [], _, _, h => by simp at h
  | (a, c) :: r, x, b, h => by
    rw [lk_cons] at h
    by_cases e : x = a
    · subst e; rw [if_pos rfl] at h; cases h
      exact ⟨[], r, rfl⟩
    · rw [if_neg e] at h
      obtain ⟨l1, l2, e2⟩ := lookup_split h
      exact ⟨(a, c) :: l1, l2, by rw [e2]; rfl⟩
def DropP (w : World) (p m : Nat) (l : List (UInt64 × Nat)) (x : UInt64) (e : Ending) (w' : World) : Prop :=
  e = .returned (.bool (decide (x ∈ ids l))) ∧ ∃ l', Lane w' p m l' ∧ l' = l.filter (fun q => q.1 != x) ∧ Fr (Bl p m l) w w'

set_option maxHeartbeats 1000000 in
theorem drop_any (w : World) (p m : Nat) (L : List (UInt64 × Nat)) (x : UInt64) (h : Lane w p m L) :
    Calls Try.prog 12 #[pv p, vU x] w (DropP w p m L x) := by
  have hlk := h.mp.look x
  have H := hid h
  cases hx : L.lookup x with
  | none =>
    rw [hx] at hlk
    have hn := lookup_none.1 hx
    have HF := hid (show L.filter (fun q => q.1 != x) = L by
      rw [List.filter_eq_self]
      intro q hq
      have : q.1 ≠ x := fun e => hn (List.mem_map.2 ⟨q, hq, e⟩)
      simpa using this)
    have HN := hid hn
    simp only [ptr] at hlk
    obtain ⟨c0, c1, c2, -⟩ := lk3 h.hd
    clear hx hn c1 c2
    go_enter Try.func12, Try.ntmps12
    go_wp2
    go_ret
    unfold DropP
    exact ⟨by rw [decide_eq_false HN.out]; rfl, L, H.out, HF.out.symm, Fr.refl _ _⟩
  | some b =>
    rw [hx] at hlk
    simp only [ptr] at hlk
    obtain ⟨l1, l2, hL⟩ := lookup_split hx
    have hmem : x ∈ ids L := by rw [hL]; simp
    have hpm := h.p_ne_m
    have hpne := h.p_ne
    have hmne := h.m_ne
    have hni := h.ni
    have hnb := h.nb
    have hA : Ch w none l1 (some b) ∧ w.heap[b]? = some (linkO x ((lsB l1).or none) ((hdB l2).or none)) ∧ Ch w (some b) l2 none := by
      have := h.ch
      rw [hL] at this
      have := Ch.append.1 this
      exact ⟨by simpa [hdB] using this.1, this.2.1, this.2.2⟩
    have hbp : b ≠ p := hpne (x, b) (by rw [hL]; simp)
    have hbm : b ≠ m := hmne (x, b) (by rw [hL]; simp)
    rw [hL] at hni hnb hpne hmne
    simp only [List.map_append, List.map_cons, List.nodup_append, List.nodup_cons] at hni hnb
    have hdis : ∀ q ∈ l1, q.2 ≠ b ∧ ∀ q2 ∈ l2, q.2 ≠ q2.2 := fun q hq => ⟨hnb.2.2 q.2 (List.mem_map.2 ⟨q, hq, rfl⟩) b (by simp), fun q2 hq2 => hnb.2.2 q.2 (List.mem_map.2 ⟨q, hq, rfl⟩) q2.2 (List.mem_cons_of_mem _ (List.mem_map.2 ⟨q2, hq2, rfl⟩))⟩
    have hdis2 : ∀ q ∈ l2, q.2 ≠ b := fun q hq e => hnb.2.1.1 (List.mem_map.2 ⟨q, hq, e⟩)
    have hfil : (l1 ++ (x, b) :: l2).filter (fun q => q.1 != x) = l1 ++ l2 := by
      rw [List.filter_append, List.filter_cons]
      have e1 : l1.filter (fun q => q.1 != x) = l1 := by
        rw [List.filter_eq_self]; intro q hq
        have : q.1 ≠ x := hni.2.2 q.1 (List.mem_map.2 ⟨q, hq, rfl⟩) x (by simp)
        simpa using this
      have e2 : l2.filter (fun q => q.1 != x) = l2 := by
        rw [List.filter_eq_self]; intro q hq
        have : q.1 ≠ x := fun e => hni.2.1.1 (List.mem_map.2 ⟨q, hq, e⟩)
        simpa using this
      rw [e1, e2]; simp
    have HN1 := hid (show ((l1 ++ l2).map (·.1)).Nodup by
      rw [List.map_append, List.nodup_append]
      exact ⟨hni.1, hni.2.1.2, fun a ha c hc => hni.2.2 a ha c (List.mem_cons_of_mem _ hc)⟩)
    have HN2 := hid (show ((l1 ++ l2).map (·.2)).Nodup by
      rw [List.map_append, List.nodup_append]
      exact ⟨hnb.1, hnb.2.1.2, fun a ha c hc => hnb.2.2 a ha c (List.mem_cons_of_mem _ hc)⟩)
    have HM := hid (show ∀ q ∈ l1 ++ l2, q.2 ≠ m from fun q hq => hmne q (by
      rcases List.mem_append.1 hq with h | h
      · exact List.mem_append.2 (.inl h)
      · exact List.mem_append.2 (.inr (List.mem_cons_of_mem _ h))))
    have HX := hid hmem
    have HFL := hid (show L.filter (fun q => q.1 != x) = l1 ++ l2 by rw [hL]; exact hfil)
    have hnd1 : ∀ l0 : List (UInt64 × Nat), ∀ y c, l1 = l0 ++ [(y, c)] → ∀ q ∈ l0, q.2 ≠ c := by
      intro l0 y c e q hq
      have := hnb.1
      rw [e, List.map_append, List.nodup_append] at this
      exact this.2.2 q.2 (List.mem_map.2 ⟨q, hq, rfl⟩) c (by simp)
    have hnd2 : ∀ z d r, l2 = (z, d) :: r → ∀ q ∈ r, q.2 ≠ d := by
      intro z d r e q hq e2
      have := hnb.2.1.2
      rw [e, List.map_cons, List.nodup_cons] at this
      exact this.1 (List.mem_map.2 ⟨q, hq, e2⟩)
    clear hni hnb hmem
    rcases List.eq_nil_or_concat l1 with h1 | ⟨l0, ⟨y, c⟩, h1⟩
    · subst h1
      cases l2 with
      | nil =>
        clear hnd1 hnd2
        have hnd1 : True := trivial
        have hnd2 : True := trivial
        obtain ⟨c0, c1, c2, f0, f1, f2⟩ := lk3 h.hd
        obtain ⟨k0, k1, k2, g0, g1, g2⟩ := lk3 hA.2.1
        simp only [lsB, hdB, Option.or_none, Option.none_or, Option.some_or, ptr] at k1 k2
        obtain ⟨V, hV⟩ : ∃ V, (((w.setCell ⟨p, 1, none⟩ (.pointer none)).setCell ⟨p, 2, none⟩ (.pointer none))) = V := ⟨_, rfl⟩
        have hVd : Ext ((w.setCell ⟨p, 1, none⟩ (.pointer none)).setCell ⟨p, 2, none⟩ (.pointer none)) V := by rw [← hV]; exact Ext.refl _
        have hfr : Fr (Bl p m L) w V := by
          exact ((fr_setCell w ⟨p, 1, none⟩ _ (by rw [hL]; simp)).trans (fr_setCell _ ⟨p, 2, none⟩ _ (by rw [hL]; simp))).trans (Ext.fr hVd)
        have hfr2 : Fr [p, p] w V := by
          exact ((fr_setCell w ⟨p, 1, none⟩ _ (by simp)).trans (fr_setCell _ ⟨p, 2, none⟩ _ (by simp))).trans (Ext.fr hVd)
        have hPV := h.mp.fr hfr2 (by simp [hpm.symm, hpm.symm])
        have p1 : (w.setCell ⟨p, 1, none⟩ (.pointer none)).heap[p]? = _ := Go.Joins.block_setCell (i := 1) h.hd (.pointer none)
        have p2 : ((w.setCell ⟨p, 1, none⟩ (.pointer none)).setCell ⟨p, 2, none⟩ (.pointer none)).heap[p]? = _ := Go.Joins.block_setCell (i := 2) p1 (.pointer none)
        have hd1 : V.heap[p]? = some (laneO m ([] ++ [])) := by
          refine (hVd.obj p2).trans ?_
          rw [hL]
          simp [laneO, hdB_append, lsB_append, hdB, lsB, ptr]
        have a1 : Ch (w.setCell ⟨p, 1, none⟩ (.pointer none)) none [] (none) := trivial
        have b2 : Ch ((w.setCell ⟨p, 1, none⟩ (.pointer none)).setCell ⟨p, 2, none⟩ (.pointer none)) (none) [] none := trivial
        have a2 : Ch ((w.setCell ⟨p, 1, none⟩ (.pointer none)).setCell ⟨p, 2, none⟩ (.pointer none)) none [] (none) := trivial
        have hch1 : Ch V none ([] ++ []) none := by
          refine Ch.fr (S := []) (Ext.fr hVd) ?_ (by simp)
          refine Ch.append.2 ⟨by simpa [hdB] using a2, by simpa [lsB] using b2⟩
        rw [hL] at hPV
        obtain ⟨w', hrun, hPM, hT⟩ := hPV.del (by rw [← hL, hx]; rfl) (by rw [hfil]; simp <;> omega) 0
        rw [← hV] at hrun
        rw [hfil] at hPM
        have HF := hid (And.intro hPM (And.intro hT (And.intro hd1 (And.intro hch1 hfr))))
        clear hPM hT hd1 hch1 hfr hfr2 hPV p1 p2 a1 a2 b2 hV hVd hA hdis hdis2 hnd1 hnd2
        go_enter Try.func12, Try.ntmps12
        go_wp2
        skip
        go_ret
        unfold DropP
        obtain ⟨hPM, hT, hd1, hch1, hfr⟩ := HF.out
        exact ⟨by rw [decide_eq_true HX.out]; rfl, _, lane_end hT hpm (fun q hq => HM.out q hq) hd1 hPM hch1 HN1.out HN2.out, by rw [HFL.out], (hfr.trans (fr_turned hT (by simp)))⟩
      | cons zd r =>
        obtain ⟨z, d⟩ := zd
        replace hnd2 := hnd2 z d r rfl
        have hdp : d ≠ p := hpne (z, d) (by simp)
        have hdm : d ≠ m := hmne (z, d) (by simp)
        have hbd : b ≠ d := fun e => hdis2 (z, d) (by simp) e.symm
        obtain ⟨s0, s1, s2, t0, t1, t2⟩ := lk3 hA.2.2.1
        have hdnd : ∀ q ∈ r, q.2 ≠ d := fun q hq => hnd2 q hq
        obtain ⟨c0, c1, c2, f0, f1, f2⟩ := lk3 h.hd
        obtain ⟨k0, k1, k2, g0, g1, g2⟩ := lk3 hA.2.1
        simp only [lsB, hdB, Option.or_none, Option.none_or, Option.some_or, ptr] at k1 k2
        obtain ⟨V, hV⟩ : ∃ V, (((w.setCell ⟨p, 1, none⟩ (pv d)).setCell ⟨d, 1, none⟩ (.pointer none))).drew = V := ⟨_, rfl⟩
        have hVd : Ext ((w.setCell ⟨p, 1, none⟩ (pv d)).setCell ⟨d, 1, none⟩ (.pointer none)) V := by rw [← hV]; exact Ext.drew _
        have hfr : Fr (Bl p m L) w V := by
          exact ((fr_setCell w ⟨p, 1, none⟩ _ (by rw [hL]; simp)).trans (fr_setCell _ ⟨d, 1, none⟩ _ (by rw [hL]; simp))).trans (Ext.fr hVd)
        have hfr2 : Fr [p, d] w V := by
          exact ((fr_setCell w ⟨p, 1, none⟩ _ (by simp)).trans (fr_setCell _ ⟨d, 1, none⟩ _ (by simp))).trans (Ext.fr hVd)
        have hPV := h.mp.fr hfr2 (by simp [hpm.symm, hdm.symm])
        have p1 : (w.setCell ⟨p, 1, none⟩ (pv d)).heap[p]? = _ := Go.Joins.block_setCell (i := 1) h.hd (pv d)
        have p2 : ((w.setCell ⟨p, 1, none⟩ (pv d)).setCell ⟨d, 1, none⟩ (.pointer none)).heap[p]? = _ := (heap_setCell_other _ _ _ _ (by dsimp only; exact hdp.symm)).trans p1
        have hd1 : V.heap[p]? = some (laneO m ([] ++ ((z, d) :: r))) := by
          refine (hVd.obj p2).trans ?_
          rw [hL]
          simp [laneO, hdB_append, lsB_append, hdB, lsB, ptr]
        have a1 : Ch (w.setCell ⟨p, 1, none⟩ (pv d)) none [] (some d) := trivial
        have b1 : Ch (w.setCell ⟨p, 1, none⟩ (pv d)) (some b) ((z, d) :: r) none := Ch.fr (fr_setCell (S := [p]) _ _ _ (by simp)) hA.2.2 (fun q hq => by
          rw [List.mem_singleton]
          exact hpne q (by simp at hq ⊢; rcases hq with rfl | hq <;> simp_all))
        have b2 : Ch ((w.setCell ⟨p, 1, none⟩ (pv d)).setCell ⟨d, 1, none⟩ (.pointer none)) (none) ((z, d) :: r) none := Ch.setAhead (none) b1 hdnd
        have a2 : Ch ((w.setCell ⟨p, 1, none⟩ (pv d)).setCell ⟨d, 1, none⟩ (.pointer none)) none [] (some d) := trivial
        have hch1 : Ch V none ([] ++ ((z, d) :: r)) none := by
          refine Ch.fr (S := []) (Ext.fr hVd) ?_ (by simp)
          refine Ch.append.2 ⟨by simpa [hdB] using a2, by simpa [lsB] using b2⟩
        rw [hL] at hPV
        obtain ⟨w', hrun, hPM, hT⟩ := hPV.del (by rw [← hL, hx]; rfl) (by rw [hfil]; simp <;> omega) 0
        rw [← hV] at hrun
        rw [hfil] at hPM
        have HF := hid (And.intro hPM (And.intro hT (And.intro hd1 (And.intro hch1 hfr))))
        clear hPM hT hd1 hch1 hfr hfr2 hPV p1 p2 a1 a2 b2 hV hVd b1 hA hdis hdis2 hnd1 hnd2 hdnd
        go_enter Try.func12, Try.ntmps12
        go_wp2
        go_region
        go_wp2
        go_ret
        unfold DropP
        obtain ⟨hPM, hT, hd1, hch1, hfr⟩ := HF.out
        exact ⟨by rw [decide_eq_true HX.out]; rfl, _, lane_end hT hpm (fun q hq => HM.out q hq) hd1 hPM hch1 HN1.out HN2.out, by rw [HFL.out], (hfr.trans (fr_turned hT (by simp)))⟩
    · rw [List.concat_eq_append] at h1
      subst h1
      replace hnd1 := hnd1 l0 y c rfl
      cases l2 with
      | nil =>
        have hls : lsB (l0 ++ [(y, c)]) = some c := lsB_snoc l0 y c
        have hcp : c ≠ p := hpne (y, c) (by simp)
        have hcm : c ≠ m := hmne (y, c) (by simp)
        have hbc : b ≠ c := fun e => by
          have h1 := hdis (y, c) (by simp)
          exact h1.1 e.symm
        have hc1 := Ch.append.1 hA.1
        obtain ⟨r0, r1, r2, q0, q1, q2⟩ := lk3 hc1.2.1
        have hcnd : ∀ q ∈ l0, q.2 ≠ c := fun q hq => hnd1 q hq
        obtain ⟨c0, c1, c2, f0, f1, f2⟩ := lk3 h.hd
        obtain ⟨k0, k1, k2, g0, g1, g2⟩ := lk3 hA.2.1
        simp only [hls, hdB, Option.or_none, Option.none_or, Option.some_or, ptr] at k1 k2
        obtain ⟨V, hV⟩ : ∃ V, (((w.setCell ⟨c, 2, none⟩ (.pointer none)).setCell ⟨p, 2, none⟩ (pv c))).drew = V := ⟨_, rfl⟩
        have hVd : Ext ((w.setCell ⟨c, 2, none⟩ (.pointer none)).setCell ⟨p, 2, none⟩ (pv c)) V := by rw [← hV]; exact Ext.drew _
        have hfr : Fr (Bl p m L) w V := by
          exact ((fr_setCell w ⟨c, 2, none⟩ _ (by rw [hL]; simp)).trans (fr_setCell _ ⟨p, 2, none⟩ _ (by rw [hL]; simp))).trans (Ext.fr hVd)
        have hfr2 : Fr [c, p] w V := by
          exact ((fr_setCell w ⟨c, 2, none⟩ _ (by simp)).trans (fr_setCell _ ⟨p, 2, none⟩ _ (by simp))).trans (Ext.fr hVd)
        have hPV := h.mp.fr hfr2 (by simp [hcm.symm, hpm.symm])
        have p1 : (w.setCell ⟨c, 2, none⟩ (.pointer none)).heap[p]? = _ := (heap_setCell_other _ _ _ _ (by dsimp only; exact hcp.symm)).trans h.hd
        have p2 : ((w.setCell ⟨c, 2, none⟩ (.pointer none)).setCell ⟨p, 2, none⟩ (pv c)).heap[p]? = _ := Go.Joins.block_setCell (i := 2) p1 (pv c)
        have hd1 : V.heap[p]? = some (laneO m ((l0 ++ [(y, c)]) ++ [])) := by
          refine (hVd.obj p2).trans ?_
          rw [hL]
          cases l0 <;> simp [laneO, hdB_append, lsB_append, hdB, lsB, ptr]
        have a1 : Ch (w.setCell ⟨c, 2, none⟩ (.pointer none)) none (l0 ++ [(y, c)]) (none) := Ch.setBehind (none) hA.1 hcnd
        have b2 : Ch ((w.setCell ⟨c, 2, none⟩ (.pointer none)).setCell ⟨p, 2, none⟩ (pv c)) (some c) [] none := trivial
        have a2 : Ch ((w.setCell ⟨c, 2, none⟩ (.pointer none)).setCell ⟨p, 2, none⟩ (pv c)) none (l0 ++ [(y, c)]) (none) := Ch.fr (fr_setCell (S := [p]) _ _ _ (by simp)) a1 (fun q hq => by
          rw [List.mem_singleton]
          exact hpne q (by simp at hq ⊢; rcases hq with hq | rfl <;> simp_all))
        have hch1 : Ch V none ((l0 ++ [(y, c)]) ++ []) none := by
          refine Ch.fr (S := []) (Ext.fr hVd) ?_ (by simp)
          refine Ch.append.2 ⟨by simpa [hdB] using a2, by simpa [lsB, hls] using b2⟩
        rw [hL] at hPV
        obtain ⟨w', hrun, hPM, hT⟩ := hPV.del (by rw [← hL, hx]; rfl) (by rw [hfil]; simp <;> omega) 0
        rw [← hV] at hrun
        rw [hfil] at hPM
        have HF := hid (And.intro hPM (And.intro hT (And.intro hd1 (And.intro hch1 hfr))))
        clear hPM hT hd1 hch1 hfr hfr2 hPV p1 p2 a1 a2 b2 hV hVd hA hdis hdis2 hnd1 hnd2 hcnd hc1 hls
        go_enter Try.func12, Try.ntmps12
        go_wp2
        go_region
        go_wp2
        go_ret
        unfold DropP
        obtain ⟨hPM, hT, hd1, hch1, hfr⟩ := HF.out
        exact ⟨by rw [decide_eq_true HX.out]; rfl, _, lane_end hT hpm (fun q hq => HM.out q hq) hd1 hPM hch1 HN1.out HN2.out, by rw [HFL.out], (hfr.trans (fr_turned hT (by simp)))⟩
      | cons zd r =>
        obtain ⟨z, d⟩ := zd
        replace hnd2 := hnd2 z d r rfl
        have hls : lsB (l0 ++ [(y, c)]) = some c := lsB_snoc l0 y c
        have hcp : c ≠ p := hpne (y, c) (by simp)
        have hcm : c ≠ m := hmne (y, c) (by simp)
        have hbc : b ≠ c := fun e => by
          have h1 := hdis (y, c) (by simp)
          exact h1.1 e.symm
        have hc1 := Ch.append.1 hA.1
        obtain ⟨r0, r1, r2, q0, q1, q2⟩ := lk3 hc1.2.1
        have hcnd : ∀ q ∈ l0, q.2 ≠ c := fun q hq => hnd1 q hq
        have hdp : d ≠ p := hpne (z, d) (by simp)
        have hdm : d ≠ m := hmne (z, d) (by simp)
        have hbd : b ≠ d := fun e => hdis2 (z, d) (by simp) e.symm
        obtain ⟨s0, s1, s2, t0, t1, t2⟩ := lk3 hA.2.2.1
        have hdnd : ∀ q ∈ r, q.2 ≠ d := fun q hq => hnd2 q hq
        have hcd : c ≠ d := fun e => (hdis (y, c) (by simp)).2 (z, d) (by simp) e
        obtain ⟨c0, c1, c2, f0, f1, f2⟩ := lk3 h.hd
        obtain ⟨k0, k1, k2, g0, g1, g2⟩ := lk3 hA.2.1
        simp only [hls, hdB, Option.or_none, Option.none_or, Option.some_or, ptr] at k1 k2
        obtain ⟨V, hV⟩ : ∃ V, (((w.setCell ⟨c, 2, none⟩ (pv d)).setCell ⟨d, 1, none⟩ (pv c))).drew.drew = V := ⟨_, rfl⟩
        have hVd : Ext ((w.setCell ⟨c, 2, none⟩ (pv d)).setCell ⟨d, 1, none⟩ (pv c)) V := by rw [← hV]; exact (Ext.drew _).trans (Ext.drew _)
        have hfr : Fr (Bl p m L) w V := by
          exact ((fr_setCell w ⟨c, 2, none⟩ _ (by rw [hL]; simp)).trans (fr_setCell _ ⟨d, 1, none⟩ _ (by rw [hL]; simp))).trans (Ext.fr hVd)
        have hfr2 : Fr [c, d] w V := by
          exact ((fr_setCell w ⟨c, 2, none⟩ _ (by simp)).trans (fr_setCell _ ⟨d, 1, none⟩ _ (by simp))).trans (Ext.fr hVd)
        have hPV := h.mp.fr hfr2 (by simp [hcm.symm, hdm.symm])
        have p1 : (w.setCell ⟨c, 2, none⟩ (pv d)).heap[p]? = _ := (heap_setCell_other _ _ _ _ (by dsimp only; exact hcp.symm)).trans h.hd
        have p2 : ((w.setCell ⟨c, 2, none⟩ (pv d)).setCell ⟨d, 1, none⟩ (pv c)).heap[p]? = _ := (heap_setCell_other _ _ _ _ (by dsimp only; exact hdp.symm)).trans p1
        have hd1 : V.heap[p]? = some (laneO m ((l0 ++ [(y, c)]) ++ ((z, d) :: r))) := by
          refine (hVd.obj p2).trans ?_
          rw [hL]
          cases l0 <;> simp [laneO, hdB_append, lsB_append, hdB, lsB, ptr]
        have a1 : Ch (w.setCell ⟨c, 2, none⟩ (pv d)) none (l0 ++ [(y, c)]) (some d) := Ch.setBehind (some d) hA.1 hcnd
        have b1 : Ch (w.setCell ⟨c, 2, none⟩ (pv d)) (some b) ((z, d) :: r) none := Ch.fr (fr_setCell (S := [c]) _ _ _ (by simp)) hA.2.2 (fun q hq => by
          rw [List.mem_singleton]
          exact fun e => (hdis (y, c) (by simp)).2 q hq e.symm)
        have b2 : Ch ((w.setCell ⟨c, 2, none⟩ (pv d)).setCell ⟨d, 1, none⟩ (pv c)) (some c) ((z, d) :: r) none := Ch.setAhead (some c) b1 hdnd
        have a2 : Ch ((w.setCell ⟨c, 2, none⟩ (pv d)).setCell ⟨d, 1, none⟩ (pv c)) none (l0 ++ [(y, c)]) (some d) := Ch.fr (fr_setCell (S := [d]) _ _ _ (by simp)) a1 (fun q hq => by
          rw [List.mem_singleton]
          exact fun e => (hdis q hq).2 (z, d) (by simp) e)
        have hch1 : Ch V none ((l0 ++ [(y, c)]) ++ ((z, d) :: r)) none := by
          refine Ch.fr (S := []) (Ext.fr hVd) ?_ (by simp)
          refine Ch.append.2 ⟨by simpa [hdB] using a2, by simpa [lsB, hls] using b2⟩
        rw [hL] at hPV
        obtain ⟨w', hrun, hPM, hT⟩ := hPV.del (by rw [← hL, hx]; rfl) (by rw [hfil]; simp <;> omega) 0
        rw [← hV] at hrun
        rw [hfil] at hPM
        have HF := hid (And.intro hPM (And.intro hT (And.intro hd1 (And.intro hch1 hfr))))
        clear hPM hT hd1 hch1 hfr hfr2 hPV p1 p2 a1 a2 b2 hV hVd b1 hA hdis hdis2 hnd1 hnd2 hcnd hc1 hls hdnd
        go_enter Try.func12, Try.ntmps12
        go_wp2
        go_region
        go_wp2
        go_region
        go_wp2
        go_ret
        unfold DropP
        obtain ⟨hPM, hT, hd1, hch1, hfr⟩ := HF.out
        exact ⟨by rw [decide_eq_true HX.out]; rfl, _, lane_end hT hpm (fun q hq => HM.out q hq) hd1 hPM hch1 HN1.out HN2.out, by rw [HFL.out], (hfr.trans (fr_turned hT (by simp)))⟩
end Go.Proofs.Ytlnghgalmhmegaa
