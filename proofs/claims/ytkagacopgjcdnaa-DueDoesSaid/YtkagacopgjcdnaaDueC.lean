/- Package due: swap. -/
import Derived.Test.YtkagacopgjcdnaaDueB
set_option linter.unusedSimpArgs false
set_option linter.unusedVariables false
namespace Go.Proofs.Ytkagacopgjcdnaa
open Go Go.RowKit Go.Tum Go.ChangeMaps
open Go.ParB (upd Lof)

def swapL (row : List UInt64) (i j : Nat) (hi : i < row.length) (hj : j < row.length) : List UInt64 := (row.set i row[j]).set j row[i]
theorem Tr.gblk {b : Nat} {w : World} {p mt mp nt : Nat} {At : UInt64 → Option Int} {row : List UInt64} {g n cap : Nat} (h : Tr b w p mt mp nt At row (.slice (some ⟨g, 0, none⟩) n cap)) : ∃ cs, w.heap[g]? = some (.cells cs 23 (0, 0)) := by
  rcases h.ow.2 with ⟨e, _⟩ | ⟨g', cap', cur, hv, hb, hgg, _⟩
  · cases e
  · cases hv; exact ⟨cur, hgg⟩
theorem Tr.gne {b : Nat} {w : World} {p mt mp nt : Nat} {At : UInt64 → Option Int} {row : List UInt64} {g n cap : Nat} (h : Tr b w p mt mp nt At row (.slice (some ⟨g, 0, none⟩) n cap)) : p ≠ g ∧ mt ≠ g ∧ mp ≠ g ∧ p ≠ mp ∧ p ≠ mt := by
  have hg : ∃ cs, w.heap[g]? = some (.cells cs 23 (0, 0)) := by
    rcases h.ow.2 with ⟨e, _⟩ | ⟨g', cap', cur, hv, hb, hgg, _⟩
    · cases e
    · cases hv; exact ⟨cur, hgg⟩
  obtain ⟨cs, hg⟩ := hg
  obtain ⟨e1, c1, h1⟩ := h.ti.block
  obtain ⟨e2, c2, h2⟩ := h.pl.block
  refine ⟨?_, ?_, ?_, ?_, ?_⟩
  · rintro rfl; have := h.hd; rw [hg] at this; simp at this
  · rintro rfl; rw [hg] at h1; cases h1
  · rintro rfl; rw [hg] at h2; cases h2
  · rintro rfl; rw [h.hd] at h2; cases h2
  · rintro rfl; rw [h.hd] at h1; cases h1

theorem owv_at {f : UInt64 → Value} {w w' : World} {b e g n cap : Nat} {l : List UInt64} (h : OwV f w b e (.slice (some ⟨g, 0, none⟩) n cap) l) (k : w'.heap[g]? = w.heap[g]?) : OwV f w' b e (.slice (some ⟨g, 0, none⟩) n cap) l := by
  refine ⟨h.1, ?_⟩
  rcases h.2 with hn | ⟨g', cap', cur, hv, hb, hgg, rest⟩
  · exact .inl hn
  · cases hv
    exact .inr ⟨g, cap, cur, rfl, hb, k.trans hgg, rest⟩
theorem idx_of {l : List UInt64} (h : l.Nodup) {k : Nat} (hk : k < l.length) {y : UInt64} (e : l[k] = y) : l.idxOf y = k := by
  rw [← e]; exact h.idxOf_getElem k hk
theorem plF_at {l : List UInt64} (h : l.Nodup) {k : Nat} (hk : k < l.length) {y : UInt64} (e : l[k] = y) : plF l y = some (k : Int) := by
  unfold plF
  rw [if_pos (by rw [← e]; exact List.getElem_mem hk), idx_of h hk e]
theorem swap_perm {row : List UInt64} {i j : Nat} (hi : i < row.length) (hj : j < row.length) : (swapL row i j hi hj).Perm row := List.set_set_perm hi hj
theorem swap_len {row : List UInt64} {i j : Nat} (hi : i < row.length) (hj : j < row.length) : (swapL row i j hi hj).length = row.length := by simp [swapL]
theorem swap_nd {row : List UInt64} {i j : Nat} (hi : i < row.length) (hj : j < row.length) (h : row.Nodup) : (swapL row i j hi hj).Nodup := (swap_perm hi hj).nodup_iff.2 h
theorem swap_i {row : List UInt64} {i j : Nat} (hi : i < row.length) (hj : j < row.length) : (swapL row i j hi hj)[i]'(by rw [swap_len]; exact hi) = row[j] := by
  unfold swapL
  rw [List.getElem_set]
  split
  · rename_i e; subst e; rfl
  · simp
theorem swap_j {row : List UInt64} {i j : Nat} (hi : i < row.length) (hj : j < row.length) : (swapL row i j hi hj)[j]'(by rw [swap_len]; exact hj) = row[i] := by
  unfold swapL; simp
theorem swap_k {row : List UInt64} {i j k : Nat} (hi : i < row.length) (hj : j < row.length) (hk : k < row.length) (h1 : k ≠ i) (h2 : k ≠ j) : (swapL row i j hi hj)[k]'(by rw [swap_len]; exact hk) = row[k] := by
  unfold swapL
  rw [List.getElem_set_ne (Ne.symm h2), List.getElem_set_ne (Ne.symm h1)]
theorem plF_swap {row : List UInt64} {i j : Nat} (hi : i < row.length) (hj : j < row.length) (h : row.Nodup) (y : UInt64) : setF (setF (plF row) row[j] (i : Int)) row[i] (j : Int) y = plF (swapL row i j hi hj) y := by
  have hn := swap_nd hi hj h
  unfold setF
  by_cases h1 : y = row[i]
  · rw [if_pos h1, plF_at hn (by rw [swap_len]; exact hj) ((swap_j hi hj).trans h1.symm)]
  · rw [if_neg h1]
    by_cases h2 : y = row[j]
    · rw [if_pos h2, plF_at hn (by rw [swap_len]; exact hi) ((swap_i hi hj).trans h2.symm)]
    · rw [if_neg h2]
      by_cases hm : y ∈ row
      · obtain ⟨k, hk, e⟩ := List.mem_iff_getElem.1 hm
        have k1 : k ≠ i := by rintro rfl; exact h1 e.symm
        have k2 : k ≠ j := by rintro rfl; exact h2 e.symm
        rw [plF_at h hk e, plF_at hn (by rw [swap_len]; exact hk) ((swap_k hi hj hk k1 k2).trans e)]
      · unfold plF
        rw [if_neg hm, if_neg fun hc => hm ((swap_perm hi hj).mem_iff.1 hc)]

set_option maxRecDepth 100000 in
set_option maxHeartbeats 1000000 in
theorem swap_any (b : Nat) (w : World) (p mt mp nt : Nat) (At : UInt64 → Option Int) (row : List UInt64) (g n cap : Nat) (i j : Nat) (h : Tr b w p mt mp nt At row (.slice (some ⟨g, 0, none⟩) n cap)) (hi : i < row.length) (hj : j < row.length) (hl : row.length ≤ 1000000) :
    Calls Try.prog 26 #[.pointer (some ⟨p, 1, none⟩), .int .i64 i, .int .i64 j] w fun e w' => (∃ v, e = .returned v) ∧ Tr b w' p mt mp nt At (swapL row i j hi hj) (.slice (some ⟨g, 0, none⟩) n cap) ∧ Fr [g, mp] w w' := by
  have hn := h.ow.len
  subst hn
  obtain ⟨n1, n2, n3, n4, n5⟩ := h.gne
  obtain ⟨-, a1, a2, -⟩ := lk3 h.hd
  have HC1 := hid a1
  have HC2 := hid a2
  have HP := hid (Array.getElem?_eq_some_iff.1 h.hd).1
  have HO := hid h.ow
  have HG : Hid (∃ cs, w.heap[g]? = some (.cells cs 23 (0, 0))) := hid h.gblk
  have H := hid h
  obtain ⟨xi, hxi⟩ : ∃ x, row[i] = x := ⟨_, rfl⟩
  obtain ⟨xj, hxj⟩ : ∃ x, row[j] = x := ⟨_, rfl⟩
  have hi1 : i < row.length := hi
  have hj1 : j < row.length := hj
  clear h a1 a2
  go_enter Try.func26, Try.ntmps26
  go_wp2_with fail
  refine ParC.wp_region_c (l := [_, _, _, _, _, _, _, _, _, _, _, _, _, _, _, _, _, _, _, _, _, _, _, _, _, _, _, _]) rfl (SwA w g b row.length cap i j row xi xj) (ParC.VC [ParC.EQ (Value.pointer (some ⟨p, 1, none⟩)), ParC.EQ (Value.pointer (some ⟨p, 1, none⟩)), ParC.EQ (Value.pointer (some ⟨p, 1, none⟩)), ParC.EQ (Value.slice (some ⟨g, 0, none⟩) row.length cap), ParC.EQ (Value.int IntKind.i64 (i : Int)), ParC.EQ (Value.pointer (some ⟨p, 1, none⟩)), ParC.EQ (Value.pointer (some ⟨p, 1, none⟩)), ParC.EQ (Value.pointer (some ⟨p, 1, none⟩)), ParC.EQ (Value.slice (some ⟨g, 0, none⟩) row.length cap), ParC.EQ (Value.int IntKind.i64 (j : Int)), ParC.EQ (Value.pointer (some ⟨p, 1, none⟩)), ParC.EQ (Value.pointer (some ⟨p, 1, none⟩)), ParC.EQ (Value.pointer (some ⟨p, 1, none⟩)), ParC.EQ (Value.slice (some ⟨g, 0, none⟩) row.length cap), ParC.EQ (Value.int IntKind.i64 (j : Int)), ParC.EQ (Value.pointer (some ⟨g, j, none⟩)), ParC.EQ (vU xj), ParC.EQ (Value.pointer (some ⟨p, 1, none⟩)), ParC.EQ (Value.pointer (some ⟨p, 1, none⟩)), ParC.EQ (Value.pointer (some ⟨p, 1, none⟩)), ParC.EQ (Value.slice (some ⟨g, 0, none⟩) row.length cap), ParC.EQ (Value.int IntKind.i64 (i : Int)), ParC.EQ (Value.pointer (some ⟨g, i, none⟩)), ParC.EQ (vU xi), ParC.EQ (Value.pointer (some ⟨g, i, none⟩)), fun _ => True, ParC.EQ (Value.pointer (some ⟨g, j, none⟩)), fun _ => True]) (by kernel_rfl) (by kernel_rfl) (SwA.start HO.out) ?_ ?_
  · refine ⟨fun L ρ w' hR hL hd hk => ?_, ?_⟩
    · exact Par.val_of_run rfl ⟨hR.other (by decide), hk.1⟩
    refine ⟨fun L ρ w' hR hL hd hk => ?_, ?_⟩
    · obtain ⟨k0, -⟩ := hk
      have e0 : ρ (.tmp 6) = Value.pointer (some ⟨p, 1, none⟩) := k0
      clear k0
      refine Par.val_k fun K hK => ?_
      unfold Par.val
      (go_simp; exact hK _ _ ⟨hR.other (by decide), rfl⟩)
    refine ⟨fun L ρ w' hR hL hd hk => ?_, ?_⟩
    · obtain ⟨k0, -⟩ := hk
      have e0 : ρ (.tmp 7) = Value.pointer (some ⟨p, 1, none⟩) := k0
      clear k0
      refine Par.val_k fun K hK => ?_
      unfold Par.val
      (go_simp; exact hK _ _ ⟨hR.other (by decide), rfl⟩)
    refine ⟨fun L ρ w' hR hL hd hk => ?_, ?_⟩
    · obtain ⟨k0, -⟩ := hk
      have e0 : ρ (.tmp 8) = Value.pointer (some ⟨p, 1, none⟩) := k0
      clear k0
      refine Par.val_k fun K hK => ?_
      unfold Par.val
      (have c := (hR.fr.cell (by simpa using n1) HP.out).trans HC1.out; go_simp; exact hK _ _ ⟨hR.other (by decide), rfl⟩)
    refine ⟨fun L ρ w' hR hL hd hk => ?_, ?_⟩
    · exact Par.val_of_run rfl ⟨hR.other (by decide), hk.1⟩
    refine ⟨fun L ρ w' hR hL hd hk => ?_, ?_⟩
    · exact Par.val_of_run rfl ⟨hR.other (by decide), hk.1⟩
    refine ⟨fun L ρ w' hR hL hd hk => ?_, ?_⟩
    · obtain ⟨k0, -⟩ := hk
      have e0 : ρ (.tmp 11) = Value.pointer (some ⟨p, 1, none⟩) := k0
      clear k0
      refine Par.val_k fun K hK => ?_
      unfold Par.val
      (go_simp; exact hK _ _ ⟨hR.other (by decide), rfl⟩)
    refine ⟨fun L ρ w' hR hL hd hk => ?_, ?_⟩
    · obtain ⟨k0, -⟩ := hk
      have e0 : ρ (.tmp 12) = Value.pointer (some ⟨p, 1, none⟩) := k0
      clear k0
      refine Par.val_k fun K hK => ?_
      unfold Par.val
      (go_simp; exact hK _ _ ⟨hR.other (by decide), rfl⟩)
    refine ⟨fun L ρ w' hR hL hd hk => ?_, ?_⟩
    · obtain ⟨k0, -⟩ := hk
      have e0 : ρ (.tmp 13) = Value.pointer (some ⟨p, 1, none⟩) := k0
      clear k0
      refine Par.val_k fun K hK => ?_
      unfold Par.val
      (have c := (hR.fr.cell (by simpa using n1) HP.out).trans HC1.out; go_simp; exact hK _ _ ⟨hR.other (by decide), rfl⟩)
    refine ⟨fun L ρ w' hR hL hd hk => ?_, ?_⟩
    · exact Par.val_of_run rfl ⟨hR.other (by decide), hk.1⟩
    refine ⟨fun L ρ w' hR hL hd hk => ?_, ?_⟩
    · exact Par.val_of_run rfl ⟨hR.other (by decide), hk.1⟩
    refine ⟨fun L ρ w' hR hL hd hk => ?_, ?_⟩
    · obtain ⟨k0, -⟩ := hk
      have e0 : ρ (.tmp 16) = Value.pointer (some ⟨p, 1, none⟩) := k0
      clear k0
      refine Par.val_k fun K hK => ?_
      unfold Par.val
      (go_simp; exact hK _ _ ⟨hR.other (by decide), rfl⟩)
    refine ⟨fun L ρ w' hR hL hd hk => ?_, ?_⟩
    · obtain ⟨k0, -⟩ := hk
      have e0 : ρ (.tmp 17) = Value.pointer (some ⟨p, 1, none⟩) := k0
      clear k0
      refine Par.val_k fun K hK => ?_
      unfold Par.val
      (go_simp; exact hK _ _ ⟨hR.other (by decide), rfl⟩)
    refine ⟨fun L ρ w' hR hL hd hk => ?_, ?_⟩
    · obtain ⟨k0, -⟩ := hk
      have e0 : ρ (.tmp 18) = Value.pointer (some ⟨p, 1, none⟩) := k0
      clear k0
      refine Par.val_k fun K hK => ?_
      unfold Par.val
      (have c := (hR.fr.cell (by simpa using n1) HP.out).trans HC1.out; go_simp; exact hK _ _ ⟨hR.other (by decide), rfl⟩)
    refine ⟨fun L ρ w' hR hL hd hk => ?_, ?_⟩
    · exact Par.val_of_run rfl ⟨hR.other (by decide), hk.1⟩
    refine ⟨fun L ρ w' hR hL hd hk => ?_, ?_⟩
    · obtain ⟨k0, k1, -⟩ := hk
      have e0 : ρ (.tmp 19) = Value.slice (some ⟨g, 0, none⟩) row.length cap := k0
      have e1 : ρ (.tmp 20) = Value.int IntKind.i64 (j : Int) := k1
      clear k0 k1
      refine Par.val_k fun K hK => ?_
      unfold Par.val
      (go_simp; exact hK _ _ ⟨hR.other (by decide), rfl⟩)
    refine ⟨fun L ρ w' hR hL hd hk => ?_, ?_⟩
    · obtain ⟨k0, -⟩ := hk
      have e0 : ρ (.tmp 21) = Value.pointer (some ⟨g, j, none⟩) := k0
      clear k0
      refine Par.val_k fun K hK => ?_
      unfold Par.val
      (have c := (hR.old (.inl hL)).cell j hj; rw [hxj] at c; go_simp; exact hK _ _ ⟨hR.other (by decide), rfl⟩)
    refine ⟨fun L ρ w' hR hL hd hk => ?_, ?_⟩
    · exact Par.val_of_run rfl ⟨hR.other (by decide), hk.1⟩
    refine ⟨fun L ρ w' hR hL hd hk => ?_, ?_⟩
    · obtain ⟨k0, -⟩ := hk
      have e0 : ρ (.tmp 23) = Value.pointer (some ⟨p, 1, none⟩) := k0
      clear k0
      refine Par.val_k fun K hK => ?_
      unfold Par.val
      (go_simp; exact hK _ _ ⟨hR.other (by decide), rfl⟩)
    refine ⟨fun L ρ w' hR hL hd hk => ?_, ?_⟩
    · obtain ⟨k0, -⟩ := hk
      have e0 : ρ (.tmp 24) = Value.pointer (some ⟨p, 1, none⟩) := k0
      clear k0
      refine Par.val_k fun K hK => ?_
      unfold Par.val
      (go_simp; exact hK _ _ ⟨hR.other (by decide), rfl⟩)
    refine ⟨fun L ρ w' hR hL hd hk => ?_, ?_⟩
    · obtain ⟨k0, -⟩ := hk
      have e0 : ρ (.tmp 25) = Value.pointer (some ⟨p, 1, none⟩) := k0
      clear k0
      refine Par.val_k fun K hK => ?_
      unfold Par.val
      (have c := (hR.fr.cell (by simpa using n1) HP.out).trans HC1.out; go_simp; exact hK _ _ ⟨hR.other (by decide), rfl⟩)
    refine ⟨fun L ρ w' hR hL hd hk => ?_, ?_⟩
    · exact Par.val_of_run rfl ⟨hR.other (by decide), hk.1⟩
    refine ⟨fun L ρ w' hR hL hd hk => ?_, ?_⟩
    · obtain ⟨k0, k1, -⟩ := hk
      have e0 : ρ (.tmp 26) = Value.slice (some ⟨g, 0, none⟩) row.length cap := k0
      have e1 : ρ (.tmp 27) = Value.int IntKind.i64 (i : Int) := k1
      clear k0 k1
      refine Par.val_k fun K hK => ?_
      unfold Par.val
      (go_simp; exact hK _ _ ⟨hR.other (by decide), rfl⟩)
    refine ⟨fun L ρ w' hR hL hd hk => ?_, ?_⟩
    · obtain ⟨k0, -⟩ := hk
      have e0 : ρ (.tmp 28) = Value.pointer (some ⟨g, i, none⟩) := k0
      clear k0
      refine Par.val_k fun K hK => ?_
      unfold Par.val
      (have c := (hR.old (.inr hL)).cell i hi; rw [hxi] at c; go_simp; exact hK _ _ ⟨hR.other (by decide), rfl⟩)
    refine ⟨fun L ρ w' hR hL hd hk => ?_, ?_⟩
    · obtain ⟨k0, k1, -⟩ := hk
      have e0 : ρ (.tmp 9) = Value.slice (some ⟨g, 0, none⟩) row.length cap := k0
      have e1 : ρ (.tmp 10) = Value.int IntKind.i64 (i : Int) := k1
      clear k0 k1
      refine Par.val_k fun K hK => ?_
      unfold Par.val
      (go_simp; exact hK _ _ ⟨hR.other (by decide), rfl⟩)
    refine ⟨fun L ρ w' hR hL hd hk => ?_, ?_⟩
    · obtain ⟨k0, k1, -⟩ := hk
      have e0 : ρ (.tmp 30) = Value.pointer (some ⟨g, i, none⟩) := k0
      have e1 : ρ (.tmp 22) = vU xj := k1
      clear k0 k1
      refine Par.val_k fun K hK => ?_
      unfold Par.val
      (have hd' := hd; simp [Region.binds] at hd'; have c := (hR.s0 hL).cell i hi; have f := (hR.s0 hL).frozen i; go_simp; exact hK _ _ ⟨hR.one hL (by simp_all), trivial⟩)
    refine ⟨fun L ρ w' hR hL hd hk => ?_, ?_⟩
    · obtain ⟨k0, k1, -⟩ := hk
      have e0 : ρ (.tmp 14) = Value.slice (some ⟨g, 0, none⟩) row.length cap := k0
      have e1 : ρ (.tmp 15) = Value.int IntKind.i64 (j : Int) := k1
      clear k0 k1
      refine Par.val_k fun K hK => ?_
      unfold Par.val
      (go_simp; exact hK _ _ ⟨hR.other (by decide), rfl⟩)
    refine ⟨fun L ρ w' hR hL hd hk => ?_, ?_⟩
    · obtain ⟨k0, k1, -⟩ := hk
      have e0 : ρ (.tmp 31) = Value.pointer (some ⟨g, j, none⟩) := k0
      have e1 : ρ (.tmp 29) = vU xi := k1
      clear k0 k1
      refine Par.val_k fun K hK => ?_
      unfold Par.val
      (have hd' := hd; simp [Region.binds] at hd'; have c := (hR.s1 (by simp_all) hL).cell j (by simpa using hj); have f := (hR.s1 (by simp_all) hL).frozen j; go_simp; exact hK _ _ ⟨hR.two hL (by simp_all), trivial⟩)
    trivial
  intro a' w' inv hR
  have q6 : a'.tmps.getD 6 undef = Value.pointer (some ⟨p, 1, none⟩) := inv.done 0 _ 6 rfl rfl rfl
  have q7 : a'.tmps.getD 7 undef = Value.pointer (some ⟨p, 1, none⟩) := inv.done 1 _ 7 rfl rfl rfl
  have q8 : a'.tmps.getD 8 undef = Value.pointer (some ⟨p, 1, none⟩) := inv.done 2 _ 8 rfl rfl rfl
  have q9 : a'.tmps.getD 9 undef = Value.slice (some ⟨g, 0, none⟩) row.length cap := inv.done 3 _ 9 rfl rfl rfl
  have q10 : a'.tmps.getD 10 undef = Value.int IntKind.i64 (i : Int) := inv.done 4 _ 10 rfl rfl rfl
  have q11 : a'.tmps.getD 11 undef = Value.pointer (some ⟨p, 1, none⟩) := inv.done 5 _ 11 rfl rfl rfl
  have q12 : a'.tmps.getD 12 undef = Value.pointer (some ⟨p, 1, none⟩) := inv.done 6 _ 12 rfl rfl rfl
  have q13 : a'.tmps.getD 13 undef = Value.pointer (some ⟨p, 1, none⟩) := inv.done 7 _ 13 rfl rfl rfl
  have q14 : a'.tmps.getD 14 undef = Value.slice (some ⟨g, 0, none⟩) row.length cap := inv.done 8 _ 14 rfl rfl rfl
  have q15 : a'.tmps.getD 15 undef = Value.int IntKind.i64 (j : Int) := inv.done 9 _ 15 rfl rfl rfl
  have q16 : a'.tmps.getD 16 undef = Value.pointer (some ⟨p, 1, none⟩) := inv.done 10 _ 16 rfl rfl rfl
  have q17 : a'.tmps.getD 17 undef = Value.pointer (some ⟨p, 1, none⟩) := inv.done 11 _ 17 rfl rfl rfl
  have q18 : a'.tmps.getD 18 undef = Value.pointer (some ⟨p, 1, none⟩) := inv.done 12 _ 18 rfl rfl rfl
  have q19 : a'.tmps.getD 19 undef = Value.slice (some ⟨g, 0, none⟩) row.length cap := inv.done 13 _ 19 rfl rfl rfl
  have q20 : a'.tmps.getD 20 undef = Value.int IntKind.i64 (j : Int) := inv.done 14 _ 20 rfl rfl rfl
  have q21 : a'.tmps.getD 21 undef = Value.pointer (some ⟨g, j, none⟩) := inv.done 15 _ 21 rfl rfl rfl
  have q22 : a'.tmps.getD 22 undef = vU xj := inv.done 16 _ 22 rfl rfl rfl
  have q23 : a'.tmps.getD 23 undef = Value.pointer (some ⟨p, 1, none⟩) := inv.done 17 _ 23 rfl rfl rfl
  have q24 : a'.tmps.getD 24 undef = Value.pointer (some ⟨p, 1, none⟩) := inv.done 18 _ 24 rfl rfl rfl
  have q25 : a'.tmps.getD 25 undef = Value.pointer (some ⟨p, 1, none⟩) := inv.done 19 _ 25 rfl rfl rfl
  have q26 : a'.tmps.getD 26 undef = Value.slice (some ⟨g, 0, none⟩) row.length cap := inv.done 20 _ 26 rfl rfl rfl
  have q27 : a'.tmps.getD 27 undef = Value.int IntKind.i64 (i : Int) := inv.done 21 _ 27 rfl rfl rfl
  have q28 : a'.tmps.getD 28 undef = Value.pointer (some ⟨g, i, none⟩) := inv.done 22 _ 28 rfl rfl rfl
  have q29 : a'.tmps.getD 29 undef = vU xi := inv.done 23 _ 29 rfl rfl rfl
  have q30 : a'.tmps.getD 30 undef = Value.pointer (some ⟨g, i, none⟩) := inv.done 24 _ 30 rfl rfl rfl
  have q31 : a'.tmps.getD 31 undef = Value.pointer (some ⟨g, j, none⟩) := inv.done 26 _ 31 rfl rfl rfl
  clear inv
  simp only [List.filterMap_cons, List.filterMap_nil, Par.putAll, Act.put, List.setIfInBounds_toArray, List.set_cons_succ, List.set_cons_zero, q6, q7, q8, q9, q10, q11, q12, q13, q14, q15, q16, q17, q18, q19, q20, q21, q22, q23, q24, q25, q26, q27, q28, q29, q30, q31]
  clear q6 q7 q8 q9 q10 q11 q12 q13 q14 q15 q16 q17 q18 q19 q20 q21 q22 q23 q24 q25 q26 q27 q28 q29 q30 q31
  clear a'
  have HO1 := hid (hR.s2 rfl)
  have HF1 := hid hR.fr
  have hrow : (row.set i xj).set j xi = swapL row i j hi hj := by unfold swapL; rw [hxi, hxj]
  rw [hrow] at HO1
  have HC1' := hid ((HF1.out.cell (a := ⟨p, 1, none⟩) (by simpa using n1) HP.out).trans HC1.out)
  have HC2' := hid ((HF1.out.cell (a := ⟨p, 2, none⟩) (by simpa using n1) HP.out).trans HC2.out)
  have HP' := hid (Nat.lt_of_lt_of_le HP.out HF1.out.size)
  have HGL : Hid (g < w'.heap.size) := hid (by obtain ⟨cs, hg⟩ := HG.out; exact Nat.lt_of_lt_of_le (Array.getElem?_eq_some_iff.1 hg).1 HF1.out.size)
  obtain ⟨W1, hW⟩ : ∃ W1, W1 = w' := ⟨_, rfl⟩
  subst hW
  have hM := H.out.pl.fr HF1.out (by simpa using n3)
  obtain ⟨es, ck, hmb⟩ := hM.block
  have hmlt := (Array.getElem?_eq_some_iff.1 hmb).1
  have hp1 : plF row xj = some (j : Int) := plF_at H.out.nd hj hxj
  obtain ⟨st1, em1, hs1⟩ := hM.entry Try.underlying45 (Try.zeroValue3 _) (by omega) hp1
  obtain ⟨O1, se1, mi1⟩ := hs1 (i : Int)
  have hM2 := mi1 (setBlock W1 mp O1) (set_block hmlt)
  have hp2 : setF (plF row) xj (i : Int) xi = some (i : Int) := by
    unfold setF
    split
    · rfl
    · exact plF_at H.out.nd hi hxi
  obtain ⟨st2, em2, hs2⟩ := hM2.entry Try.underlying45 (Try.zeroValue3 _) (by omega) hp2
  obtain ⟨O2, se2, mi2⟩ := hs2 (j : Int)
  have hl2 : (swapL row i j hi hj).length = row.length := swap_len hi hj
  have hyi := (swap_i hi hj).trans hxj
  have hyj := (swap_j hi hj).trans hxi
  have HE1 := hid em1
  have HE2 := hid em2
  have HS1 := hid se1
  have HS2 := hid se2
  have HM2 := hid mi2
  have HY := hid (And.intro hyi hyj)
  have HL2 := hid hl2
  have HLT := hid hmlt
  clear hR hrow hM hmb hs1 hM2 mi1 hs2 em1 em2 se1 se2 mi2 hyi hyj hl2 hp1 hp2 hmlt
  go_wp2_with fail
  refine ParC.wp_region_c (l := [_, _, _, _, _, _, _, _, _, _, _, _, _, _, _, _, _, _, _, _, _, _, _, _, _, _, _, _, _, _]) rfl (SwB W1 mp O1 O2) (ParC.VC [ParC.EQ (Value.pointer (some ⟨p, 1, none⟩)), ParC.EQ (Value.pointer (some ⟨p, 1, none⟩)), ParC.EQ (Value.pointer (some ⟨p, 2, none⟩)), ParC.EQ (Value.map (some mp)), ParC.EQ (Value.pointer (some ⟨p, 1, none⟩)), ParC.EQ (Value.pointer (some ⟨p, 1, none⟩)), ParC.EQ (Value.pointer (some ⟨p, 1, none⟩)), ParC.EQ (Value.slice (some ⟨g, 0, none⟩) row.length cap), ParC.EQ (Value.int IntKind.i64 (i : Int)), ParC.EQ (Value.pointer (some ⟨g, i, none⟩)), ParC.EQ (vU xj), ParC.EQ (Value.pointer (some ⟨p, 1, none⟩)), ParC.EQ (Value.pointer (some ⟨p, 1, none⟩)), ParC.EQ (Value.pointer (some ⟨p, 2, none⟩)), ParC.EQ (Value.map (some mp)), ParC.EQ (Value.pointer (some ⟨p, 1, none⟩)), ParC.EQ (Value.pointer (some ⟨p, 1, none⟩)), ParC.EQ (Value.pointer (some ⟨p, 1, none⟩)), ParC.EQ (Value.slice (some ⟨g, 0, none⟩) row.length cap), ParC.EQ (Value.int IntKind.i64 (j : Int)), ParC.EQ (Value.pointer (some ⟨g, j, none⟩)), ParC.EQ (vU xi), ParC.EQ (Value.int IntKind.i64 (i : Int)), ParC.EQ (Value.int IntKind.i64 (j : Int)), ParC.EQ (Value.tuple #[Value.int IntKind.i64 (j : Int), Value.int IntKind.i64 (st1 : Int)]), ParC.EQ (Value.int IntKind.i64 (st1 : Int)), fun _ => True, ParC.EQ (Value.tuple #[Value.int IntKind.i64 (i : Int), Value.int IntKind.i64 (st2 : Int)]), ParC.EQ (Value.int IntKind.i64 (st2 : Int)), fun _ => True]) (by kernel_rfl) (by kernel_rfl) (SwB.start HLT.out) ?_ ?_
  · refine ⟨fun L ρ w' hR hL hd hk => ?_, ?_⟩
    · exact Par.val_of_run rfl ⟨hR.other (by decide), hk.1⟩
    refine ⟨fun L ρ w' hR hL hd hk => ?_, ?_⟩
    · obtain ⟨k0, -⟩ := hk
      have e0 : ρ (.tmp 32) = Value.pointer (some ⟨p, 1, none⟩) := k0
      clear k0
      refine Par.val_k fun K hK => ?_
      unfold Par.val
      (go_simp; exact hK _ _ ⟨hR.other (by decide), rfl⟩)
    refine ⟨fun L ρ w' hR hL hd hk => ?_, ?_⟩
    · obtain ⟨k0, -⟩ := hk
      have e0 : ρ (.tmp 33) = Value.pointer (some ⟨p, 1, none⟩) := k0
      clear k0
      refine Par.val_k fun K hK => ?_
      unfold Par.val
      (go_simp; exact hK _ _ ⟨hR.other (by decide), rfl⟩)
    refine ⟨fun L ρ w' hR hL hd hk => ?_, ?_⟩
    · obtain ⟨k0, -⟩ := hk
      have e0 : ρ (.tmp 34) = Value.pointer (some ⟨p, 2, none⟩) := k0
      clear k0
      refine Par.val_k fun K hK => ?_
      unfold Par.val
      (have c := (hR.fr.cell (by simpa using n4) HP'.out).trans HC2'.out; go_simp; exact hK _ _ ⟨hR.other (by decide), rfl⟩)
    refine ⟨fun L ρ w' hR hL hd hk => ?_, ?_⟩
    · exact Par.val_of_run rfl ⟨hR.other (by decide), hk.1⟩
    refine ⟨fun L ρ w' hR hL hd hk => ?_, ?_⟩
    · obtain ⟨k0, -⟩ := hk
      have e0 : ρ (.tmp 36) = Value.pointer (some ⟨p, 1, none⟩) := k0
      clear k0
      refine Par.val_k fun K hK => ?_
      unfold Par.val
      (go_simp; exact hK _ _ ⟨hR.other (by decide), rfl⟩)
    refine ⟨fun L ρ w' hR hL hd hk => ?_, ?_⟩
    · obtain ⟨k0, -⟩ := hk
      have e0 : ρ (.tmp 37) = Value.pointer (some ⟨p, 1, none⟩) := k0
      clear k0
      refine Par.val_k fun K hK => ?_
      unfold Par.val
      (go_simp; exact hK _ _ ⟨hR.other (by decide), rfl⟩)
    refine ⟨fun L ρ w' hR hL hd hk => ?_, ?_⟩
    · obtain ⟨k0, -⟩ := hk
      have e0 : ρ (.tmp 38) = Value.pointer (some ⟨p, 1, none⟩) := k0
      clear k0
      refine Par.val_k fun K hK => ?_
      unfold Par.val
      (have c := (hR.fr.cell (by simpa using n4) HP'.out).trans HC1'.out; go_simp; exact hK _ _ ⟨hR.other (by decide), rfl⟩)
    refine ⟨fun L ρ w' hR hL hd hk => ?_, ?_⟩
    · exact Par.val_of_run rfl ⟨hR.other (by decide), hk.1⟩
    refine ⟨fun L ρ w' hR hL hd hk => ?_, ?_⟩
    · obtain ⟨k0, k1, -⟩ := hk
      have e0 : ρ (.tmp 39) = Value.slice (some ⟨g, 0, none⟩) row.length cap := k0
      have e1 : ρ (.tmp 40) = Value.int IntKind.i64 (i : Int) := k1
      clear k0 k1
      refine Par.val_k fun K hK => ?_
      unfold Par.val
      (go_simp; exact hK _ _ ⟨hR.other (by decide), rfl⟩)
    refine ⟨fun L ρ w' hR hL hd hk => ?_, ?_⟩
    · obtain ⟨k0, -⟩ := hk
      have e0 : ρ (.tmp 41) = Value.pointer (some ⟨g, i, none⟩) := k0
      clear k0
      refine Par.val_k fun K hK => ?_
      unfold Par.val
      (have c := (owv_at HO1.out (hR.fr.block g HGL.out (by simpa using Ne.symm n3))).cell i (by rw [HL2.out]; exact hi); rw [HY.out.1] at c; go_simp; exact hK _ _ ⟨hR.other (by decide), rfl⟩)
    refine ⟨fun L ρ w' hR hL hd hk => ?_, ?_⟩
    · exact Par.val_of_run rfl ⟨hR.other (by decide), hk.1⟩
    refine ⟨fun L ρ w' hR hL hd hk => ?_, ?_⟩
    · obtain ⟨k0, -⟩ := hk
      have e0 : ρ (.tmp 43) = Value.pointer (some ⟨p, 1, none⟩) := k0
      clear k0
      refine Par.val_k fun K hK => ?_
      unfold Par.val
      (go_simp; exact hK _ _ ⟨hR.other (by decide), rfl⟩)
    refine ⟨fun L ρ w' hR hL hd hk => ?_, ?_⟩
    · obtain ⟨k0, -⟩ := hk
      have e0 : ρ (.tmp 44) = Value.pointer (some ⟨p, 1, none⟩) := k0
      clear k0
      refine Par.val_k fun K hK => ?_
      unfold Par.val
      (go_simp; exact hK _ _ ⟨hR.other (by decide), rfl⟩)
    refine ⟨fun L ρ w' hR hL hd hk => ?_, ?_⟩
    · obtain ⟨k0, -⟩ := hk
      have e0 : ρ (.tmp 45) = Value.pointer (some ⟨p, 2, none⟩) := k0
      clear k0
      refine Par.val_k fun K hK => ?_
      unfold Par.val
      (have c := (hR.fr.cell (by simpa using n4) HP'.out).trans HC2'.out; go_simp; exact hK _ _ ⟨hR.other (by decide), rfl⟩)
    refine ⟨fun L ρ w' hR hL hd hk => ?_, ?_⟩
    · exact Par.val_of_run rfl ⟨hR.other (by decide), hk.1⟩
    refine ⟨fun L ρ w' hR hL hd hk => ?_, ?_⟩
    · obtain ⟨k0, -⟩ := hk
      have e0 : ρ (.tmp 47) = Value.pointer (some ⟨p, 1, none⟩) := k0
      clear k0
      refine Par.val_k fun K hK => ?_
      unfold Par.val
      (go_simp; exact hK _ _ ⟨hR.other (by decide), rfl⟩)
    refine ⟨fun L ρ w' hR hL hd hk => ?_, ?_⟩
    · obtain ⟨k0, -⟩ := hk
      have e0 : ρ (.tmp 48) = Value.pointer (some ⟨p, 1, none⟩) := k0
      clear k0
      refine Par.val_k fun K hK => ?_
      unfold Par.val
      (go_simp; exact hK _ _ ⟨hR.other (by decide), rfl⟩)
    refine ⟨fun L ρ w' hR hL hd hk => ?_, ?_⟩
    · obtain ⟨k0, -⟩ := hk
      have e0 : ρ (.tmp 49) = Value.pointer (some ⟨p, 1, none⟩) := k0
      clear k0
      refine Par.val_k fun K hK => ?_
      unfold Par.val
      (have c := (hR.fr.cell (by simpa using n4) HP'.out).trans HC1'.out; go_simp; exact hK _ _ ⟨hR.other (by decide), rfl⟩)
    refine ⟨fun L ρ w' hR hL hd hk => ?_, ?_⟩
    · exact Par.val_of_run rfl ⟨hR.other (by decide), hk.1⟩
    refine ⟨fun L ρ w' hR hL hd hk => ?_, ?_⟩
    · obtain ⟨k0, k1, -⟩ := hk
      have e0 : ρ (.tmp 50) = Value.slice (some ⟨g, 0, none⟩) row.length cap := k0
      have e1 : ρ (.tmp 51) = Value.int IntKind.i64 (j : Int) := k1
      clear k0 k1
      refine Par.val_k fun K hK => ?_
      unfold Par.val
      (go_simp; exact hK _ _ ⟨hR.other (by decide), rfl⟩)
    refine ⟨fun L ρ w' hR hL hd hk => ?_, ?_⟩
    · obtain ⟨k0, -⟩ := hk
      have e0 : ρ (.tmp 52) = Value.pointer (some ⟨g, j, none⟩) := k0
      clear k0
      refine Par.val_k fun K hK => ?_
      unfold Par.val
      (have c := (owv_at HO1.out (hR.fr.block g HGL.out (by simpa using Ne.symm n3))).cell j (by rw [HL2.out]; exact hj); rw [HY.out.2] at c; go_simp; exact hK _ _ ⟨hR.other (by decide), rfl⟩)
    refine ⟨fun L ρ w' hR hL hd hk => ?_, ?_⟩
    · exact Par.val_of_run rfl ⟨hR.other (by decide), hk.1⟩
    refine ⟨fun L ρ w' hR hL hd hk => ?_, ?_⟩
    · exact Par.val_of_run rfl ⟨hR.other (by decide), hk.1⟩
    refine ⟨fun L ρ w' hR hL hd hk => ?_, ?_⟩
    · obtain ⟨k0, k1, -⟩ := hk
      have e0 : ρ (.tmp 35) = Value.map (some mp) := k0
      have e1 : ρ (.tmp 42) = vU xj := k1
      clear k0 k1
      refine Par.val_k fun K hK => ?_
      unfold Par.val
      (have r := HE1.out w' (hR.s0 (Bool.eq_false_iff.2 fun k => by rw [hR.o1 k] at hL; cases hL)); go_simp; exact hK _ _ ⟨hR.other (by decide), rfl⟩)
    refine ⟨fun L ρ w' hR hL hd hk => ?_, ?_⟩
    · obtain ⟨k0, -⟩ := hk
      have e0 : ρ (.tmp 56) = Value.tuple #[Value.int IntKind.i64 (j : Int), Value.int IntKind.i64 (st1 : Int)] := k0
      clear k0
      refine Par.val_k fun K hK => ?_
      unfold Par.val
      (go_simp; exact hK _ _ ⟨hR.other (by decide), rfl⟩)
    refine ⟨fun L ρ w' hR hL hd hk => ?_, ?_⟩
    · obtain ⟨k0, k1, k2, -⟩ := hk
      have e0 : ρ (.tmp 35) = Value.map (some mp) := k0
      have e1 : ρ (.tmp 57) = Value.int IntKind.i64 (st1 : Int) := k1
      have e2 : ρ (.tmp 54) = Value.int IntKind.i64 (i : Int) := k2
      clear k0 k1 k2
      refine Par.val_k fun K hK => ?_
      unfold Par.val
      (have hd' := hd; simp [Region.binds] at hd'; have r := HS1.out w' (hR.s0 hL); go_simp; exact hK _ _ ⟨hR.one hL (by simp_all), trivial⟩)
    refine ⟨fun L ρ w' hR hL hd hk => ?_, ?_⟩
    · obtain ⟨k0, k1, -⟩ := hk
      have e0 : ρ (.tmp 46) = Value.map (some mp) := k0
      have e1 : ρ (.tmp 53) = vU xi := k1
      clear k0 k1
      refine Par.val_k fun K hK => ?_
      unfold Par.val
      (have hd' := hd; simp [Region.binds] at hd'; have r := HE2.out w' ((hR.s1 (by simp_all) (Bool.eq_false_iff.2 fun k => by rw [hR.o3 k] at hL; cases hL)).trans (set_block HLT.out).symm); go_simp; exact hK _ _ ⟨hR.mid (by simp_all), rfl⟩)
    refine ⟨fun L ρ w' hR hL hd hk => ?_, ?_⟩
    · obtain ⟨k0, -⟩ := hk
      have e0 : ρ (.tmp 58) = Value.tuple #[Value.int IntKind.i64 (i : Int), Value.int IntKind.i64 (st2 : Int)] := k0
      clear k0
      refine Par.val_k fun K hK => ?_
      unfold Par.val
      (go_simp; exact hK _ _ ⟨hR.other (by decide), rfl⟩)
    refine ⟨fun L ρ w' hR hL hd hk => ?_, ?_⟩
    · obtain ⟨k0, k1, k2, -⟩ := hk
      have e0 : ρ (.tmp 46) = Value.map (some mp) := k0
      have e1 : ρ (.tmp 59) = Value.int IntKind.i64 (st2 : Int) := k1
      have e2 : ρ (.tmp 55) = Value.int IntKind.i64 (j : Int) := k2
      clear k0 k1 k2
      refine Par.val_k fun K hK => ?_
      unfold Par.val
      (have hd' := hd; simp [Region.binds] at hd'; have r := HS2.out w' ((hR.s1 (hR.o2 (by simp_all)) hL).trans (set_block HLT.out).symm); go_simp; exact hK _ _ ⟨hR.two (by simp_all), trivial⟩)
    trivial
  intro a' w' inv hR
  have q32 : a'.tmps.getD 32 undef = Value.pointer (some ⟨p, 1, none⟩) := inv.done 0 _ 32 rfl rfl rfl
  have q33 : a'.tmps.getD 33 undef = Value.pointer (some ⟨p, 1, none⟩) := inv.done 1 _ 33 rfl rfl rfl
  have q34 : a'.tmps.getD 34 undef = Value.pointer (some ⟨p, 2, none⟩) := inv.done 2 _ 34 rfl rfl rfl
  have q35 : a'.tmps.getD 35 undef = Value.map (some mp) := inv.done 3 _ 35 rfl rfl rfl
  have q36 : a'.tmps.getD 36 undef = Value.pointer (some ⟨p, 1, none⟩) := inv.done 4 _ 36 rfl rfl rfl
  have q37 : a'.tmps.getD 37 undef = Value.pointer (some ⟨p, 1, none⟩) := inv.done 5 _ 37 rfl rfl rfl
  have q38 : a'.tmps.getD 38 undef = Value.pointer (some ⟨p, 1, none⟩) := inv.done 6 _ 38 rfl rfl rfl
  have q39 : a'.tmps.getD 39 undef = Value.slice (some ⟨g, 0, none⟩) row.length cap := inv.done 7 _ 39 rfl rfl rfl
  have q40 : a'.tmps.getD 40 undef = Value.int IntKind.i64 (i : Int) := inv.done 8 _ 40 rfl rfl rfl
  have q41 : a'.tmps.getD 41 undef = Value.pointer (some ⟨g, i, none⟩) := inv.done 9 _ 41 rfl rfl rfl
  have q42 : a'.tmps.getD 42 undef = vU xj := inv.done 10 _ 42 rfl rfl rfl
  have q43 : a'.tmps.getD 43 undef = Value.pointer (some ⟨p, 1, none⟩) := inv.done 11 _ 43 rfl rfl rfl
  have q44 : a'.tmps.getD 44 undef = Value.pointer (some ⟨p, 1, none⟩) := inv.done 12 _ 44 rfl rfl rfl
  have q45 : a'.tmps.getD 45 undef = Value.pointer (some ⟨p, 2, none⟩) := inv.done 13 _ 45 rfl rfl rfl
  have q46 : a'.tmps.getD 46 undef = Value.map (some mp) := inv.done 14 _ 46 rfl rfl rfl
  have q47 : a'.tmps.getD 47 undef = Value.pointer (some ⟨p, 1, none⟩) := inv.done 15 _ 47 rfl rfl rfl
  have q48 : a'.tmps.getD 48 undef = Value.pointer (some ⟨p, 1, none⟩) := inv.done 16 _ 48 rfl rfl rfl
  have q49 : a'.tmps.getD 49 undef = Value.pointer (some ⟨p, 1, none⟩) := inv.done 17 _ 49 rfl rfl rfl
  have q50 : a'.tmps.getD 50 undef = Value.slice (some ⟨g, 0, none⟩) row.length cap := inv.done 18 _ 50 rfl rfl rfl
  have q51 : a'.tmps.getD 51 undef = Value.int IntKind.i64 (j : Int) := inv.done 19 _ 51 rfl rfl rfl
  have q52 : a'.tmps.getD 52 undef = Value.pointer (some ⟨g, j, none⟩) := inv.done 20 _ 52 rfl rfl rfl
  have q53 : a'.tmps.getD 53 undef = vU xi := inv.done 21 _ 53 rfl rfl rfl
  have q54 : a'.tmps.getD 54 undef = Value.int IntKind.i64 (i : Int) := inv.done 22 _ 54 rfl rfl rfl
  have q55 : a'.tmps.getD 55 undef = Value.int IntKind.i64 (j : Int) := inv.done 23 _ 55 rfl rfl rfl
  have q56 : a'.tmps.getD 56 undef = Value.tuple #[Value.int IntKind.i64 (j : Int), Value.int IntKind.i64 (st1 : Int)] := inv.done 24 _ 56 rfl rfl rfl
  have q57 : a'.tmps.getD 57 undef = Value.int IntKind.i64 (st1 : Int) := inv.done 25 _ 57 rfl rfl rfl
  have q58 : a'.tmps.getD 58 undef = Value.tuple #[Value.int IntKind.i64 (i : Int), Value.int IntKind.i64 (st2 : Int)] := inv.done 27 _ 58 rfl rfl rfl
  have q59 : a'.tmps.getD 59 undef = Value.int IntKind.i64 (st2 : Int) := inv.done 28 _ 59 rfl rfl rfl
  clear inv
  simp only [List.filterMap_cons, List.filterMap_nil, Par.putAll, Act.put, List.setIfInBounds_toArray, List.set_cons_succ, List.set_cons_zero, q32, q33, q34, q35, q36, q37, q38, q39, q40, q41, q42, q43, q44, q45, q46, q47, q48, q49, q50, q51, q52, q53, q54, q55, q56, q57, q58, q59]
  clear q32 q33 q34 q35 q36 q37 q38 q39 q40 q41 q42 q43 q44 q45 q46 q47 q48 q49 q50 q51 q52 q53 q54 q55 q56 q57 q58 q59
  clear a'
  have hF2 := hR.fr
  have hm2 := HM2.out _ (hR.s2 rfl)
  go_wp2
  go_returns
  have hne := H.out.ne
  refine ⟨⟨_, rfl⟩, ⟨?_, ?_, ?_, ?_, swap_nd hi hj H.out.nd, hne⟩, ?_⟩
  · exact (hF2.block p HP'.out (by simpa using n4)).trans ((HF1.out.block p HP.out (by simpa using n1)).trans H.out.hd)
  · exact (H.out.ti.fr HF1.out (by simpa using n2)).fr hF2 (by simpa using hne)
  · rw [HL2.out]
    exact hm2.congr fun y => by rw [← hxi, ← hxj]; exact plF_swap hi hj H.out.nd y
  · exact owv_at HO1.out (hF2.block g HGL.out (by simpa using Ne.symm n3))
  · exact (HF1.out.mono (by simp)).trans (hF2.mono (by simp))
end Go.Proofs.Ytkagacopgjcdnaa
