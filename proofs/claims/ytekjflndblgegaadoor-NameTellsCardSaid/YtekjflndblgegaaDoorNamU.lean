/- Numbers put into a sorted row, one by one, are the sorted row of all (the document's Only). -/
import Derived.Test.YtekjflndblgegaaDoorNamT
set_option linter.unusedSimpArgs false
set_option linter.unusedVariables false
namespace Go.Proofs.YtekjflndblgegaaDoor
open Go Go.RowKit Go.Tum Go.ChangeMaps Go.Sort Go.Nam

theorem leU_pair (l : List UInt64) : (l.mergeSort leU).Pairwise fun a b => a ≤ b := by
  have hp := List.pairwise_mergeSort (le := leU) (by intro a b c; simp only [leU, decide_eq_true_eq, UInt64.le_iff_toNat_le]; omega) (by intro a b; simp only [leU, Bool.or_eq_true, decide_eq_true_eq, UInt64.le_iff_toNat_le]; omega) l
  exact hp.imp fun h => by simpa [leU] using h
theorem sorted_uniq {a b : List UInt64} (ha : a.Pairwise fun x y => x ≤ y) (hb : b.Pairwise fun x y => x ≤ y) (hp : a.Perm b) : a = b :=
  List.Perm.eq_of_pairwise (le := fun x y => x ≤ y) (fun x y _ _ h1 h2 => by
    rw [UInt64.le_iff_toNat_le] at h1 h2
    exact UInt64.toNat_inj.1 (by omega)) ha hb hp
/-- A number put behind all that are not greater. -/
theorem ins_sorted (xs : List UInt64) (n : UInt64) (at' : Nat) (hat : at' ≤ (xs.mergeSort leU).length) (h1 : ∀ j (h : j < (xs.mergeSort leU).length), j < at' → (xs.mergeSort leU)[j] ≤ n)
    (h2 : ∀ h : at' < (xs.mergeSort leU).length, n ≤ (xs.mergeSort leU)[at']) :
    (xs.mergeSort leU).take at' ++ ([n] ++ (xs.mergeSort leU).drop at') = (xs ++ [n]).mergeSort leU := by
  obtain ⟨L, hL⟩ : ∃ L, xs.mergeSort leU = L := ⟨_, rfl⟩
  have hs := leU_pair xs
  have hp : L.Perm xs := by rw [← hL]; exact List.mergeSort_perm _ _
  simp only [hL] at hat h1 h2 hs ⊢
  refine sorted_uniq ?_ (leU_pair _) ?_
  · rw [List.pairwise_append, List.pairwise_append]
    refine ⟨hs.sublist (List.take_sublist _ _), ⟨List.pairwise_singleton _ _, hs.sublist (List.drop_sublist _ _), fun x hx y hy => ?_⟩, fun x hx y hy => ?_⟩
    · rw [List.mem_singleton] at hx
      subst hx
      obtain ⟨j, hj, rfl⟩ := List.mem_iff_getElem.1 hy
      rw [List.length_drop] at hj
      rw [List.getElem_drop]
      have h3 := h2 (by omega)
      rcases Nat.eq_zero_or_pos j with rfl | hj0
      · simpa using h3
      · have h4 := List.pairwise_iff_getElem.1 hs at' (at' + j) (by omega) (by omega) (by omega)
        rw [UInt64.le_iff_toNat_le] at h3 h4 ⊢
        omega
    · obtain ⟨i, hi, rfl⟩ := List.mem_iff_getElem.1 hx
      rw [List.length_take] at hi
      rw [List.getElem_take]
      have h3 := h1 i (by omega) (by omega)
      rcases List.mem_append.1 hy with q | q
      · rw [List.mem_singleton.1 q]; exact h3
      · obtain ⟨j, hj, rfl⟩ := List.mem_iff_getElem.1 q
        rw [List.length_drop] at hj
        rw [List.getElem_drop]
        exact List.pairwise_iff_getElem.1 hs i (at' + j) (by omega) (by omega) (by omega)
  · refine List.Perm.trans ?_ ((List.mergeSort_perm (xs ++ [n]) leU).symm)
    have e1 : (L.take at' ++ ([n] ++ L.drop at')).Perm ([n] ++ (L.take at' ++ L.drop at')) := by
      rw [← List.append_assoc, ← List.append_assoc]
      exact List.Perm.append_right _ List.perm_append_comm
    rw [List.take_append_drop] at e1
    exact e1.trans ((List.perm_append_comm).trans (List.Perm.append_right _ hp))
end Go.Proofs.YtekjflndblgegaaDoor
