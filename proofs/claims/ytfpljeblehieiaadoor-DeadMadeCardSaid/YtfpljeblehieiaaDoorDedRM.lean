/- The document's list: mathematics of Next and From. -/
import Derived.Test.YtfpljeblehieiaaDoorDedX
set_option linter.unusedSimpArgs false
set_option linter.unusedVariables false
namespace Go.Proofs.YtfpljeblehieiaaDoor
open Go Go.RowKit Go.Tum Go.ChangeMaps Go.Sort Go.Tum.Rn

theorem ins_at {A M C : List Cur} {x : Nm} (hA : ∀ z ∈ A, ltC z (x, 0) = true) (hM : ∀ z ∈ M, z.1 = x) (hC : ∀ z ∈ C, ltC (x, 0) z = true) (p : UInt64) : insN (A ++ (M ++ C)) (x, p) = A ++ (x, p) :: C := by
  unfold insN
  have f1 : A.filter (fun z => ltC z (x, p)) = A := List.filter_eq_self.2 fun z hz => hA z hz
  have f2 : C.filter (fun z => ltC z (x, p)) = [] := List.filter_eq_nil_iff.2 fun z hz e => by
    have h1 := lessR_asymm _ _ (hC z hz)
    have h2 : lessR (runes z.1) (runes x) = true := e
    rw [h1] at h2; cases h2
  have f3 : M.filter (fun z => ltC z (x, p)) = [] := List.filter_eq_nil_iff.2 fun z hz e => by
    have h2 : lessR (runes z.1) (runes x) = true := e
    rw [hM z hz, lessR_irrefl] at h2; cases h2
  have g1 : A.filter (fun z => ltC (x, p) z) = [] := List.filter_eq_nil_iff.2 fun z hz e => by
    have h1 := lessR_asymm _ _ (hA z hz)
    have h2 : lessR (runes x) (runes z.1) = true := e
    rw [h1] at h2; cases h2
  have g2 : C.filter (fun z => ltC (x, p) z) = C := List.filter_eq_self.2 fun z hz => hC z hz
  have g3 : M.filter (fun z => ltC (x, p) z) = [] := List.filter_eq_nil_iff.2 fun z hz e => by
    have h2 : lessR (runes x) (runes z.1) = true := e
    rw [hM z hz, lessR_irrefl] at h2; cases h2
  rw [List.filter_append, List.filter_append, List.filter_append, List.filter_append, f1, f2, f3, g1, g2, g3]
  simp
theorem lku_at {A M C : List Cur} {x : Nm} (hA : ∀ z ∈ A, ltC z (x, 0) = true) (hC : ∀ z ∈ C, ltC (x, 0) z = true) : (A ++ (M ++ C)).lookup x = M.lookup x := by
  have h1 : A.lookup x = none := lku_none.2 fun hm => by
    obtain ⟨z, hz, e⟩ := List.mem_map.1 hm
    have h2 : lessR (runes z.1) (runes x) = true := hA z hz
    rw [e, lessR_irrefl] at h2; cases h2
  have h2 : C.lookup x = none := lku_none.2 fun hm => by
    obtain ⟨z, hz, e⟩ := List.mem_map.1 hm
    have h2 : lessR (runes x) (runes z.1) = true := hC z hz
    rw [e, lessR_irrefl] at h2; cases h2
  rw [List.lookup_append, List.lookup_append, h1, h2]
  simp
/-- Where a consumer stands. -/
theorem next_at {s : PD} (h : WD s) {x : Nm} (hx : rightL x = true) {k : Nat} (hk : k ≤ s.seen.length) (hlt : ∀ j (hj : j < s.seen.length), j < k → ltC s.seen[j] (x, 0) = true) (hge : ∀ hj : k < s.seen.length, ltC s.seen[k] (x, 0) = false) :
    ((∀ hj : k < s.seen.length, s.seen[k].1 ≠ x) → s.seen.lookup x = none ∧ ∀ p, insN s.seen (x, p) = s.seen.take k ++ (x, p) :: s.seen.drop k) ∧
    (∀ hj : k < s.seen.length, s.seen[k].1 = x → s.seen.lookup x = some s.seen[k].2 ∧ ∀ p, insN s.seen (x, p) = s.seen.take k ++ (x, p) :: s.seen.drop (k + 1)) := by
  have hA : ∀ z ∈ s.seen.take k, ltC z (x, 0) = true := fun z hz => by
    obtain ⟨j, hj, rfl⟩ := List.mem_iff_getElem.1 hz
    simp only [List.length_take] at hj
    rw [List.getElem_take]
    exact hlt j (by omega) (by omega)
  constructor
  · intro hne
    have hC : ∀ z ∈ s.seen.drop k, ltC (x, 0) z = true := fun z hz => by
      by_cases hkl : k < s.seen.length
      · have h1 := hge hkl
        have hks : s.seen[k] ∈ s.seen := List.getElem_mem hkl
        have h3 : ltC (x, 0) s.seen[k] = true := by
          rcases ltC_cases (x := s.seen[k]) (y := (x, 0)) (h.sr _ hks).1 hx with ⟨a, -, -⟩ | ⟨-, b, -⟩ | ⟨-, -, c⟩
          · rw [h1] at a; cases a
          · exact b
          · exact absurd c (hne hkl)
        rw [List.drop_eq_getElem_cons hkl] at hz
        rcases List.mem_cons.1 hz with e | e
        · rw [e]; exact h3
        · have hp := h.ss
          rw [← List.take_append_drop k s.seen, List.drop_eq_getElem_cons hkl, List.pairwise_append, List.pairwise_cons] at hp
          exact lessR_trans _ _ _ h3 (hp.2.1.1 z e)
      · rw [List.drop_eq_nil_of_le (by omega)] at hz; simp at hz
    have e0 : s.seen = s.seen.take k ++ ([] ++ s.seen.drop k) := by simp
    constructor
    · have := lku_at (M := []) hA hC
      rw [← e0] at this
      simpa using this
    · intro p
      have := ins_at (M := []) hA (by simp) hC p
      rw [← e0] at this
      exact this
  · intro hkl heq
    have hC : ∀ z ∈ s.seen.drop (k + 1), ltC (x, 0) z = true := fun z hz => by
      have hp := h.ss
      rw [← List.take_append_drop k s.seen, List.drop_eq_getElem_cons hkl, List.pairwise_append, List.pairwise_cons] at hp
      have := hp.2.1.1 z hz
      have h2 : lessR (runes (s.seen[k]).1) (runes z.1) = true := this
      rw [heq] at h2
      exact h2
    have e0 : s.seen = s.seen.take k ++ ([s.seen[k]] ++ s.seen.drop (k + 1)) := by
      rw [List.singleton_append, ← List.drop_eq_getElem_cons hkl, List.take_append_drop]
    constructor
    · have := lku_at (M := [s.seen[k]]) hA hC
      rw [← e0] at this
      rw [this]
      obtain ⟨z, hz⟩ : ∃ z, s.seen[k] = z := ⟨_, rfl⟩
      rw [hz] at heq ⊢
      obtain ⟨z1, z2⟩ := z
      dsimp only at heq
      subst heq
      simp [List.lookup]
    · intro p
      have := ins_at (M := [s.seen[k]]) hA (by intro z hz; rw [List.mem_singleton.1 hz]; exact heq) hC p
      rw [← e0] at this
      exact this
/-- What was told behind k rows. -/
def tk (rows : List (UInt64 × UInt64)) (pl : UInt64) (n : Int) (k : Nat) : List (UInt64 × UInt64) := ((rows.take k).filter fun z => decide (pl < z.2)).take n.toNat
theorem tk_zero (rows : List (UInt64 × UInt64)) (pl : UInt64) (n : Int) : tk rows pl n 0 = [] := by simp [tk]
theorem tk_len (rows : List (UInt64 × UInt64)) (pl : UInt64) (n : Int) (k : Nat) : (tk rows pl n k).length ≤ k := by
  unfold tk
  have h1 := List.length_filter_le (fun z : UInt64 × UInt64 => decide (pl < z.2)) (rows.take k)
  simp only [List.length_take] at h1 ⊢
  omega
theorem tk_more {rows : List (UInt64 × UInt64)} {k : Nat} (h : k < rows.length) {pl : UInt64} {n : Int} (h1 : pl < rows[k].2) (h2 : ((tk rows pl n k).length : Int) < n) : tk rows pl n (k + 1) = tk rows pl n k ++ [rows[k]] := by
  unfold tk at *
  rw [List.take_succ_eq_append_getElem h, List.filter_append, List.filter_cons_of_pos (by simpa using h1), List.filter_nil]
  obtain ⟨F, hF⟩ : ∃ F, (rows.take k).filter (fun z => decide (pl < z.2)) = F := ⟨_, rfl⟩
  rw [hF] at h2 ⊢
  rw [List.length_take] at h2
  rw [List.take_of_length_le (l := F ++ [rows[k]]) (by simp; omega), List.take_of_length_le (l := F) (by omega)]
theorem tk_keep {rows : List (UInt64 × UInt64)} {k : Nat} (h : k < rows.length) {pl : UInt64} {n : Int} (h1 : ¬ (pl < rows[k].2 ∧ ((tk rows pl n k).length : Int) < n)) : tk rows pl n (k + 1) = tk rows pl n k := by
  unfold tk at *
  rw [List.take_succ_eq_append_getElem h, List.filter_append]
  obtain ⟨F, hF⟩ : ∃ F, (rows.take k).filter (fun z => decide (pl < z.2)) = F := ⟨_, rfl⟩
  rw [hF] at h1 ⊢
  by_cases hp : pl < rows[k].2
  · have h2 : n.toNat ≤ F.length := by
      have h3 : ¬ ((F.take n.toNat).length : Int) < n := fun e => h1 ⟨hp, e⟩
      rw [List.length_take] at h3
      omega
    rw [List.take_append_of_le_length h2]
  · rw [List.filter_cons_of_neg (by simpa using hp), List.filter_nil, List.append_nil]
theorem tk_all (s : PD) (x : Nm) (n : Int) : tk s.rows ((s.seen.lookup x).getD 0) n s.rows.length = tookR s x n := by
  unfold tk tookR
  rw [List.take_length]
theorem lastP_nil (pl : UInt64) : lastP pl [] = pl := rfl
theorem lastP_app (pl : UInt64) (l : List (UInt64 × UInt64)) (z : UInt64 × UInt64) : lastP pl (l ++ [z]) = z.2 := by
  unfold lastP
  rw [List.getLast?_concat]
theorem fcat (A C : List Cur) (x : Nm) (p : UInt64) : (A ++ (x, p) :: C).flatMap encC = A.flatMap encC ++ ([vN x, vU p] ++ C.flatMap encC) := by
  rw [List.flatMap_append, List.flatMap_cons]
theorem flen (A : List Cur) : (A.flatMap encC).length = A.length * 2 := by
  induction A with
  | nil => rfl
  | cons a r ih => rw [List.flatMap_cons, List.length_append, ih, List.length_cons]; simp; omega
theorem fset (A C : List Cur) (x : Nm) (p q : UInt64) : ((A ++ (x, p) :: C).flatMap encC).set (A.length * 2 + 1) (vU q) = (A ++ (x, q) :: C).flatMap encC := by
  rw [fcat, fcat, List.set_append_right _ _ (by rw [flen]; omega), flen]
  have e : A.length * 2 + 1 - A.length * 2 = 1 := by omega
  rw [e]
  rfl
end Go.Proofs.YtfpljeblehieiaaDoor
