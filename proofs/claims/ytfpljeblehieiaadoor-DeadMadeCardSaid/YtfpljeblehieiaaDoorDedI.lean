/- The dead: the next ones; what stays so. -/
import Derived.Test.YtfpljeblehieiaaDoorDedH
set_option linter.unusedSimpArgs false
set_option linter.unusedVariables false
namespace Go.Proofs.YtfpljeblehieiaaDoor
open Go Go.RowKit Go.Tum Go.ChangeMaps Go.Sort Go.Tum.Rn
open Go.ParB (upd Lof)
open Go.ParE (putS slotsR slots Closed)

theorem enc_lenD : ∀ (l : List Nat), (enc l).length ≤ 4 * l.length
  | [] => by simp [enc]
  | r :: l => by
    have h1 := enc_lenD l
    have h2 := (Lib.encodeRuneZ_length (r : Int)).2
    rw [enc_cons, List.length_append, List.length_cons]
    have h3 : (Lib.encodeRune (r : Int)).length = (Lib.encodeRuneZ (r : Int)).length := by simp [Lib.encodeRune]
    omega
theorem fold_lenD (l : List UInt8) : (foldL l).length ≤ 4 * l.length := by
  unfold foldL
  have h1 := enc_lenD ((runes l).map foldN)
  have h2 := runes_len l
  rw [List.length_map] at h1
  omega
def lastP (pl : UInt64) (l : List (UInt64 × UInt64)) : UInt64 := match l.getLast? with
  | none => pl
  | some z => z.2
def insN (l : List Cur) (c : Cur) : List Cur := l.filter (fun z => ltC z c) ++ [c] ++ l.filter (fun z => ltC c z)
def tookR (s : PD) (x : Nm) (n : Int) : List (UInt64 × UInt64) := (s.rows.filter fun z => decide ((s.seen.lookup x).getD 0 < z.2)).take n.toNat
/-- The next ones for a consumer. -/
def nextD (s : PD) (name : Nm) (n : Int) : List UInt64 × Int × PD :=
  if decide (n < 1) || !rightL (foldL name) then ([], 1, s)
  else if (s.seen.lookup (foldL name)).isNone && decide (8 ≤ s.seen.length) then ([], 4, s)
  else ((tookR s (foldL name) n).map Prod.fst, 0, { s with seen := insN s.seen (foldL name, lastP ((s.seen.lookup (foldL name)).getD 0) (tookR s (foldL name) n)) })
theorem lastP_le {pl b : UInt64} {l : List (UInt64 × UInt64)} (h : pl ≤ b) (hl : ∀ z ∈ l, z.2 ≤ b) : lastP pl l ≤ b := by
  unfold lastP
  cases hg : l.getLast? with
  | none => exact h
  | some z => exact hl z (List.mem_of_getLast? hg)
theorem three {α : Type} {p q r : α → Bool} {l : List α} (h : ∀ z ∈ l, (p z = true ∧ q z = false ∧ r z = true) ∨ (p z = false ∧ q z = true ∧ r z = true) ∨ (p z = false ∧ q z = false ∧ r z = false)) :
    (l.filter p ++ l.filter q).Perm (l.filter r) := by
  induction l with
  | nil => simp
  | cons a l ih =>
    have ih' := ih fun z hz => h z (by simp [hz])
    rcases h a (by simp) with ⟨h1, h2, h3⟩ | ⟨h1, h2, h3⟩ | ⟨h1, h2, h3⟩
    · rw [List.filter_cons_of_pos h1, List.filter_cons_of_neg (by simp [h2]), List.filter_cons_of_pos h3]
      exact List.Perm.cons _ ih'
    · rw [List.filter_cons_of_neg (by simp [h1]), List.filter_cons_of_pos h2, List.filter_cons_of_pos h3]
      exact List.perm_middle.trans (List.Perm.cons _ ih')
    · rw [List.filter_cons_of_neg (by simp [h1]), List.filter_cons_of_neg (by simp [h2]), List.filter_cons_of_neg (by simp [h3])]
      exact ih'
theorem ltC_cases {x y : Cur} (hx : rightL x.1 = true) (hy : rightL y.1 = true) : (ltC x y = true ∧ ltC y x = false ∧ x.1 ≠ y.1) ∨ (ltC x y = false ∧ ltC y x = true ∧ x.1 ≠ y.1) ∨ (ltC x y = false ∧ ltC y x = false ∧ x.1 = y.1) := by
  unfold ltC
  by_cases e : x.1 = y.1
  · rw [e, lessR_irrefl]; exact .inr (.inr ⟨rfl, rfl, rfl⟩)
  · have hr : runes x.1 ≠ runes y.1 := fun h => e (right_inj hx hy h)
    cases h1 : lessR (runes x.1) (runes y.1) with
    | true => exact .inl ⟨rfl, lessR_asymm _ _ h1, e⟩
    | false => exact .inr (.inl ⟨rfl, lessR_total _ _ hr h1, e⟩)
theorem insN_perm {l : List Cur} (hl : ∀ z ∈ l, rightL z.1 = true) {c : Cur} (hc : rightL c.1 = true) : (insN l c).Perm (c :: noK l c.1) := by
  unfold insN
  have h : (l.filter (fun z => ltC z c) ++ l.filter (fun z => ltC c z)).Perm (noK l c.1) := by
    refine three fun z hz => ?_
    rcases ltC_cases (hl z hz) hc with ⟨h1, h2, h3⟩ | ⟨h1, h2, h3⟩ | ⟨h1, h2, h3⟩
    · exact .inl ⟨h1, h2, by simpa using h3⟩
    · exact .inr (.inl ⟨h1, h2, by simpa using h3⟩)
    · exact .inr (.inr ⟨h1, h2, by simpa using h3⟩)
  rw [List.append_assoc]
  exact List.perm_middle.trans (List.Perm.cons _ h)
theorem insN_sorted {l : List Cur} (hl : l.Pairwise fun x y => ltC x y = true) (c : Cur) : (insN l c).Pairwise fun x y => ltC x y = true := by
  unfold insN
  rw [List.append_assoc, List.pairwise_append]
  refine ⟨hl.sublist List.filter_sublist, ?_, ?_⟩
  · rw [List.singleton_append, List.pairwise_cons]
    exact ⟨fun z hz => (List.mem_filter.1 hz).2, hl.sublist List.filter_sublist⟩
  · intro a ha b hb
    have h1 := (List.mem_filter.1 ha).2
    rcases List.mem_append.1 hb with hb | hb
    · rw [List.mem_singleton.1 hb]; exact h1
    · exact lessR_trans _ _ _ h1 (List.mem_filter.1 hb).2
theorem noK_len_some {l : List Cur} {x : Nm} (h : (l.lookup x).isNone = false) : (noK l x).length + 1 ≤ l.length := by
  induction l with
  | nil => simp at h
  | cons a r ih =>
    obtain ⟨y, b⟩ := a
    rw [lku_cons] at h
    by_cases e : x = y
    · subst e
      have := noK_len r x
      have e2 : noK ((x, b) :: r) x = noK r x := by simp [noK]
      rw [e2, List.length_cons]; omega
    · rw [if_neg e] at h
      have := ih h
      have e2 : noK ((y, b) :: r) x = (y, b) :: noK r x := by simp [noK, Ne.symm e]
      rw [e2, List.length_cons, List.length_cons]; omega
section
variable {s : PD}
theorem WD.sorted (h : WD s) (pr : UInt64 × UInt64 → Bool) : sortP (s.rows.filter pr) = s.rows.filter pr :=
  sortP_of (List.Perm.refl _) ((h.rs.sublist List.filter_sublist).imp fun {a b} hab => by simp [ltP, hab])
theorem WD.all (h : WD s) : sortP s.rows = s.rows := sortP_of (List.Perm.refl _) (h.rs.imp fun {a b} hab => by simp [ltP, hab])
theorem WD.new : WD newD := ⟨by simp, by simp, by simp, by simp, by simp⟩
theorem WD.drop (h : WD s) (x : UInt64) : WD (dropD s x).2 :=
  ⟨h.rs.sublist List.filter_sublist, fun z hz => h.rl z (List.mem_filter.1 hz).1, h.sr, h.ss, h.s8⟩
theorem WD.add (h : WD s) (x : UInt64) (hl : s.last.toNat + 1 < 18446744073709551616) : WD (addD s x).2 := by
  unfold addD
  split
  · exact h
  · have e1 : (s.last + 1).toNat = s.last.toNat + 1 := by rw [UInt64.toNat_add]; simp; omega
    refine ⟨?_, ?_, ?_, h.ss, h.s8⟩
    · rw [List.pairwise_append]
      refine ⟨h.rs, by simp, fun a ha b hb => ?_⟩
      rw [List.mem_singleton.1 hb]
      have := (h.rl a ha).1
      rw [UInt64.le_iff_toNat_le] at this
      rw [UInt64.lt_iff_toNat_lt]
      show a.2.toNat < (s.last + 1).toNat
      omega
    · intro z hz
      show z.2 ≤ s.last + 1 ∧ 0 < z.2
      rw [UInt64.le_iff_toNat_le, UInt64.lt_iff_toNat_lt, e1]
      rcases List.mem_append.1 hz with hz | hz
      · have h2 := h.rl z hz
        rw [UInt64.le_iff_toNat_le, UInt64.lt_iff_toNat_lt] at h2
        exact ⟨by omega, h2.2⟩
      · rw [List.mem_singleton.1 hz]
        show (s.last + 1).toNat ≤ _ ∧ _ < (s.last + 1).toNat
        rw [e1]
        exact ⟨Nat.le_refl _, by simp⟩
    · intro z hz
      obtain ⟨a1, a2, a3⟩ := h.sr z hz
      refine ⟨a1, a2, ?_⟩
      show z.2 ≤ s.last + 1
      rw [UInt64.le_iff_toNat_le] at a3 ⊢
      omega
theorem seen_le (h : WD s) (x : Nm) : (s.seen.lookup x).getD 0 ≤ s.last := by
  cases hx : s.seen.lookup x with
  | none => rw [UInt64.le_iff_toNat_le]; simp
  | some b => exact (h.sr _ (lku_mem hx)).2.2
theorem WD.next (h : WD s) (name : Nm) (n : Int) : WD (nextD s name n).2.2 := by
  unfold nextD
  split
  · exact h
  · rename_i h1
    split
    · exact h
    · rename_i h2
      have hr : rightL (foldL name) = true := by
        cases hq : rightL (foldL name) with
        | true => rfl
        | false => rw [hq] at h1; simp at h1
      have hp := insN_perm (fun z hz => (h.sr z hz).1) (c := (foldL name, lastP ((s.seen.lookup (foldL name)).getD 0) (tookR s (foldL name) n))) hr
      refine ⟨h.rs, h.rl, fun z hz => ?_, insN_sorted h.ss _, ?_⟩
      · rcases List.mem_cons.1 (hp.mem_iff.1 hz) with e | e
        · rw [e]
          exact ⟨hr, fold_fold name, lastP_le (seen_le h _) fun y hy => (h.rl y (List.mem_filter.1 (List.mem_of_mem_take hy)).1).1⟩
        · exact h.sr z (List.mem_filter.1 e).1
      · have := hp.length_eq
        show (insN s.seen _).length ≤ 8
        rw [this, List.length_cons]
        dsimp only
        clear this
        cases hk : (s.seen.lookup (foldL name)).isNone with
        | false => have := noK_len_some hk; have := h.s8; omega
        | true =>
          rw [hk] at h2
          have := noK_len s.seen (foldL name)
          simp at h2
          omega
end
theorem lastP_take {pl : UInt64} {l : List (UInt64 × UInt64)} {k : Nat} (hk : k < l.length) : lastP pl (l.take (k + 1)) = (l[k]).2 := by
  unfold lastP
  have h : (l.take (k + 1)).getLast? = some l[k] := by
    rw [List.take_add_one, List.getElem?_eq_getElem hk, Option.toList_some, List.getLast?_concat]
  rw [h]
end Go.Proofs.YtfpljeblehieiaaDoor
