/- The dead's laws: mathematics of DeadOnce. -/
import Derived.Test.YtfpljeblehieiaaDoorDedAt
set_option linter.unusedSimpArgs false
set_option linter.unusedVariables false
namespace Go.Proofs.YtfpljeblehieiaaDoor
open Go Go.RowKit Go.Tum Go.ChangeMaps Go.Sort Go.Tum.Rn

abbrev RU := UInt64 × UInt64
def placeOf (s : PD) (x : Nm) : UInt64 := (s.seen.lookup x).getD 0
def toldOf (s : PD) (x : Nm) : List UInt64 := (s.rows.filter fun z => decide (z.2 ≤ placeOf s x)).map Prod.fst
theorem sorted_split {R : List RU} (h : R.Pairwise fun a b => a.2 < b.2) (P : UInt64) : R = R.filter (fun z => decide (z.2 ≤ P)) ++ R.filter (fun z => decide (P < z.2)) := by
  induction R with
  | nil => rfl
  | cons a r ih =>
    rw [List.pairwise_cons] at h
    by_cases ha : a.2 ≤ P
    · rw [List.filter_cons_of_pos (by simpa using ha), List.filter_cons_of_neg (by simp only [decide_eq_true_eq]; rw [UInt64.lt_iff_toNat_lt]; rw [UInt64.le_iff_toNat_le] at ha; omega), List.cons_append, ← ih h.2]
    · have hp : P < a.2 := by rw [UInt64.lt_iff_toNat_lt]; rw [UInt64.le_iff_toNat_le] at ha; omega
      have e1 : r.filter (fun z => decide (z.2 ≤ P)) = [] := by
        rw [List.filter_eq_nil_iff]
        intro z hz
        have := h.1 z hz
        rw [UInt64.lt_iff_toNat_lt] at this hp
        simp only [decide_eq_true_eq]; rw [UInt64.le_iff_toNat_le]; omega
      have e2 : r.filter (fun z => decide (P < z.2)) = r := by
        rw [List.filter_eq_self]
        intro z hz
        have := h.1 z hz
        rw [UInt64.lt_iff_toNat_lt] at this hp
        simp only [decide_eq_true_eq]; rw [UInt64.lt_iff_toNat_lt]; omega
      rw [List.filter_cons_of_neg (by simpa using ha), List.filter_cons_of_pos (by simpa using hp), e1, e2]; rfl
theorem lastP_ge : ∀ {P : UInt64} {l : List RU}, (∀ z ∈ l, P < z.2) → P ≤ lastP P l := by
  intro P l h
  unfold lastP
  cases hg : l.getLast? with
  | none => rw [UInt64.le_iff_toNat_le]; exact Nat.le_refl _
  | some z => have := h z (List.mem_of_getLast? hg); rw [UInt64.lt_iff_toNat_lt] at this; rw [UInt64.le_iff_toNat_le]; dsimp only; omega
theorem told_more {R : List RU} (h : R.Pairwise fun a b => a.2 < b.2) (P : UInt64) (n : Nat) (hn : 0 < n) :
    R.filter (fun z => decide (z.2 ≤ lastP P ((R.filter fun z => decide (P < z.2)).take n))) = R.filter (fun z => decide (z.2 ≤ P)) ++ (R.filter fun z => decide (P < z.2)).take n := by
  obtain ⟨Q, hQ⟩ : ∃ Q, R.filter (fun z => decide (P < z.2)) = Q := ⟨_, rfl⟩
  obtain ⟨A, hA⟩ : ∃ A, R.filter (fun z => decide (z.2 ≤ P)) = A := ⟨_, rfl⟩
  have hR := sorted_split h P
  rw [hQ, hA] at hR
  rw [hQ, hA]
  have hQs : Q.Pairwise fun a b => a.2 < b.2 := by rw [← hQ]; exact h.sublist List.filter_sublist
  have hQP : ∀ z ∈ Q, P < z.2 := fun z hz => by rw [← hQ] at hz; simpa using (List.mem_filter.1 hz).2
  have hAP : ∀ z ∈ A, z.2 ≤ P := fun z hz => by rw [← hA] at hz; simpa using (List.mem_filter.1 hz).2
  have hge : P ≤ lastP P (Q.take n) := lastP_ge fun z hz => hQP z (List.mem_of_mem_take hz)
  rw [hR, List.filter_append]
  congr 1
  · rw [List.filter_eq_self]
    intro z hz
    have := hAP z hz
    simp only [decide_eq_true_eq]
    rw [UInt64.le_iff_toNat_le] at *
    omega
  · cases hq : Q with
    | nil => simp
    | cons b r =>
      have hlen : (Q.take n).length ≠ 0 := by rw [List.length_take, hq, List.length_cons]; omega
      rw [← hq]
      obtain ⟨z0, hz0⟩ : ∃ z, (Q.take n).getLast? = some z := by
        cases hg : (Q.take n).getLast? with
        | none => rw [List.getLast?_eq_none_iff] at hg; rw [hg] at hlen; simp at hlen
        | some z => exact ⟨z, rfl⟩
      have hlp : lastP P (Q.take n) = z0.2 := by unfold lastP; rw [hz0]
      rw [hlp]
      have hsplit : Q = Q.take n ++ Q.drop n := (List.take_append_drop n Q).symm
      have hpw := hQs
      rw [hsplit, List.pairwise_append] at hpw
      have h1 : (Q.take n).filter (fun z => decide (z.2 ≤ z0.2)) = Q.take n := by
        rw [List.filter_eq_self]
        intro z hz
        obtain ⟨i, hi, rfl⟩ := List.mem_iff_getElem.1 hz
        have hl : z0 = (Q.take n)[(Q.take n).length - 1]'(by omega) := by
          rw [List.getLast?_eq_getElem?, List.getElem?_eq_getElem (by omega)] at hz0
          exact (Option.some.inj hz0).symm
        simp only [decide_eq_true_eq]
        rw [UInt64.le_iff_toNat_le]
        by_cases e : i = (Q.take n).length - 1
        · subst e; rw [← hl]; exact Nat.le_refl _
        · have := (List.pairwise_iff_getElem.1 hpw.1) i ((Q.take n).length - 1) hi (by omega) (by omega)
          rw [← hl, UInt64.lt_iff_toNat_lt] at this
          omega
      have h2 : (Q.drop n).filter (fun z => decide (z.2 ≤ z0.2)) = [] := by
        rw [List.filter_eq_nil_iff]
        intro z hz
        have := hpw.2.2 z0 (List.mem_of_getLast? hz0) z hz
        simp only [decide_eq_true_eq]
        rw [UInt64.lt_iff_toNat_lt] at this
        rw [UInt64.le_iff_toNat_le]
        omega
      conv => lhs; rw [hsplit]
      rw [List.filter_append, h1, h2, List.append_nil]
/-- What DeadOnce keeps. -/
structure Onc (k : Nat) (s : PD) (x y : Nm) (all told : List UInt64) : Prop where
  few : Few k s
  names : ∀ z ∈ s.seen, z.1 = x ∨ z.1 = y
  ns : (s.seen.map Prod.fst).Nodup
  rows : s.rows.map Prod.fst = all
  told : toldOf s x = told
theorem Onc.new (x y : Nm) : Onc 0 newD x y [] [] := ⟨⟨WD.new, by simp, by simp⟩, by simp, by simp, rfl, rfl⟩
theorem Onc.mono {k k' : Nat} {s : PD} {x y : Nm} {all told : List UInt64} (h : Onc k s x y all told) (hk : k ≤ k') : Onc k' s x y all told :=
  ⟨⟨h.few.wd, Nat.le_trans h.few.last hk, Nat.le_trans h.few.rows hk⟩, h.names, h.ns, h.rows, h.told⟩
theorem look_iff {l : List RU} {all : List UInt64} (h : l.map Prod.fst = all) (id : UInt64) : (l.lookup id).isSome = decide (id ∈ all) := by
  rw [← h]
  cases hq : l.lookup id with
  | none => have := lku_none.1 hq; simpa using this
  | some b =>
    have := lku_mem hq
    simp only [Option.isSome_some]
    exact (decide_eq_true (List.mem_map.2 ⟨_, this, rfl⟩)).symm
theorem Onc.add {k : Nat} {s : PD} {x y : Nm} {all told : List UInt64} (h : Onc k s x y all told) (id : UInt64) (hk : k ≤ 90000) :
    (addD s id).1 = !decide (id ∈ all) ∧ Onc (k + 1) (addD s id).2 x y (if id ∈ all then all else all ++ [id]) told := by
  have hf := h.few.act ⟨0, id, [], 0⟩ hk
  have hf2 : Few (k + 1) (addD s id).2 := hf
  have hl := look_iff h.rows id
  have hp := seen_le h.few.wd x
  have hlast := h.few.last
  unfold addD at hf2 ⊢
  by_cases hm : id ∈ all
  · rw [decide_eq_true hm] at hl
    rw [if_pos hl] at hf2 ⊢
    rw [if_pos hm]
    exact ⟨by simp [hm], hf2, h.names, h.ns, h.rows, h.told⟩
  · rw [decide_eq_false hm] at hl
    rw [if_neg (by rw [hl]; decide)] at hf2 ⊢
    rw [if_neg hm]
    refine ⟨by simp [hm], hf2, h.names, h.ns, by simp [h.rows], ?_⟩
    rw [← h.told]
    unfold toldOf placeOf
    dsimp only
    rw [List.filter_append, List.filter_cons_of_neg, List.filter_nil, List.append_nil]
    simp only [decide_eq_true_eq]
    rw [UInt64.le_iff_toNat_le] at hp ⊢
    rw [UInt64.toNat_add]
    simp
    omega
theorem two_len {s : List Cur} {x y : Nm} (h : ∀ z ∈ s, z.1 = x ∨ z.1 = y) (hn : (s.map Prod.fst).Nodup) : s.length ≤ 2 := by
  match s, h, hn with
  | [], _, _ => simp
  | [_], _, _ => simp
  | [_, _], _, _ => simp
  | a :: b :: c :: r, h, hn =>
    exfalso
    have ha := h a (by simp)
    have hb := h b (by simp)
    have hc := h c (by simp)
    simp only [List.map_cons, List.nodup_cons, List.mem_cons, not_or] at hn
    obtain ⟨⟨h1, h2, -⟩, ⟨h3, -⟩, -⟩ := hn
    rcases ha with ha | ha <;> rcases hb with hb | hb <;> rcases hc with hc | hc <;>
      first
      | exact h1 (ha.trans hb.symm)
      | exact h2 (ha.trans hc.symm)
      | exact h3 (hb.trans hc.symm)
theorem next_ok {s : PD} {x y name : Nm} {n : Int} (h : ∀ z ∈ s.seen, z.1 = x ∨ z.1 = y) (hn : (s.seen.map Prod.fst).Nodup) (h1 : 1 ≤ n) (hr : rightL (foldL name) = true) :
    nextD s name n = ((tookR s (foldL name) n).map Prod.fst, 0, { s with seen := insN s.seen (foldL name, lastP (placeOf s (foldL name)) (tookR s (foldL name) n)) }) := by
  unfold nextD
  have h2 := two_len h hn
  rw [if_neg (by rw [hr]; simp; omega), if_neg (by simp; omega)]
  rfl
theorem ins_ns {s : PD} (hw : WD s) (hn : (s.seen.map Prod.fst).Nodup) {c : Cur} (hc : rightL c.1 = true) : ((insN s.seen c).map Prod.fst).Nodup := by
  rw [((insN_perm (fun z hz => (hw.sr z hz).1) hc).map Prod.fst).nodup_iff, List.map_cons, List.nodup_cons]
  exact ⟨not_mem_noK, noK_nodup hn _⟩
theorem ins_look {s : PD} (hw : WD s) (hn : (s.seen.map Prod.fst).Nodup) {c : Cur} (hc : rightL c.1 = true) (y : Nm) : (insN s.seen c).lookup y = if y = c.1 then some c.2 else s.seen.lookup y := by
  have hp := insN_perm (fun z hz => (hw.sr z hz).1) hc
  have h2 : ((c :: noK s.seen c.1).map Prod.fst).Nodup := by
    rw [List.map_cons, List.nodup_cons]
    exact ⟨not_mem_noK, noK_nodup hn _⟩
  rw [perm_lookup hp h2]
  obtain ⟨a, b⟩ := c
  rw [lku_cons, lookup_noK]
  by_cases e : y = a
  · rw [if_pos e, if_pos e]
  · rw [if_neg e, if_neg e, if_neg e]
theorem ins_names {s : PD} (hw : WD s) {c : Cur} (hc : rightL c.1 = true) {x y : Nm} (h : ∀ z ∈ s.seen, z.1 = x ∨ z.1 = y) (hcn : c.1 = x ∨ c.1 = y) : ∀ z ∈ insN s.seen c, z.1 = x ∨ z.1 = y := fun z hz => by
  rcases List.mem_cons.1 ((insN_perm (fun z hz => (hw.sr z hz).1) hc).mem_iff.1 hz) with e | e
  · rw [e]; exact hcn
  · exact h z (List.mem_filter.1 e).1
theorem Few.next {k : Nat} {s : PD} (h : Few k s) (name : Nm) (n : Int) : Few k (nextD s name n).2.2 := by
  have := nextD_last s name n
  exact ⟨h.wd.next _ _, by rw [this.1]; exact h.last, by rw [this.2]; exact h.rows⟩
theorem next_bad {s : PD} {name : Nm} {n : Int} (h1 : n < 1) : nextD s name n = ([], 1, s) := by
  unfold nextD
  rw [if_pos (by simp; omega)]
theorem Onc.next {k : Nat} {s : PD} {one y : Nm} {all told : List UInt64} (h : Onc k s (foldL one) y all told) (n : Int) (hr : rightL (foldL one) = true) :
    Onc k (nextD s one n).2.2 (foldL one) y all (told ++ (nextD s one n).1) := by
  by_cases h1 : n < 1
  · rw [next_bad h1]; simpa using h
  · have hf := h.few.next one n
    rw [next_ok h.names h.ns (by omega) hr] at hf ⊢
    refine ⟨hf, ins_names h.few.wd hr h.names (.inl rfl), ins_ns h.few.wd h.ns hr, h.rows, ?_⟩
    rw [← h.told]
    unfold toldOf
    have hp : placeOf { s with seen := insN s.seen (foldL one, lastP (placeOf s (foldL one)) (tookR s (foldL one) n)) } (foldL one) = lastP (placeOf s (foldL one)) (tookR s (foldL one) n) := by
      unfold placeOf
      dsimp only
      rw [ins_look h.few.wd h.ns hr, if_pos rfl]; rfl
    rw [hp]
    have := told_more h.few.wd.rs (placeOf s (foldL one)) n.toNat (by omega)
    show List.map Prod.fst (List.filter (fun z => decide (z.2 ≤ lastP (placeOf s (foldL one)) ((s.rows.filter fun z => decide (placeOf s (foldL one) < z.2)).take n.toNat))) s.rows) = _
    rw [this, List.map_append]; rfl
theorem Onc.other {k : Nat} {s : PD} {x two : Nm} {all told : List UInt64} (h : Onc k s x (foldL two) all told) (hne : x ≠ foldL two) (n : Int) (hr : rightL (foldL two) = true) :
    Onc k (nextD s two n).2.2 x (foldL two) all told := by
  by_cases h1 : n < 1
  · rw [next_bad h1]; exact h
  · have hf := h.few.next two n
    rw [next_ok h.names h.ns (by omega) hr] at hf ⊢
    refine ⟨hf, ins_names h.few.wd hr h.names (.inr rfl), ins_ns h.few.wd h.ns hr, h.rows, ?_⟩
    rw [← h.told]
    unfold toldOf
    have hp : placeOf { s with seen := insN s.seen (foldL two, lastP (placeOf s (foldL two)) (tookR s (foldL two) n)) } x = placeOf s x := by
      unfold placeOf
      dsimp only
      rw [ins_look h.few.wd h.ns hr, if_neg hne]
    rw [hp]
theorem Onc.fin {k : Nat} {s : PD} {one y : Nm} {all told : List UInt64} (h : Onc k s (foldL one) y all told) (hr : rightL (foldL one) = true) (hk : k ≤ 200) :
    told ++ (nextD s one 200).1 = all ∧ (nextD s one 200).2.1 = 0 := by
  rw [next_ok h.names h.ns (by omega) hr]
  refine ⟨?_, rfl⟩
  rw [← h.told, ← h.rows]
  have hs := sorted_split h.few.wd.rs (placeOf s (foldL one))
  have ht : tookR s (foldL one) 200 = s.rows.filter fun z => decide (placeOf s (foldL one) < z.2) := by
    unfold tookR placeOf
    refine List.take_of_length_le (Nat.le_trans (List.length_filter_le _ _) ?_)
    have := h.few.rows
    show _ ≤ 200
    omega
  dsimp only
  rw [ht]
  unfold toldOf
  rw [← List.map_append, ← hs]
end Go.Proofs.YtfpljeblehieiaaDoor
