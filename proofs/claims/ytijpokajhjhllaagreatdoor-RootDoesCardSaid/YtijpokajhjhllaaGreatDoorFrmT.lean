/- Frames that are turned, torn: the plain mathematics. -/
import Derived.Test.YtijpokajhjhllaaGreatDoorFrmM
namespace Go.Tum.Crc

theorem flip_take (l : List UInt8) (k n : Nat) : (flip l k).take n = if k / 8 < n then flip (l.take n) k else l.take n := by
  unfold flip
  by_cases h : k / 8 < n
  · rw [if_pos h, List.take_set]
    congr 2
    simp only [List.getD_eq_getElem?_getD]
    rw [List.getElem?_take, if_pos h]
  · rw [if_neg h, List.take_set_of_le (by omega)]
theorem flip_drop (l : List UInt8) (k n : Nat) : (flip l k).drop n = if n ≤ k / 8 then flip (l.drop n) (k - 8 * n) else l.drop n := by
  unfold flip
  by_cases h : n ≤ k / 8
  · have e1 : (k - 8 * n) / 8 = k / 8 - n := by omega
    have e2 : (k - 8 * n) % 8 = k % 8 := by omega
    rw [if_pos h, e1, e2, List.drop_set, if_neg (by omega)]
    congr 2
    simp only [List.getD_eq_getElem?_getD]
    rw [List.getElem?_drop]
    congr 2; omega
  · rw [if_neg h, List.drop_set, if_pos (by omega)]
theorem turnN_take (at_ : Int) (t : Nat) (l : List UInt8) (n : Nat) (hn : n ≤ l.length) : ∀ i, (turnN at_ t l i).take n = turnN at_ t (l.take n) i
  | 0 => rfl
  | i + 1 => by
    have ih := turnN_take at_ t l n hn i
    have hl : (l.take n).length = n := by simp; omega
    unfold turnN
    by_cases h : turnHit at_ t i l.length = true
    · rw [if_pos h, flip_take, ih]
      simp only [turnHit, Bool.and_eq_true, decide_eq_true_eq] at h
      by_cases h2 : (at_ + i).toNat / 8 < n
      · rw [if_pos h2, if_pos (by simp only [turnHit, Bool.and_eq_true, decide_eq_true_eq, hl]; exact ⟨⟨h.1.1, h.1.2⟩, by omega⟩)]
      · rw [if_neg h2, if_neg (by simp only [turnHit, Bool.and_eq_true, decide_eq_true_eq, hl]; intro h3; omega)]
    · rw [if_neg h, ih, if_neg (by
        simp only [turnHit, Bool.and_eq_true, decide_eq_true_eq, hl] at h ⊢
        intro h3; exact h ⟨h3.1, by omega⟩)]
theorem turnN_drop (at_ : Int) (t : Nat) (l : List UInt8) (n : Nat) (hn : n ≤ l.length) : ∀ i, (turnN at_ t l i).drop n = turnN (at_ - 8 * n) t (l.drop n) i
  | 0 => rfl
  | i + 1 => by
    have ih := turnN_drop at_ t l n hn i
    have hl : (l.drop n).length = l.length - n := by simp
    unfold turnN
    by_cases h : turnHit at_ t i l.length = true
    · rw [if_pos h, flip_drop, ih]
      simp only [turnHit, Bool.and_eq_true, decide_eq_true_eq] at h
      by_cases h2 : n ≤ (at_ + i).toNat / 8
      · rw [if_pos h2, if_pos (by simp only [turnHit, Bool.and_eq_true, decide_eq_true_eq, hl]; exact ⟨⟨h.1.1, by omega⟩, by omega⟩)]
        congr 1; omega
      · rw [if_neg h2, if_neg (by simp only [turnHit, Bool.and_eq_true, decide_eq_true_eq, hl]; intro h3; omega)]
    · rw [if_neg h, ih, if_neg (by
        simp only [turnHit, Bool.and_eq_true, decide_eq_true_eq, hl] at h ⊢
        intro h3; exact h ⟨⟨h3.1.1, by omega⟩, by omega⟩)]

/-- A frame that is turned is none. -/
theorem fread_turned (x : Fr) (hx : x.body.length ≤ 400) (at_ : Int) (t : Nat) (more : List UInt8) (hne : turnN at_ t (fbytes x) 32 ≠ fbytes x) :
    fread (turnN at_ t (fbytes x) 32 ++ more) = (f0, 0, 8) := by
  have hlen := fbytes_length x
  have hpl := turnN_length at_ t (fbytes x) 32
  have h1 := turnN_take at_ t (fbytes x) 7 (by omega) 32
  have h2 := turnN_drop at_ t (fbytes x) 7 (by omega) 32
  have e1 : (fbytes x).take 7 = put (hd x) := by simpa using fbytes_head x []
  have e2 : (fbytes x).drop 7 = put x.body := by simpa using fbytes_tail x []
  rw [e1] at h1
  rw [e2] at h2
  have hA : (turnN at_ t (fbytes x) 32 ++ more).take 7 = turnN at_ t (put (hd x)) 32 := by
    rw [List.take_append_of_le_length (by omega), h1]
  unfold fread
  rw [if_neg (by simp; omega), hA]
  by_cases hh : turnN at_ t (put (hd x)) 32 = put (hd x)
  · rw [hh, if_neg (by simp [isPut_put])]
    rw [hh] at hA
    have hf := flen_of hA hx
    rw [hf, if_neg (by omega), if_neg (by simp; omega)]
    have hB : ((turnN at_ t (fbytes x) 32 ++ more).drop 7).take (x.body.length + 4) = turnN (at_ - 8 * (7 : Nat)) t (put x.body) 32 := by
      rw [List.drop_append_of_le_length (by omega), h2, List.take_append_of_le_length (by rw [turnN_length]; simp [put_length])]
      exact List.take_of_length_le (by rw [turnN_length]; simp [put_length])
    rw [hB, if_pos]
    refine burst _ _ _ (isPut_put _) fun h3 => hne ?_
    rw [← List.take_append_drop 7 (turnN at_ t (fbytes x) 32), h1, h2, hh, h3]
    rfl
  · rw [if_pos (burst _ _ _ (isPut_put _) hh)]

/-- Frames one behind the other: where each ends. -/
def fcat : List Fr → List UInt8
  | [] => []
  | x :: r => fbytes x ++ fcat r
def fends : Nat → List Fr → List Nat
  | _, [] => []
  | k, x :: r => (k + (x.body.length + 11)) :: fends (k + (x.body.length + 11)) r
/-- How many are whole ahead of a cut, and where the last one ends. -/
def wholes (cut : Nat) : List Nat → Nat × Nat → Nat × Nat
  | [], s => s
  | e :: r, s => wholes cut r (if e ≤ cut then (s.1 + 1, e) else s)
theorem wholes_none (cut : Nat) : ∀ (l : List Fr) (k : Nat) (s : Nat × Nat), cut < k → wholes cut (fends k l) s = s
  | [], _, _, _ => rfl
  | x :: r, k, s, h => by
    simp only [fends, wholes]
    rw [if_neg (by omega)]
    exact wholes_none cut r _ s (by omega)
theorem fall_torn : ∀ (l : List Fr) (c : Nat), (∀ x ∈ l, x.body.length ≤ 400) → c ≤ (fcat l).length →
    ∀ (k n : Nat), wholes (k + c) (fends k l) (n, k) = (n + (fall ((fcat l).take c)).1.length, k + (fall ((fcat l).take c)).2.1) ∧ (fall ((fcat l).take c)).1 = l.take (fall ((fcat l).take c)).1.length ∧
      (fall ((fcat l).take c)).2.1 ≤ c ∧ ((fall ((fcat l).take c)).2.1 < c → (fall ((fcat l).take c)).2.2 = 3)
  | [], c, _, hc, k, n => by
    obtain rfl : c = 0 := by simpa [fcat] using hc
    simp [fcat, fends, wholes, fall_nil]
  | x :: r, c, hl, hc, k, n => by
    have hx := hl x (by simp)
    have hlx := fbytes_length x
    simp only [fcat, List.length_append] at hc
    by_cases h : c < x.body.length + 11
    · have e1 : (fbytes x ++ fcat r).take c = (fbytes x).take c := List.take_append_of_le_length (by omega)
      simp only [fcat, e1, fends, wholes]
      rw [if_neg (by omega), wholes_none _ _ _ _ (by omega)]
      by_cases h0 : c = 0
      · subst h0; simp [fall_nil]
      · have hne : (fbytes x).take c ≠ [] := by intro h1; have := congrArg List.length h1; rw [List.length_take, List.length_nil] at this; omega
        have hs := fread_short x c hx h
        rw [fall_err hne (by rw [hs]; decide), hs]
        simp
    · have hr := fread_fbytes x ((fcat r).take (c - (x.body.length + 11))) hx
      have e1 : (fbytes x ++ fcat r).take c = fbytes x ++ (fcat r).take (c - (x.body.length + 11)) := by
        rw [List.take_append]
        rw [List.take_of_length_le (by omega), hlx]
      have hne : fbytes x ++ (fcat r).take (c - (x.body.length + 11)) ≠ [] := by intro h1; have := congrArg List.length h1; rw [List.length_append, List.length_nil] at this; omega
      have ed : (fbytes x ++ (fcat r).take (c - (x.body.length + 11))).drop (x.body.length + 11) = (fcat r).take (c - (x.body.length + 11)) := by rw [← hlx, List.drop_left]
      have ih := fall_torn r (c - (x.body.length + 11)) (fun y hy => hl y (List.mem_cons_of_mem _ hy)) (by omega) (k + (x.body.length + 11)) (n + 1)
      simp only [fcat, e1, fends, wholes]
      rw [if_pos (by omega), fall_ok hne (by rw [hr]), hr]
      simp only [ed]
      generalize fall ((fcat r).take (c - (x.body.length + 11))) = F at ih ⊢
      have ec : k + (x.body.length + 11) + (c - (x.body.length + 11)) = k + c := by omega
      rw [ec] at ih
      refine ⟨?_, ?_, ?_, ?_⟩
      · rw [ih.1]; simp only [List.length_cons, Prod.mk.injEq]; omega
      · simp only [List.length_cons, List.take_succ_cons, List.cons.injEq, true_and]; exact ih.2.1
      · have := ih.2.2.1; omega
      · intro h3; exact ih.2.2.2 (by omega)
theorem fcat_snoc : ∀ (l : List Fr) (x : Fr), fcat (l ++ [x]) = fcat l ++ fbytes x
  | [], x => by simp [fcat]
  | y :: r, x => by simp only [List.cons_append, fcat]; rw [fcat_snoc r x, List.append_assoc]
theorem fends_snoc : ∀ (l : List Fr) (x : Fr) (k : Nat), fends k (l ++ [x]) = fends k l ++ [k + (fcat l).length + (x.body.length + 11)]
  | [], x, k => by simp [fends, fcat]
  | y :: r, x, k => by
    simp only [List.cons_append, fends, fcat, List.length_append, fbytes_length]
    rw [fends_snoc r x _]
    congr 3; omega
theorem fends_length : ∀ (l : List Fr) (k : Nat), (fends k l).length = l.length
  | [], _ => rfl
  | y :: r, k => by simp only [fends, List.length_cons]; rw [fends_length r]
theorem fends_le : ∀ (l : List Fr) (k : Nat), ∀ e ∈ fends k l, e ≤ k + (fcat l).length
  | [], _, e, h => absurd h (by simp [fends])
  | y :: r, k, e, h => by
    simp only [fends, List.mem_cons] at h
    simp only [fcat, List.length_append, fbytes_length]
    rcases h with rfl | h
    · omega
    · have := fends_le r _ e h; omega
theorem fcat_le : ∀ (l : List Fr), (∀ x ∈ l, x.body.length ≤ 400) → (fcat l).length ≤ 411 * l.length
  | [], _ => by simp [fcat]
  | y :: r, h => by
    have h1 := h y (by simp)
    have h2 := fcat_le r (fun x hx => h x (List.mem_cons_of_mem _ hx))
    simp only [fcat, List.length_append, fbytes_length, List.length_cons]; omega
theorem wholes_append (c : Nat) : ∀ (a b : List Nat) (s : Nat × Nat), wholes c (a ++ b) s = wholes c b (wholes c a s)
  | [], _, _ => rfl
  | e :: r, b, s => by simp only [List.cons_append, wholes]; rw [wholes_append c r b]
theorem wholes_le (c : Nat) : ∀ (a : List Nat) (s : Nat × Nat), (wholes c a s).1 ≤ s.1 + a.length
  | [], s => by simp [wholes]
  | e :: r, s => by
    simp only [wholes, List.length_cons]
    by_cases h : e ≤ c
    · rw [if_pos h]; have := wholes_le c r (s.1 + 1, e); simp only at this; omega
    · rw [if_neg h]; have := wholes_le c r s; omega
end Go.Tum.Crc
