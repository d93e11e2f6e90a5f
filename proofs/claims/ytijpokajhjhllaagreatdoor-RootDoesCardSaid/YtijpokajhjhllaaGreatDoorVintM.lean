/- Numbers as bytes, seven bits each: plain mathematics. -/
namespace Go.Tum.Vint
def vputF : Nat → Nat → List UInt8
  | 0, n => [UInt8.ofNat n]
  | k + 1, n => if n < 128 then [UInt8.ofNat n] else UInt8.ofNat (128 + n % 128) :: vputF k (n / 128)
def vput (n : Nat) : List UInt8 := vputF 9 n
theorem vputF_lt (k n : Nat) (h : n < 128) : vputF k n = [UInt8.ofNat n] := by
  cases k with
  | zero => rfl
  | succ k => rw [vputF, if_pos h]
theorem vputF_ge (k n : Nat) (h : 128 ≤ n) : vputF (k + 1) n = UInt8.ofNat (128 + n % 128) :: vputF k (n / 128) := by
  rw [vputF, if_neg (by omega)]
theorem vputF_len (k : Nat) : ∀ n, 1 ≤ (vputF k n).length ∧ (vputF k n).length ≤ k + 1 := by
  induction k with
  | zero => intro n; simp [vputF]
  | succ k ih =>
    intro n
    by_cases h : n < 128
    · rw [vputF_lt _ _ h]; simp
    · rw [vputF_ge _ _ (by omega)]
      have := ih (n / 128)
      simp; omega
/-- The bytes from place i on. -/
def vgetA : Nat → Nat → List UInt8 → Nat × Nat × Nat
  | _, _, [] => (0, 0, 3)
  | i, acc, c :: r =>
    if i = 9 ∧ 1 < c.toNat then (0, 0, 2)
    else if c.toNat = 0 ∧ 0 < i then (0, 0, 2)
    else if c.toNat < 128 then (acc + c.toNat * 2 ^ (7 * i), i + 1, 0)
    else vgetA (i + 1) (acc + (c.toNat % 128) * 2 ^ (7 * i)) r
def vget (l : List UInt8) : Nat × Nat × Nat := vgetA 0 0 l
theorem pow_step (i : Nat) : 2 ^ (7 * (i + 1)) = 128 * 2 ^ (7 * i) := by
  rw [show 7 * (i + 1) = 7 + 7 * i by omega, Nat.pow_add]
theorem toNat_ofNat (n : Nat) (h : n < 256) : (UInt8.ofNat n).toNat = n := by simp; omega
/-- Numbers come back from their bytes. -/
theorem vgetA_put (k : Nat) : ∀ (i acc m : Nat) (more : List UInt8), i + k = 9 → m < 128 ^ (k + 1) → m * 2 ^ (7 * i) < 2 ^ 64 → (0 < i → 1 ≤ m) →
    vgetA i acc (vputF k m ++ more) = (acc + m * 2 ^ (7 * i), i + (vputF k m).length, 0) := by
  induction k with
  | zero =>
    intro i acc m more hi hm hlt h1
    obtain rfl : i = 9 := by omega
    have hm1 : m ≤ 1 := by
      have : 2 ^ (7 * 9) = 9223372036854775808 := by decide
      rw [this] at hlt; omega
    have e := toNat_ofNat m (by omega)
    have := h1 (by omega)
    simp only [vputF, List.cons_append, List.nil_append, vgetA, e]
    rw [if_neg (by omega), if_neg (by omega), if_pos (by omega)]
    simp
  | succ k ih =>
    intro i acc m more hi hm hlt h1
    by_cases h : m < 128
    · rw [vputF_lt _ _ h]
      have e := toNat_ofNat m (by omega)
      simp only [List.cons_append, List.nil_append, vgetA, e]
      rw [if_neg (by omega), if_neg (by omega), if_pos (by omega)]
      simp
    · rw [vputF_ge _ _ (by omega)]
      have e := toNat_ofNat (128 + m % 128) (by omega)
      simp only [List.cons_append, vgetA, e]
      rw [if_neg (by omega), if_neg (by omega), if_neg (by omega)]
      have e2 : (128 + m % 128) % 128 = m % 128 := by omega
      have hd : m = 128 * (m / 128) + m % 128 := by omega
      have e3 : acc + m % 128 * 2 ^ (7 * i) + m / 128 * 2 ^ (7 * (i + 1)) = acc + m * 2 ^ (7 * i) := by
        rw [pow_step]
        generalize 2 ^ (7 * i) = p
        have : m * p = (128 * (m / 128) + m % 128) * p := by rw [← hd]
        rw [this, Nat.add_mul, ← Nat.mul_assoc, Nat.mul_comm (m / 128) 128]
        omega
      rw [e2, ih (i + 1) _ (m / 128) more (by omega) (by rw [Nat.pow_succ] at hm; omega) ?_ (by omega), e3]
      · simp; omega
      · rw [pow_step, ← Nat.mul_assoc]
        refine Nat.lt_of_le_of_lt (Nat.mul_le_mul_right _ ?_) hlt
        omega
theorem vget_put (n : Nat) (h : n < 2 ^ 64) (more : List UInt8) : vget (vput n ++ more) = (n, (vput n).length, 0) := by
  have := vgetA_put 9 0 0 n more rfl (Nat.lt_of_lt_of_le h (by decide)) (by simpa using h) (by omega)
  simpa [vget, vput] using this
/-- Cut off, they are too short. -/
theorem vgetA_cut (k : Nat) : ∀ (i acc m c : Nat), i + k = 9 → c < (vputF k m).length → vgetA i acc ((vputF k m).take c) = (0, 0, 3) := by
  induction k with
  | zero =>
    intro i acc m c _ hc
    simp [vputF] at hc; subst hc; rfl
  | succ k ih =>
    intro i acc m c hi hc
    cases c with
    | zero => rfl
    | succ c =>
      by_cases h : m < 128
      · rw [vputF_lt _ _ h] at hc; simp at hc
      · rw [vputF_ge _ _ (by omega)] at hc ⊢
        have e := toNat_ofNat (128 + m % 128) (by omega)
        simp only [List.take_succ_cons, vgetA, e]
        rw [if_neg (by omega), if_neg (by omega), if_neg (by omega)]
        exact ih _ _ _ _ (by omega) (by simpa using hc)
theorem vget_cut (n c : Nat) (h : c < (vput n).length) : vget ((vput n).take c) = (0, 0, 3) := vgetA_cut 9 0 0 n c rfl h
/-- What is read are the bytes of what is told. -/
theorem vgetA_ok (k : Nat) : ∀ (i acc : Nat) (l : List UInt8) (n u : Nat), i + k = 9 → vgetA i acc l = (n, u, 0) →
    ∃ m, n = acc + m * 2 ^ (7 * i) ∧ u = i + (vputF k m).length ∧ m < 128 ^ (k + 1) ∧ m * 2 ^ (7 * i) < 2 ^ 64 ∧ (0 < i → 1 ≤ m) ∧ l = vputF k m ++ l.drop (vputF k m).length := by
  induction k with
  | zero =>
    intro i acc l n u hi h
    obtain rfl : i = 9 := by omega
    cases l with
    | nil => simp [vgetA] at h
    | cons c r =>
      simp only [vgetA] at h
      split at h
      · simp at h
      · split at h
        · simp at h
        · rename_i h1 h2
          have h1' : c.toNat ≤ 1 := by simpa using h1
          rw [if_pos (by omega)] at h
          simp only [Prod.mk.injEq] at h
          refine ⟨c.toNat, h.1.symm, by simp [vputF]; omega, by omega, ?_, by omega, by simp [vputF]⟩
          have : 2 ^ (7 * 9) = 9223372036854775808 := by decide
          rw [this]; omega
  | succ k ih =>
    intro i acc l n u hi h
    cases l with
    | nil => simp [vgetA] at h
    | cons c r =>
      simp only [vgetA] at h
      split at h
      · simp at h
      · split at h
        · simp at h
        · rename_i h1 h2
          split at h
          · rename_i h3
            simp only [Prod.mk.injEq] at h
            refine ⟨c.toNat, h.1.symm, ?_, ?_, ?_, by omega, ?_⟩
            · rw [vputF_lt _ _ h3]; simp; omega
            · exact Nat.lt_of_lt_of_le h3 (by rw [Nat.pow_succ, Nat.pow_succ]; have : 0 < 128 ^ k := Nat.pow_pos (by decide); omega)
            · have : 2 ^ (7 * i) ≤ 2 ^ 56 := Nat.pow_le_pow_right (by decide) (by omega)
              have h4 : c.toNat * 2 ^ (7 * i) ≤ 127 * 2 ^ 56 := Nat.mul_le_mul (by omega) this
              exact Nat.lt_of_le_of_lt h4 (by decide)
            · rw [vputF_lt _ _ h3]; simp
          · rename_i h3
            obtain ⟨m, e1, e2, e3, e4, e5, e6⟩ := ih (i + 1) _ r n u (by omega) h
            have hm1 : 1 ≤ m := e5 (by omega)
            have hc := c.toNat_lt
            refine ⟨128 * m + c.toNat % 128, ?_, ?_, ?_, ?_, by omega, ?_⟩
            · rw [e1, pow_step]
              generalize 2 ^ (7 * i) = p
              rw [Nat.add_mul, ← Nat.mul_assoc, Nat.mul_comm m 128]; omega
            · rw [vputF_ge _ _ (by omega), show (128 * m + c.toNat % 128) / 128 = m by omega, e2]; simp; omega
            · rw [Nat.pow_succ]; omega
            · rw [pow_step, ← Nat.mul_assoc] at e4
              have hp : 128 * 2 ^ (7 * i) = 2 ^ (7 * (i + 1)) := (pow_step i).symm
              have hdvd : ∃ q, 2 ^ 64 = 2 ^ (7 * (i + 1)) * q := ⟨2 ^ (64 - 7 * (i + 1)), by rw [← Nat.pow_add]; congr 1; omega⟩
              obtain ⟨q, hq⟩ := hdvd
              rw [hq, ← hp] at e4 ⊢
              generalize 2 ^ (7 * i) = p at e4 ⊢
              have e4' : m < q := by
                have : m * (128 * p) < q * (128 * p) := by rw [← Nat.mul_assoc, Nat.mul_comm q]; exact e4
                exact Nat.lt_of_mul_lt_mul_right this
              have : (128 * m + c.toNat % 128) * p < (128 * q) * p := by
                refine Nat.mul_lt_mul_of_pos_right (by omega) ?_
                rcases Nat.eq_zero_or_pos p with h0 | h0
                · subst h0; simp at e4
                · exact h0
              rw [Nat.mul_comm (128 * p) q, ← Nat.mul_assoc, Nat.mul_comm q 128]; exact this
            · rw [vputF_ge _ _ (by omega), show (128 * m + c.toNat % 128) / 128 = m by omega, show 128 + (128 * m + c.toNat % 128) % 128 = c.toNat by omega]
              simp only [List.cons_append, List.length_cons, List.drop_succ_cons]
              rw [← e6]; simp
theorem vget_ok {l : List UInt8} {n u : Nat} (h : vget l = (n, u, 0)) : n < 2 ^ 64 ∧ u = (vput n).length ∧ l = vput n ++ l.drop u := by
  obtain ⟨m, e1, e2, e3, e4, e5, e6⟩ := vgetA_ok 9 0 0 l n u rfl h
  simp at e1 e2 e4
  subst e1
  exact ⟨e4, e2, by rw [e2]; exact e6⟩
/-- Bit lengths. -/
def blen (n : Nat) : Nat := if n = 0 then 0 else Nat.log2 n + 1
theorem blen_shift (n k : Nat) (h : 2 ^ k ≤ n) : blen n = k + blen (n / 2 ^ k) := by
  have hp : 0 < 2 ^ k := Nat.two_pow_pos k
  have hn : n ≠ 0 := by omega
  have hq : n / 2 ^ k ≠ 0 := by
    have := Nat.div_pos h hp; omega
  unfold blen
  rw [if_neg hn, if_neg hq]
  have h1 := Nat.log2_self_le hq
  have h2 := Nat.lt_log2_self (n := n / 2 ^ k)
  have h3 : Nat.log2 n = k + Nat.log2 (n / 2 ^ k) := by
    rw [Nat.log2_eq_iff hn]
    constructor
    · rw [Nat.pow_add, Nat.mul_comm]
      exact Nat.le_trans (Nat.mul_le_mul_right _ h1) (Nat.div_mul_le_self _ _)
    · rw [show k + Nat.log2 (n / 2 ^ k) + 1 = (Nat.log2 (n / 2 ^ k) + 1) + k by omega, Nat.pow_add]
      rw [← Nat.div_lt_iff_lt_mul hp]; exact h2
  omega
theorem blen_small (n : Nat) (h : n < 128) : blen n ≤ 7 := by
  unfold blen
  split
  · omega
  · rename_i h0
    have := (Nat.log2_lt h0).2 (show n < 2 ^ 7 by omega)
    omega
def vsz (n : Nat) : Nat := max 1 ((blen n + 6) / 7)
theorem vsz_lt (n : Nat) (h : n < 128) : vsz n = 1 := by
  have := blen_small n h
  unfold vsz; omega
theorem vsz_ge (n : Nat) (h : 128 ≤ n) : vsz n = vsz (n / 128) + 1 := by
  have e := blen_shift n 7 (by omega)
  have h1 : 1 ≤ blen (n / 128) := by
    unfold blen
    rw [if_neg (by omega)]; omega
  unfold vsz
  rw [e]
  simp only [show (2 : Nat) ^ 7 = 128 from rfl]
  omega
theorem vputF_vsz (k : Nat) : ∀ n, n < 128 ^ (k + 1) → (vputF k n).length = vsz n := by
  induction k with
  | zero => intro n h; rw [vputF_lt _ _ (by omega), vsz_lt _ (by omega)]; rfl
  | succ k ih =>
    intro n h
    by_cases hl : n < 128
    · rw [vputF_lt _ _ hl, vsz_lt _ hl]; rfl
    · rw [vputF_ge _ _ (by omega), vsz_ge _ (by omega), List.length_cons, ih _ (by rw [Nat.pow_succ] at h; omega)]
theorem vput_vsz (n : Nat) (h : n < 2 ^ 64) : (vput n).length = vsz n := vputF_vsz 9 n (Nat.lt_of_lt_of_le h (by decide))
theorem vsz_mono : ∀ (b a : Nat), a ≤ b → vsz a ≤ vsz b := by
  intro b
  induction b using Nat.strongRecOn with
  | _ b ih =>
    intro a hab
    by_cases hb : b < 128
    · rw [vsz_lt _ hb, vsz_lt _ (by omega)]; omega
    · by_cases ha : a < 128
      · rw [vsz_lt _ ha, vsz_ge _ (by omega)]; omega
      · rw [vsz_ge b (by omega), vsz_ge a (by omega)]
        have := ih (b / 128) (by omega) (a / 128) (by omega)
        omega
/-- The document's way: how many bytes are at least 128, up to nine. -/
def cnt : Nat → List UInt8 → Nat
  | 0, _ => 0
  | _ + 1, [] => 0
  | k + 1, c :: r => if 128 ≤ c.toNat then 1 + cnt k r else 0
theorem cnt_le : ∀ (k : Nat) (l : List UInt8), cnt k l ≤ k ∧ cnt k l ≤ l.length
  | 0, _ => by simp [cnt]
  | _ + 1, [] => by simp [cnt]
  | k + 1, c :: r => by
    have := cnt_le k r
    simp only [cnt]; split <;> simp <;> omega
def hor : List UInt8 → Nat
  | [] => 0
  | c :: r => c.toNat % 128 + 128 * hor r
def rget (l : List UInt8) : Nat × Nat × Nat :=
  if cnt 9 l = l.length then (0, 0, 3)
  else if (cnt 9 l = 9 ∧ 1 < (l.getD (cnt 9 l) 0).toNat) ∨ (0 < cnt 9 l ∧ (l.getD (cnt 9 l) 0).toNat = 0) then (0, 0, 2)
  else (hor (l.take (cnt 9 l + 1)), cnt 9 l + 1, 0)
theorem rget_A (k : Nat) : ∀ (i acc : Nat) (l : List UInt8), i + k = 9 → vgetA i acc l =
    if cnt k l = l.length then (0, 0, 3)
    else if (i + cnt k l = 9 ∧ 1 < (l.getD (cnt k l) 0).toNat) ∨ (0 < i + cnt k l ∧ (l.getD (cnt k l) 0).toNat = 0) then (0, 0, 2)
    else (acc + 2 ^ (7 * i) * hor (l.take (cnt k l + 1)), i + cnt k l + 1, 0) := by
  induction k with
  | zero =>
    intro i acc l hi
    obtain rfl : i = 9 := by omega
    cases l with
    | nil => simp [vgetA, cnt]
    | cons c r =>
      simp only [vgetA, cnt, List.length_cons, List.getD_cons_zero]
      rw [if_neg (show ¬ 0 = r.length + 1 by omega)]
      by_cases h1 : 1 < c.toNat
      · simp [h1]
      · by_cases h2 : c.toNat = 0
        · simp [h2]
        · have h4 : c.toNat < 128 := by omega
          simp [h1, h2, h4, hor, Nat.mod_eq_of_lt h4, Nat.mul_comm]
  | succ k ih =>
    intro i acc l hi
    cases l with
    | nil => simp [vgetA, cnt]
    | cons c r =>
      by_cases h3 : 128 ≤ c.toNat
      · have ih' := ih (i + 1) (acc + (c.toNat % 128) * 2 ^ (7 * i)) r (by omega)
        have hcnt : cnt (k + 1) (c :: r) = cnt k r + 1 := by simp [cnt, h3]; omega
        simp only [vgetA, hcnt]
        rw [if_neg (by omega), if_neg (by omega), if_neg (by omega), ih']
        simp only [List.length_cons, List.getD_cons_succ, List.take_succ_cons, hor]
        rw [show i + 1 + cnt k r = i + (cnt k r + 1) by omega]
        have e1 : (cnt k r + 1 = r.length + 1) ↔ (cnt k r = r.length) := by omega
        simp only [e1]
        split
        · rfl
        · split
          · rfl
          · simp only [Prod.mk.injEq, and_true]
            rw [pow_step]
            generalize 2 ^ (7 * i) = p
            rw [Nat.mul_add, Nat.mul_comm (c.toNat % 128) p, ← Nat.mul_assoc p 128, Nat.mul_comm p 128]; omega
      · have hcnt : cnt (k + 1) (c :: r) = 0 := by simp [cnt, h3]
        simp only [vgetA, hcnt]
        rw [if_neg (by omega)]
        simp only [List.length_cons, List.getD_cons_zero, Nat.add_zero, Nat.zero_add]
        rw [if_neg (show ¬ 0 = r.length + 1 by omega)]
        by_cases h2 : c.toNat = 0 ∧ 0 < i
        · rw [if_pos h2, if_pos (.inr ⟨h2.2, h2.1⟩)]
        · rw [if_neg h2, if_pos (by omega), if_neg (by omega)]
          simp [hor, show c.toNat % 128 = c.toNat by omega, Nat.mul_comm]
theorem rget_eq (l : List UInt8) : rget l = vget l := by
  unfold vget
  rw [rget_A 9 0 0 l rfl]
  unfold rget
  simp
/-- All numbers' bytes; and back. -/
def vall (l : List UInt64) : List UInt8 := l.flatMap fun x => vput x.toNat
def vsplitF : Nat → List UInt8 → List UInt64 × Nat
  | 0, _ => ([], 0)
  | _ + 1, [] => ([], 0)
  | f + 1, c :: r =>
    match vget (c :: r) with
    | (n, k, 0) => let q := vsplitF f ((c :: r).drop k); (UInt64.ofNat n :: q.1, q.2)
    | (_, _, e) => ([], e)
theorem vget_err (l : List UInt8) : ∀ i acc, (vgetA i acc l).2.2 = 0 ∨ ((vgetA i acc l).1 = 0 ∧ (vgetA i acc l).2.1 = 0) := by
  induction l with
  | nil => intro i acc; right; simp [vgetA]
  | cons c r ih =>
    intro i acc
    simp only [vgetA]
    split
    · right; simp
    · split
      · right; simp
      · split
        · left; simp
        · exact ih _ _
theorem vget_used {l : List UInt8} {n k : Nat} (h : vget l = (n, k, 0)) : 1 ≤ k ∧ k ≤ l.length := by
  obtain ⟨_, e1, e2⟩ := vget_ok h
  have := vputF_len 9 n
  refine ⟨by rw [e1]; exact this.1, ?_⟩
  have h2 := congrArg List.length e2
  simp only [List.length_append, List.length_drop] at h2
  rw [← e1] at h2; omega
theorem vsplitF_fuel : ∀ (f : Nat) (l : List UInt8), l.length ≤ f → vsplitF f l = vsplitF l.length l := by
  intro f
  induction f using Nat.strongRecOn with
  | _ f ih =>
    intro l hl
    cases l with
    | nil => cases f <;> rfl
    | cons c r =>
      cases f with
      | zero => simp at hl
      | succ f =>
        simp only [vsplitF, List.length_cons]
        split
        · rename_i n k hv
          have hu := vget_used hv
          have e1 := ih f (by omega) ((c :: r).drop k) (by simp at hl ⊢; omega)
          have e2 := ih r.length (by simp at hl; omega) ((c :: r).drop k) (by simp; omega)
          rw [e1, e2]
        · rfl
def vsplit (l : List UInt8) : List UInt64 × Nat := vsplitF l.length l
theorem vsplit_nil : vsplit [] = ([], 0) := rfl
theorem vsplit_ok {l : List UInt8} {n k : Nat} (h : vget l = (n, k, 0)) : vsplit l = (UInt64.ofNat n :: (vsplit (l.drop k)).1, (vsplit (l.drop k)).2) := by
  have hu := vget_used h
  cases l with
  | nil => simp at hu; omega
  | cons c r =>
    unfold vsplit
    simp only [vsplitF, List.length_cons, h]
    rw [vsplitF_fuel r.length ((c :: r).drop k) (by simp; omega)]
theorem vsplit_no {l : List UInt8} {n k e : Nat} (hl : l ≠ []) (h : vget l = (n, k, e)) (he : e ≠ 0) : vsplit l = ([], e) := by
  cases l with
  | nil => exact absurd rfl hl
  | cons c r =>
    unfold vsplit
    simp only [vsplitF, List.length_cons, h]
theorem vall_cons (x : UInt64) (l : List UInt64) : vall (x :: l) = vput x.toNat ++ vall l := rfl
theorem vsplit_all (l : List UInt64) : vsplit (vall l) = (l, 0) := by
  induction l with
  | nil => rfl
  | cons x l ih =>
    rw [vall_cons]
    have h := vget_put x.toNat x.toNat_lt (vall l)
    rw [vsplit_ok h, List.drop_left, ih]
    simp
theorem all_vsplit : ∀ (k : Nat) (l : List UInt8), l.length ≤ k → (vsplit l).2 = 0 → vall (vsplit l).1 = l := by
  intro k
  induction k with
  | zero => intro l h _; obtain rfl : l = [] := List.length_eq_zero_iff.1 (by omega); rfl
  | succ k ih =>
    intro l h he
    by_cases hl : l = []
    · subst hl; rfl
    · obtain ⟨n, u, e, hv⟩ : ∃ n u e, vget l = (n, u, e) := ⟨_, _, _, rfl⟩
      by_cases e0 : e = 0
      · subst e0
        rw [vsplit_ok hv] at he ⊢
        obtain ⟨h1, h2, h3⟩ := vget_ok hv
        have hu := vget_used hv
        have := ih (l.drop u) (by simp; omega) he
        rw [vall_cons, this]
        rw [show (UInt64.ofNat n).toNat = n by simp; omega]
        exact h3.symm
      · rw [vsplit_no hl hv e0] at he
        exact absurd he e0
theorem vall_snoc (l : List UInt64) (x : UInt64) : vall (l ++ [x]) = vall l ++ vput x.toNat := by simp [vall]
theorem vall_len (l : List UInt64) : (vall l).length ≤ 10 * l.length := by
  induction l with
  | nil => simp [vall]
  | cons x l ih => rw [vall_cons]; have := vputF_len 9 x.toNat; unfold vput; simp; omega
theorem vsplit_len : ∀ (k : Nat) (l : List UInt8), l.length ≤ k → (vsplit l).1.length ≤ l.length := by
  intro k
  induction k with
  | zero => intro l h; obtain rfl : l = [] := List.length_eq_zero_iff.1 (by omega); simp [vsplit_nil]
  | succ k ih =>
    intro l h
    by_cases hl : l = []
    · subst hl; simp [vsplit_nil]
    · obtain ⟨n, u, e, hv⟩ : ∃ n u e, vget l = (n, u, e) := ⟨_, _, _, rfl⟩
      by_cases e0 : e = 0
      · subst e0
        rw [vsplit_ok hv]
        have hu := vget_used hv
        have := ih (l.drop u) (by simp; omega)
        simp at this ⊢; omega
      · rw [vsplit_no hl hv e0]; simp
/-- What Split tells: nothing beside an error. -/
def vsplitR (l : List UInt8) : List UInt64 := if (vsplit l).2 = 0 then (vsplit l).1 else []
theorem hor_drop : ∀ (l : List UInt8) (j : Nat), hor (l.drop j) ≤ hor l
  | [], j => by simp
  | c :: r, 0 => by simp
  | c :: r, j + 1 => by
    have := hor_drop r j
    simp only [List.drop_succ_cons, hor]
    omega
theorem cnt_step (l : List UInt8) (k : Nat) (h9 : k < 9) (hl : k < l.length) (hc : 128 ≤ (l[k]).toNat) : cnt (9 - k) (l.drop k) = 1 + cnt (9 - (k + 1)) (l.drop (k + 1)) := by
  rw [List.drop_eq_getElem_cons hl, show 9 - k = (9 - (k + 1)) + 1 by omega]
  simp only [cnt]
  rw [if_pos hc]
theorem cnt_stop (l : List UInt8) (k : Nat) (h : l.length ≤ k ∨ 9 ≤ k ∨ ∃ hl : k < l.length, (l[k]).toNat < 128) : cnt (9 - k) (l.drop k) = 0 := by
  rcases h with h | h | ⟨hl, h⟩
  · rw [List.drop_eq_nil_of_le h]; cases 9 - k <;> rfl
  · rw [show 9 - k = 0 by omega]; rfl
  · rw [List.drop_eq_getElem_cons hl]
    cases 9 - k with
    | zero => rfl
    | succ n => simp only [cnt]; rw [if_neg (by omega)]
end Go.Tum.Vint
