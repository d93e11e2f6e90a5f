/- The sum as a division of one great number; bursts of up to 32 bits are found. -/
import Derived.Test.YtijpokajhjhllaaGreatDoorCrc
namespace Go.Tum.Crc

/-- The bytes as one number, the first byte lowest. -/
def num : List UInt8 → Nat
  | [] => 0
  | b :: r => b.toNat ^^^ (256 * num r)

theorem pow_mul_xor (k a b : Nat) : 2 ^ k * (a ^^^ b) = (2 ^ k * a) ^^^ (2 ^ k * b) := by
  apply Nat.eq_of_testBit_eq; intro i
  rw [Nat.testBit_xor, Nat.testBit_two_pow_mul, Nat.testBit_two_pow_mul, Nat.testBit_two_pow_mul, Nat.testBit_xor]
  cases decide (i ≥ k) <;> simp
theorem mul256_xor (a b : Nat) : 256 * (a ^^^ b) = (256 * a) ^^^ (256 * b) := pow_mul_xor 8 a b
theorem divN8 (m : Nat) : divN 8 (256 * m) = m := divN_even 8 m
theorem num_cons (b : UInt8) (r : List UInt8) : num (b :: r) = b.toNat ^^^ (256 * num r) := rfl

theorem crcFold_num : ∀ (l : List UInt8) (s : Nat), crcFold s l = divN (8 * l.length) (s ^^^ num l)
  | [], s => by simp [crcFold, num, divN]
  | b :: r, s => by
    have ih := crcFold_num r (crcStep s b)
    have e : crcFold s (b :: r) = crcFold (crcStep s b) r := rfl
    rw [e, ih]
    have e2 : crcStep s b ^^^ num r = divN 8 (s ^^^ num (b :: r)) := by
      rw [num_cons, crcStep, ← Nat.xor_assoc, divN_xor 8 (s ^^^ b.toNat), divN8]
    rw [e2, ← divN_add]
    congr 1

theorem divStep_inj {x y : Nat} (hx : x < 4294967296) (hy : y < 4294967296) (h : divStep x = divStep y) : x = y := by
  have key : ∀ a b : Nat, a < 2147483648 → b < 2147483648 → a ^^^ 2197175160 ≠ b := by
    intro a b ha hb e
    have h1 : (a ^^^ 2197175160).testBit 31 = true := by
      rw [Nat.testBit_xor, Nat.testBit_lt_two_pow (show a < 2 ^ 31 by omega)]; decide
    rw [e, Nat.testBit_lt_two_pow (show b < 2 ^ 31 by omega)] at h1
    cases h1
  unfold divStep at h
  split at h <;> split at h
  · have := congrArg (· ^^^ 2197175160) h
    simp only [xor_xor_cancel] at this
    omega
  · exact absurd h (key _ _ (by omega) (by omega))
  · exact absurd h.symm (key _ _ (by omega) (by omega))
  · omega
theorem divN_inj (k : Nat) : ∀ {x y : Nat}, x < 4294967296 → y < 4294967296 → divN k x = divN k y → x = y := by
  induction k with
  | zero => intro x y _ _ h; exact h
  | succ k ih => intro x y hx hy h; exact ih hx hy (divStep_inj (divN_lt k x hx) (divN_lt k y hy) h)

theorem num_append : ∀ (a b : List UInt8), num (a ++ b) = num a ^^^ (256 ^ a.length * num b)
  | [], b => by simp [num]
  | x :: r, b => by
    simp only [List.cons_append, num, num_append r b, List.length_cons]
    rw [mul256_xor, Nat.xor_assoc, ← Nat.mul_assoc, Nat.pow_succ, Nat.mul_comm (256 ^ r.length) 256]

theorem num_four (n : Nat) (h : n < 4294967296) : num (four n) = n := by
  have e : ∀ m : Nat, (UInt8.ofNat (m % 256)).toNat = m % 256 := fun m => by simp
  have st : ∀ m : Nat, m % 256 ^^^ 256 * (m / 256) = m := fun m => by rw [Nat.xor_comm]; exact (split256 m).symm
  unfold four
  simp only [num, e]
  rw [Nat.mul_zero, Nat.xor_zero, show n / 16777216 % 256 = n / 16777216 by omega]
  have h1 : n / 65536 % 256 ^^^ 256 * (n / 16777216) = n / 65536 := by
    have := st (n / 65536); rwa [Nat.div_div_eq_div_mul] at this
  rw [h1]
  have h2 : n / 256 % 256 ^^^ 256 * (n / 65536) = n / 256 := by
    have := st (n / 256); rwa [Nat.div_div_eq_div_mul] at this
  rw [h2]
  exact st n

theorem not_eq_xor (s : Nat) (h : s < 4294967296) : 4294967295 - s = s ^^^ 4294967295 := by
  have e : s ^^^ 4294967295 = 2 ^ 32 - 1 - s := by
    apply Nat.eq_of_testBit_eq; intro i
    rw [Nat.testBit_xor, show (4294967295 : Nat) = 2 ^ 32 - 1 from rfl, Nat.testBit_two_pow_sub_one, Nat.sub_sub, Nat.add_comm 1 s, Nat.testBit_two_pow_sub_succ (by omega)]
    by_cases hi : i < 32
    · simp [hi]
    · simp [hi]
      exact Nat.testBit_lt_two_pow (Nat.lt_of_lt_of_le h (show 2 ^ 32 ≤ 2 ^ i from Nat.pow_le_pow_right (by decide) (by omega)))
  omega

/-- What has its sum behind it comes to one and the same remainder. -/
theorem fold_put (l : List UInt8) : crcFold 4294967295 (put l) = divN 32 4294967295 := by
  unfold put sum more
  have hs := crcFold_lt l 4294967295 (by omega)
  have e : crcFold 4294967295 (l ++ four (4294967295 - crcFold (4294967295 - 0) l)) = crcFold (crcFold 4294967295 l) (four (4294967295 - crcFold (4294967295 - 0) l)) := by
    unfold crcFold; rw [List.foldl_append]
  rw [e, Nat.sub_zero]
  generalize crcFold 4294967295 l = s at *
  rw [crcFold_num, num_four _ (by omega), not_eq_xor s hs, ← Nat.xor_assoc, Nat.xor_self, Nat.zero_xor]
  rfl
theorem fold_isPut {l : List UInt8} (h : isPut l = true) : crcFold 4294967295 l = divN 32 4294967295 := by
  unfold isPut at h
  simp only [Bool.and_eq_true, beq_iff_eq] at h
  rw [← h.2]; exact fold_put _

/-- One bit turned. -/
def flip (l : List UInt8) (k : Nat) : List UInt8 := l.set (k / 8) ((l.getD (k / 8) 0) ^^^ UInt8.ofNat (2 ^ (k % 8)))
theorem flip_length (l : List UInt8) (k : Nat) : (flip l k).length = l.length := by simp [flip]
theorem num_flip : ∀ (l : List UInt8) (k : Nat), k < 8 * l.length → num (flip l k) = num l ^^^ 2 ^ k
  | [], k, h => by simp at h
  | b :: r, k, h => by
    by_cases hk : k < 8
    · have e : flip (b :: r) k = (b ^^^ UInt8.ofNat (2 ^ k)) :: r := by
        unfold flip
        rw [show k / 8 = 0 by omega, show k % 8 = k by omega]; rfl
      have hp : 2 ^ k < 256 := Nat.lt_of_lt_of_le (Nat.pow_lt_pow_right (by decide) hk) (by decide)
      rw [e]
      simp only [num, UInt8.toNat_xor]
      rw [show (UInt8.ofNat (2 ^ k)).toNat = 2 ^ k by simp; omega, Nat.xor_assoc, Nat.xor_assoc, Nat.xor_comm (2 ^ k)]
    · have e : flip (b :: r) k = b :: flip r (k - 8) := by
        unfold flip
        rw [show k / 8 = (k - 8) / 8 + 1 by omega, show (k - 8) % 8 = k % 8 by omega]; rfl
      rw [e]
      simp only [num]
      rw [num_flip r (k - 8) (by simp at h; omega), mul256_xor, show 256 * 2 ^ (k - 8) = 2 ^ k by rw [show (256 : Nat) = 2 ^ 8 from rfl, ← Nat.pow_add]; congr 1; omega, Nat.xor_assoc]

/-- Of a number's bits those below i, from place 'at' on, turned. -/
def turnHit (at_ : Int) (t i n : Nat) : Bool := t / 2 ^ i % 2 == 1 && decide (0 ≤ at_ + i) && decide (at_ + i < 8 * (n : Int))
def turnN (at_ : Int) (t : Nat) (l : List UInt8) : Nat → List UInt8
  | 0 => l
  | i + 1 => if turnHit at_ t i l.length then flip (turnN at_ t l i) (at_ + i).toNat else turnN at_ t l i
theorem turnN_length (at_ : Int) (t : Nat) (l : List UInt8) : ∀ i, (turnN at_ t l i).length = l.length
  | 0 => rfl
  | i + 1 => by
    rw [turnN]; split
    · rw [flip_length]; exact turnN_length at_ t l i
    · exact turnN_length at_ t l i
theorem num_turnN (at_ : Int) (t : Nat) (l : List UInt8) : ∀ i, ∃ d, d < 2 ^ i ∧ num (turnN at_ t l i) = num l ^^^ 2 ^ at_.toNat * d
  | 0 => ⟨0, by simp [turnN]⟩
  | i + 1 => by
    obtain ⟨d, hd, e⟩ := num_turnN at_ t l i
    rw [turnN]
    split
    · rename_i h
      simp only [turnHit, Bool.and_eq_true, decide_eq_true_eq] at h
      have hj : ∃ j, j ≤ i ∧ (at_ + i).toNat = at_.toNat + j := by
        rcases Int.le_total 0 at_ with h0 | h0
        · exact ⟨i, Nat.le_refl _, by omega⟩
        · exact ⟨(at_ + i).toNat, by omega, by omega⟩
      obtain ⟨j, hj, ej⟩ := hj
      refine ⟨d ^^^ 2 ^ j, ?_, ?_⟩
      · exact Nat.xor_lt_two_pow (Nat.lt_of_lt_of_le hd (Nat.pow_le_pow_right (by decide) (by omega))) (Nat.pow_lt_pow_right (by decide) (by omega))
      · rw [num_flip _ _ (by rw [turnN_length]; omega), e, ej, Nat.pow_add, pow_mul_xor, Nat.xor_assoc]
    · exact ⟨d, Nat.lt_of_lt_of_le hd (Nat.pow_le_pow_right (by decide) (by omega)), e⟩
theorem num_inj : ∀ (a b : List UInt8), a.length = b.length → num a = num b → a = b
  | [], [], _, _ => rfl
  | [], y :: s, h, _ => by simp at h
  | x :: r, [], h, _ => by simp at h
  | x :: r, y :: s, h, e => by
    have hx := x.toNat_lt
    have hy := y.toNat_lt
    simp only [num] at e
    have e1 := congrArg (· % 2 ^ 8) e
    have e2 := congrArg (· / 2 ^ 8) e
    simp only [Nat.xor_mod_two_pow, Nat.xor_div_two_pow, show (256 : Nat) = 2 ^ 8 from rfl, Nat.mul_mod_right, Nat.xor_zero, Nat.mul_div_cancel_left _ (show 0 < 2 ^ 8 by decide)] at e1 e2
    rw [Nat.mod_eq_of_lt (by omega), Nat.mod_eq_of_lt (by omega)] at e1
    rw [Nat.div_eq_of_lt (by omega), Nat.div_eq_of_lt (by omega), Nat.zero_xor, Nat.zero_xor] at e2
    rw [UInt8.toNat_inj.1 e1, num_inj r s (by simpa using h) e2]
theorem num_lt : ∀ (l : List UInt8), num l < 2 ^ (8 * l.length)
  | [] => by simp [num]
  | b :: r => by
    simp only [num, List.length_cons]
    have := num_lt r
    have hb := b.toNat_lt
    refine Nat.xor_lt_two_pow (Nat.lt_of_lt_of_le hb (show 2 ^ 8 ≤ _ from Nat.pow_le_pow_right (by decide) (by omega))) ?_
    rw [show 8 * (r.length + 1) = 8 + 8 * r.length by omega, Nat.pow_add]
    omega

/-- **A burst of up to 32 bits is found.** -/
theorem burst (l : List UInt8) (at_ : Int) (t : Nat) (h : isPut l = true) (hne : turnN at_ t l 32 ≠ l) : isPut (turnN at_ t l 32) = false := by
  cases hp : isPut (turnN at_ t l 32) with
  | false => rfl
  | true =>
    exfalso
    obtain ⟨d, hd, e⟩ := num_turnN at_ t l 32
    have hlen := turnN_length at_ t l 32
    have h1 := fold_isPut h
    have h2 := fold_isPut hp
    rw [crcFold_num] at h1 h2
    rw [hlen, e, ← Nat.xor_assoc, divN_xor, h1] at h2
    have h3 : divN (8 * l.length) (2 ^ at_.toNat * d) = 0 := by
      have := congrArg (divN 32 4294967295 ^^^ ·) h2
      simp only [← Nat.xor_assoc, Nat.xor_self, Nat.zero_xor] at this
      exact this
    have hd0 : d ≠ 0 := by
      intro h0
      subst h0
      apply hne
      exact num_inj _ _ hlen (by rw [e]; simp)
    have hpow : 2 ^ at_.toNat * d < 2 ^ (8 * l.length) := by
      have a := num_lt (turnN at_ t l 32)
      have b := num_lt l
      rw [hlen] at a
      have : 2 ^ at_.toNat * d = num l ^^^ num (turnN at_ t l 32) := by rw [e, ← Nat.xor_assoc, Nat.xor_self, Nat.zero_xor]
      rw [this]; exact Nat.xor_lt_two_pow b a
    have hle : at_.toNat ≤ 8 * l.length := by
      rcases Nat.lt_or_ge (8 * l.length) at_.toNat with hlt | hge
      · exfalso
        have h4 : 2 ^ (8 * l.length) ≤ 2 ^ at_.toNat := Nat.pow_le_pow_right (by decide) (by omega)
        have h5 : 2 ^ at_.toNat * 1 ≤ 2 ^ at_.toNat * d := Nat.mul_le_mul_left _ (by omega)
        omega
      · exact hge
    have h6 : divN (8 * l.length - at_.toNat) d = 0 := by
      have := divN_add (8 * l.length - at_.toNat) at_.toNat (2 ^ at_.toNat * d)
      rw [Nat.sub_add_cancel hle, divN_even, h3] at this
      exact this.symm
    have := divN_inj (8 * l.length - at_.toNat) (x := d) (y := 0) hd (by omega) (by rw [h6, divN_zero])
    exact hd0 this
end Go.Tum.Crc
