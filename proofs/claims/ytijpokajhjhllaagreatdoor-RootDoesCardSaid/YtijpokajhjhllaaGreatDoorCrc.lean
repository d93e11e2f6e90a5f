/- The sum, as plain mathematics. -/
namespace Go.Tum.Crc
def divStep (n : Nat) : Nat := if n % 2 = 1 then (n / 2) ^^^ 2197175160 else n / 2
def divN : Nat → Nat → Nat
  | 0, n => n
  | k + 1, n => divStep (divN k n)
abbrev M : Nat := 4294967296
theorem divStep_lt (n : Nat) (h : n < 4294967296) : divStep n < 4294967296 := by
  unfold divStep; split
  · exact Nat.xor_lt_two_pow (n := 32) (by omega) (by decide)
  · omega
theorem divN_lt (k n : Nat) (h : n < 4294967296) : divN k n < 4294967296 := by
  induction k with
  | zero => exact h
  | succ k ih => exact divStep_lt _ ih
theorem xor_mod2 (a b : Nat) : (a ^^^ b) % 2 = (a % 2 + b % 2) % 2 := by
  have h1 := Nat.testBit_zero (x := a ^^^ b)
  rw [Nat.testBit_xor, Nat.testBit_zero, Nat.testBit_zero] at h1
  rcases Nat.mod_two_eq_zero_or_one a with ha | ha <;> rcases Nat.mod_two_eq_zero_or_one b with hb | hb <;>
    rcases Nat.mod_two_eq_zero_or_one (a ^^^ b) with hc | hc <;> simp_all
theorem xor_div2 (a b : Nat) : (a ^^^ b) / 2 = a / 2 ^^^ b / 2 := by
  apply Nat.eq_of_testBit_eq; intro i
  rw [Nat.testBit_xor, Nat.testBit_div_two, Nat.testBit_div_two, Nat.testBit_div_two, Nat.testBit_xor]
theorem xor_xor_cancel (a b : Nat) : a ^^^ b ^^^ b = a := by rw [Nat.xor_assoc, Nat.xor_self, Nat.xor_zero]
theorem xor_mid (a b c d : Nat) : (a ^^^ b) ^^^ (c ^^^ d) = (a ^^^ c) ^^^ (b ^^^ d) := by
  rw [Nat.xor_assoc, Nat.xor_assoc]; congr 1
  rw [← Nat.xor_assoc, ← Nat.xor_assoc, Nat.xor_comm b c]
theorem divStep_xor (a b : Nat) : divStep (a ^^^ b) = divStep a ^^^ divStep b := by
  unfold divStep
  rw [xor_mod2, xor_div2]
  rcases Nat.mod_two_eq_zero_or_one a with ha | ha <;> rcases Nat.mod_two_eq_zero_or_one b with hb | hb <;> simp only [ha, hb] <;> simp
  · rw [Nat.xor_assoc]
  · rw [Nat.xor_assoc, Nat.xor_assoc, Nat.xor_comm 2197175160]
  · rw [xor_mid, Nat.xor_self, Nat.xor_zero]
theorem divN_xor (k a b : Nat) : divN k (a ^^^ b) = divN k a ^^^ divN k b := by
  induction k with
  | zero => rfl
  | succ k ih => simp only [divN, ih, divStep_xor]
theorem divN_zero (k : Nat) : divN k 0 = 0 := by
  induction k with
  | zero => rfl
  | succ k ih => simp only [divN, ih]; rfl
/-- One byte more, bit by bit. -/
def crcStep (n : Nat) (b : UInt8) : Nat := divN 8 (n ^^^ b.toNat)
def tab (i : Nat) : Nat := divN 8 i
theorem tab_lt (i : Nat) (h : i < 256) : tab i < 4294967296 := divN_lt _ _ (by omega)
theorem divN_add (j k n : Nat) : divN (j + k) n = divN j (divN k n) := by
  induction j with
  | zero => rw [Nat.zero_add]; rfl
  | succ j ih => rw [Nat.succ_add]; simp only [divN, ih]
theorem divN_even : ∀ (k m : Nat), divN k (2 ^ k * m) = m := by
  intro k
  induction k with
  | zero => intro m; simp [divN]
  | succ k ih =>
    intro m
    simp only [divN]
    rw [show 2 ^ (k + 1) * m = 2 ^ k * (2 * m) by rw [Nat.pow_succ, Nat.mul_assoc], ih]
    unfold divStep
    rw [if_neg (by omega)]; omega
theorem split256 (n : Nat) : n = (256 * (n / 256)) ^^^ (n % 256) := by
  apply Nat.eq_of_testBit_eq; intro i
  rw [Nat.testBit_xor, show (256 : Nat) = 2 ^ 8 from rfl, Nat.testBit_two_pow_mul, Nat.testBit_mod_two_pow, Nat.testBit_div_two_pow]
  by_cases h : i < 8
  · simp [h, show ¬ 8 ≤ i by omega]
  · simp [h, show 8 ≤ i by omega, show i - 8 + 8 = i by omega]
/-- One byte more, by the table. -/
theorem crcStep_tab (n : Nat) (b : UInt8) : crcStep n b = (n / 256) ^^^ tab ((n % 256) ^^^ b.toNat) := by
  unfold crcStep tab
  conv => lhs; rw [split256 n]
  rw [Nat.xor_assoc, divN_xor, show (256 : Nat) = 2 ^ 8 from rfl, divN_even]
def crcFold (n : Nat) (l : List UInt8) : Nat := l.foldl crcStep n
theorem crcStep_lt (n : Nat) (b : UInt8) (h : n < 4294967296) : crcStep n b < 4294967296 :=
  divN_lt 8 _ (Nat.xor_lt_two_pow (n := 32) h (by have := b.toNat_lt; omega))
theorem crcFold_lt (l : List UInt8) : ∀ n, n < 4294967296 → crcFold n l < 4294967296 := by
  induction l with
  | nil => intro n h; exact h
  | cons b l ih => intro n h; exact ih _ (crcStep_lt n b h)
theorem crcFold_snoc (n : Nat) (l : List UInt8) (k : Nat) (h : k < l.length) : crcFold n (l.take (k + 1)) = crcStep (crcFold n (l.take k)) l[k] := by
  unfold crcFold; rw [List.take_succ_eq_append_getElem h, List.foldl_append]; rfl
/-- The sum of what has a sum, and more. -/
def more (s : Nat) (l : List UInt8) : Nat := 4294967295 - crcFold (4294967295 - s) l
theorem more_lt (s : Nat) (l : List UInt8) : more s l < 4294967296 := by unfold more; omega
def sum (l : List UInt8) : Nat := more 0 l
/-- A number's four bytes, the lowest first. -/
def four (n : Nat) : List UInt8 := [UInt8.ofNat (n % 256), UInt8.ofNat (n / 256 % 256), UInt8.ofNat (n / 65536 % 256), UInt8.ofNat (n / 16777216 % 256)]
def put (l : List UInt8) : List UInt8 := l ++ four (sum l)
theorem put_length (l : List UInt8) : (put l).length = l.length + 4 := by simp [put, four]
def isPut (l : List UInt8) : Bool := decide (4 ≤ l.length) && (put (l.take (l.length - 4)) == l)
def cut (l : List UInt8) : List UInt8 := if isPut l then l.take (l.length - 4) else []
theorem isPut_eq (l : List UInt8) (h : 4 ≤ l.length) : isPut l = (four (sum (l.take (l.length - 4))) == l.drop (l.length - 4)) := by
  unfold isPut put
  simp only [h, decide_true, Bool.true_and]
  rw [Bool.eq_iff_iff, beq_iff_eq, beq_iff_eq]
  constructor
  · intro e
    have := congrArg (List.drop (l.length - 4)) e
    rwa [List.drop_append_of_le_length (by simp), List.drop_take_self, List.nil_append] at this
  · intro e
    rw [e, List.take_append_drop]
theorem take_put (l : List UInt8) : (put l).take ((put l).length - 4) = l := by
  rw [put_length]; simp [put]
theorem isPut_put (l : List UInt8) : isPut (put l) = true := by
  unfold isPut
  rw [take_put, put_length]; simp
theorem cut_put (l : List UInt8) : cut (put l) = l := by
  unfold cut
  rw [isPut_put, if_pos rfl, take_put]
theorem more_more (s : Nat) (hs : s < 4294967296) (a b : List UInt8) : more (more s a) b = more s (a ++ b) := by
  unfold more
  have := crcFold_lt a (4294967295 - s) (by omega)
  rw [show 4294967295 - (4294967295 - crcFold (4294967295 - s) a) = crcFold (4294967295 - s) a by omega]
  unfold crcFold; rw [List.foldl_append]
end Go.Tum.Crc
