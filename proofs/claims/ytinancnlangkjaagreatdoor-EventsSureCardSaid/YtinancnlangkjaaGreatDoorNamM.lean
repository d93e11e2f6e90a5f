/- Names of files: mathematics. -/
import Derived.Test.YtinancnlangkjaaGreatDoorLib
import Derived.Lib.ItoaNum
import Derived.Lib.TrimUEq
import Derived.Lib.TrimAscii
set_option linter.unusedSimpArgs false
set_option linter.unusedVariables false
namespace Go.Nam
open Go

def letL (k : UInt8) : Bool := k == 109 || (k == 101 || k == 115)
/-- A number's digits. -/
abbrev dec (n : Nat) : List UInt8 := Lib.decDigits n
def nameL (k : UInt8) (n : Nat) : List UInt8 := k :: 46 :: dec n
/-- A number of its digits: none ahead may be 0. -/
def num : Bool → Nat → List UInt8 → Option Nat
  | _, n, [] => some n
  | f, n, b :: r => if decide (48 ≤ b.toNat) && (decide (b.toNat ≤ 57) && (f || n != 0)) then num false (10 * n + (b.toNat - 48)) r else none
def readL (s : List UInt8) : Option (UInt8 × Nat) := match s with
  | k :: p :: ds => if letL k && (p == 46 && (decide (1 ≤ ds.length) && decide (ds.length ≤ 10))) then (num true 0 ds).map fun n => (k, n) else none
  | _ => none
theorem num_app (f : Bool) (n : Nat) (l : List UInt8) (b : UInt8) : num f n (l ++ [b]) = (num f n l).bind fun m => if decide (48 ≤ b.toNat) && (decide (b.toNat ≤ 57) && ((f && l.isEmpty) || m != 0)) then some (10 * m + (b.toNat - 48)) else none := by
  induction l generalizing f n with
  | nil => simp [num]
  | cons a r ih =>
    rw [List.cons_append, num, num]
    split
    · rw [ih]; simp
    · simp
theorem dec_ne (n : Nat) : dec n ≠ [] := by
  unfold dec
  rw [Lib.decDigits]
  split <;> simp
theorem u8_digit {k : Nat} (h : k < 10) : (UInt8.ofNat (48 + k)).toNat = 48 + k := by
  rw [UInt8.toNat_ofNat']
  omega
theorem num_dec (u : Nat) : num true 0 (dec u) = some u := by
  induction u using Nat.strongRecOn with
  | _ u ih =>
    unfold dec
    rw [Lib.decDigits]
    by_cases h : u < 10
    · rw [dif_pos h]
      have := u8_digit h
      simp only [num, this, Bool.true_or, Bool.and_true]
      rw [if_pos (by simp; omega)]
      simp
    · rw [dif_neg h, num_app, ih (u / 10) (by omega)]
      have := u8_digit (Nat.mod_lt u (show 10 > 0 by omega))
      simp only [Option.bind_some, this]
      rw [if_pos (by simp; omega)]
      congr 1
      omega
theorem rev_ind {α : Type} {P : List α → Prop} (h0 : P []) (h1 : ∀ l b, P l → P (l ++ [b])) : ∀ (n : Nat) (l : List α), l.length = n → P l
  | 0, l, h => by rw [List.length_eq_zero_iff.1 h]; exact h0
  | n + 1, l, h => by
    rcases List.eq_nil_or_concat l with rfl | ⟨L, b, rfl⟩
    · exact h0
    · rw [List.concat_eq_append] at h ⊢; exact h1 L b (rev_ind h0 h1 n L (by simpa using h))
theorem dec_num (l : List UInt8) : ∀ n : Nat, l ≠ [] → num true 0 l = some n → l = dec n ∧ n < 10 ^ l.length := by
  refine rev_ind (P := fun l => ∀ n : Nat, l ≠ [] → num true 0 l = some n → l = dec n ∧ n < 10 ^ l.length) ?_ ?_ l.length l rfl
  · intro n h; exact absurd rfl h
  · intro l b ih n _ h
    rw [num_app] at h
    by_cases hl : l = []
    · subst hl
      simp only [num, Option.bind_some] at h
      split at h
      · rename_i hc
        simp at hc
        have hn : n = b.toNat - 48 := by simpa using h.symm
        have h10 : n < 10 := by omega
        refine ⟨?_, by simpa using h10⟩
        unfold dec
        rw [Lib.decDigits, dif_pos h10]
        have : UInt8.ofNat (48 + n) = b := by
          apply UInt8.toNat_inj.1
          rw [u8_digit h10]; omega
        rw [this]; rfl
      · cases h
    · cases hm : num true 0 l with
      | none => rw [hm] at h; cases h
      | some m =>
        rw [hm] at h
        simp only [Option.bind_some] at h
        obtain ⟨h1, h2⟩ := ih m hl hm
        split at h
        · rename_i hc
          have hle : l.isEmpty = false := by cases l with
            | nil => exact absurd rfl hl
            | cons a r => rfl
          simp [hle] at hc
          have hn : n = 10 * m + (b.toNat - 48) := by simpa using h.symm
          have hb : b.toNat - 48 < 10 := by omega
          have e1 : n / 10 = m := by omega
          have e2 : n % 10 = b.toNat - 48 := by omega
          have h10 : ¬ n < 10 := by omega
          refine ⟨?_, ?_⟩
          · unfold dec
            rw [Lib.decDigits, dif_neg h10, e1, e2]
            have : UInt8.ofNat (48 + (b.toNat - 48)) = b := by
              apply UInt8.toNat_inj.1
              rw [u8_digit hb]; omega
            rw [this]
            exact congrArg (· ++ [b]) h1
          · rw [List.length_append, List.length_singleton, Nat.pow_succ]
            omega
        · cases h
theorem dec_len {n : Nat} : ∀ {k : Nat}, n < 10 ^ (k + 1) → (dec n).length ≤ k + 1 := by
  induction n using Nat.strongRecOn with
  | _ n ih =>
    intro k h
    unfold dec
    rw [Lib.decDigits]
    by_cases h10 : n < 10
    · rw [dif_pos h10]; simp
    · rw [dif_neg h10, List.length_append, List.length_singleton]
      cases k with
      | zero => simp at h; omega
      | succ k =>
        have h2 : n / 10 < 10 ^ (k + 1) := by
          rw [Nat.pow_succ] at h
          omega
        have := ih (n / 10) (by omega) h2
        unfold dec at this
        omega
theorem read_name {k : UInt8} {n : Nat} (hk : letL k = true) (hn : n < 10000000000) : readL (nameL k n) = some (k, n) := by
  unfold readL nameL
  dsimp only
  have h1 : (dec n).length ≤ 10 := dec_len (k := 9) hn
  have h2 : 1 ≤ (dec n).length := by
    have := dec_ne n
    cases h : dec n with
    | nil => exact absurd h this
    | cons a r => simp
  rw [if_pos (by simp [hk, h1, h2]), num_dec]
  rfl
theorem name_read {s : List UInt8} {k : UInt8} {n : Nat} (h : readL s = some (k, n)) : s = nameL k n ∧ letL k = true ∧ n < 10000000000 := by
  unfold readL at h
  split at h
  · rename_i k' p ds
    split at h
    · rename_i hc
      simp only [Bool.and_eq_true, beq_iff_eq, decide_eq_true_eq] at hc
      obtain ⟨hk, hp, h1, h2⟩ := hc
      cases hm : num true 0 ds with
      | none => rw [hm] at h; cases h
      | some m =>
        rw [hm] at h
        simp only [Option.map_some, Option.some.injEq, Prod.mk.injEq] at h
        obtain ⟨rfl, rfl⟩ := h
        obtain ⟨e1, e2⟩ := dec_num ds m (fun e => by rw [e] at h1; simp at h1) hm
        refine ⟨?_, hk, ?_⟩
        · unfold nameL
          rw [← e1, hp]
        · have : 10 ^ ds.length ≤ 10 ^ 10 := Nat.pow_le_pow_right (by omega) h2
          omega
    · cases h
  · cases h
/-- What is no byte of ASCII is decoded to no rune of ASCII. -/
theorem dec_hi (l : List UInt8) (h : 128 ≤ (l.getD 0 0).toNat) : 128 ≤ (Lib.decodeL l).1 := by
  rw [Lib.decodeL_N]
  unfold Lib.decodeN
  rw [if_neg (by omega)]
  repeat' split
  all_goals (dsimp only; omega)
theorem dec_lo (b : UInt8) (t : List UInt8) : Lib.decodeL (b :: t) = (b.toNat, 1) ∨ (128 ≤ (Lib.decodeL (b :: t)).1 ∧ 128 ≤ b.toNat) := by
  by_cases h : b.toNat < 128
  · exact .inl (Lib.decodeL_ascii b t h)
  · exact .inr ⟨dec_hi _ (by simpa using h), by omega⟩
end Go.Nam
