/- Package vint: Put, Get. -/
import Derived.Test.YtpbmbjdiilnaeaaDoorRows
import Derived.Test.YtpbmbjdiilnaeaaDoorVec
import Derived.Test.YtpbmbjdiilnaeaaDoorVintM
import Derived.Test.YtpbmbjdiilnaeaaDoorPar
import Derived.Deep.OwnRows
import Derived.Deep.QuietTactic
import Derived.BigQuiet
set_option maxRecDepth 100000
namespace Go.Proofs.YtpbmbjdiilnaeaaDoor
open Go.RowKit Go.Tum Go.Tum.Vint

theorem info8 : (Tryd.prog.info? 5).map (fun i => (i.zero, i.size, i.bytes)) = some (some (.int .u8 0), 1, 1) := by kernel_rfl
theorem or128_all : ∀ x : Fin 256, x.val ||| 128 = 128 + x.val % 128 := by decide +kernel
theorem or128 (m : Nat) : bits .or .u8 ((m : Int) % 256) 128 = (((UInt8.ofNat (128 + m % 128)).toNat : Nat) : Int) := by
  have := u8_or_nat (m % 256) 128 (by omega) (by omega)
  rw [or128_all ⟨m % 256, by omega⟩] at this
  have e : 128 + m % 256 % 128 = (UInt8.ofNat (128 + m % 128)).toNat := by simp; omega
  rw [← e]; simpa using this

theorem buf_set (pre : List UInt8) (k : Nat) (c : UInt8) (h : pre.length = k) (hk : k ≤ 9) : (pre ++ List.replicate (10 - k) (0 : UInt8)).set k c = (pre ++ [c]) ++ List.replicate (10 - (k + 1)) 0 := by
  rw [List.set_append_right _ _ (by omega), h, Nat.sub_self, show 10 - k = (10 - (k + 1)) + 1 by omega, List.replicate_succ, List.set_cons_zero, List.append_assoc]
  rfl

/-- A shift by 7 k, as the walk has it, and the 'or' behind it. -/
theorem or_shift (acc c k : Nat) (ha : acc < 2 ^ (7 * k)) (hc : c < 128) (hk : k ≤ 9) (h9 : k = 9 → c ≤ 1) :
    bits .or .u64 (acc : Int) ((c * 2 ^ (7 * k) : Nat) : Int) = ((acc + c * 2 ^ (7 * k) : Nat) : Int) := by
  have hp : c * 2 ^ (7 * k) < 18446744073709551616 := by
    rcases Nat.lt_or_ge k 9 with h | h
    · have h2 : 2 ^ (7 * k) ≤ 2 ^ 56 := Nat.pow_le_pow_right (by decide) (by omega)
      have := Nat.mul_le_mul (show c ≤ 127 by omega) h2
      exact Nat.lt_of_le_of_lt this (by decide)
    · obtain rfl : k = 9 := by omega
      have := h9 rfl
      have h3 : 2 ^ (7 * 9) = 9223372036854775808 := by decide
      rw [h3]; omega
  have hq : acc < 18446744073709551616 := Nat.lt_of_lt_of_le ha (show 2 ^ (7 * k) ≤ 2 ^ 64 from Nat.pow_le_pow_right (by decide) (by omega))
  rw [u64_or_nat _ _ hq hp, Nat.or_comm, nat_join (7 * k) _ _ (Nat.mul_mod_left _ _) ha, Nat.add_comm]

theorem sum_in (acc c k : Nat) (ha : acc < 2 ^ (7 * k)) (hc : c < 128) (hk : k ≤ 9) (h9 : k = 9 → c ≤ 1) : acc + c * 2 ^ (7 * k) < 18446744073709551616 ∧ acc + c * 2 ^ (7 * k) < 2 ^ (7 * (k + 1)) := by
  have h2 : acc + c * 2 ^ (7 * k) < 2 ^ (7 * (k + 1)) := by
    rw [pow_step]
    generalize 2 ^ (7 * k) = p at *
    have := Nat.mul_le_mul_right p (show c ≤ 127 by omega)
    omega
  refine ⟨?_, h2⟩
  rcases Nat.lt_or_ge k 9 with h | h
  · exact Nat.lt_of_lt_of_le h2 (show 2 ^ (7 * (k + 1)) ≤ 2 ^ 64 from Nat.pow_le_pow_right (by decide) (by omega))
  · obtain rfl : k = 9 := by omega
    have := h9 rfl
    have h3 : 2 ^ (7 * 9) = 9223372036854775808 := by decide
    rw [h3] at ha ⊢; omega
theorem shl_in (c k : Nat) (hk : k ≤ 9) (h9 : k = 9 → c % 128 ≤ 1) : IntKind.u64.wrap ((c : Int) % 128 * 2 ^ (7 * k)) = ((c % 128 * 2 ^ (7 * k) : Nat) : Int) := by
  have := (sum_in 0 (c % 128) k (Nat.two_pow_pos _) (by omega) hk h9).1
  rw [Nat.zero_add] at this
  have e : (c : Int) % 128 * 2 ^ (7 * k) = ((c % 128 * 2 ^ (7 * k) : Nat) : Int) := by simp
  rw [e, IntKind.wrap_u64]
  omega

end Go.Proofs.YtpbmbjdiilnaeaaDoor
