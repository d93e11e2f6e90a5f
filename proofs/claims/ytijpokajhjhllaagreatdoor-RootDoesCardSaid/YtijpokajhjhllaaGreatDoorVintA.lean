/- Package vint: Put, Get. -/
import Derived.Test.YtijpokajhjhllaaGreatDoorRows
import Derived.Test.YtijpokajhjhllaaGreatDoorVec
import Derived.Test.YtijpokajhjhllaaGreatDoorVintM
import Derived.Test.YtijpokajhjhllaaGreatDoorPar
import Derived.Deep.OwnRows
import Derived.Deep.QuietTactic
import Derived.BigQuiet
set_option maxRecDepth 100000
namespace Go.Proofs.YtijpokajhjhllaaGreatDoor
open Go.RowKit Go.Tum Go.Tum.Vint

theorem info8 : (Tryz.prog.info? 5).map (fun i => (i.zero, i.size, i.bytes)) = some (some (.int .u8 0), 1, 1) := by kernel_rfl
theorem or128_all : ∀ x : Fin 256, x.val ||| 128 = 128 + x.val % 128 := by decide +kernel
theorem or128 (m : Nat) : bits .or .u8 ((m : Int) % 256) 128 = (((UInt8.ofNat (128 + m % 128)).toNat : Nat) : Int) := by
  have := u8_or_nat (m % 256) 128 (by omega) (by omega)
  rw [or128_all ⟨m % 256, by omega⟩] at this
  have e : 128 + m % 256 % 128 = (UInt8.ofNat (128 + m % 128)).toNat := by simp; omega
  rw [← e]; simpa using this

theorem buf_set (pre : List UInt8) (k : Nat) (c : UInt8) (h : pre.length = k) (hk : k ≤ 9) : (pre ++ List.replicate (10 - k) (0 : UInt8)).set k c = (pre ++ [c]) ++ List.replicate (10 - (k + 1)) 0 := by
  rw [List.set_append_right _ _ (by omega), h, Nat.sub_self, show 10 - k = (10 - (k + 1)) + 1 by omega, List.replicate_succ, List.set_cons_zero, List.append_assoc]
  rfl

theorem vput_any (x : Int) (n : Nat) (hx : x = n) (hn : n < 18446744073709551616) (w : World) :
    Calls Tryz.prog 93 #[.int .u64 x] w fun e w' => ∃ r, e = .returned r ∧ Byt w' r (vput n) ∧ Ext w w' := by
  subst hx
  have hmk : ∀ w, (Instr.makeSlice 37 (.int .i64 10) (.int .i64 10)).run Tryz.prog w = .ok (.slice (some ⟨w.heap.size, 0, none⟩) 10 10) (w.alloc (.cells (madeCells #[.int .u8 0] 10) 5)) :=
    fun w => run_make_row' 37 5 (.int .u8 0) 1 Tryz.underlying37 info8 rfl .i64 .i64 10 (by omega) (by omega) w
  have hz : (madeCells #[Value.int .u8 0] 10).toList = (List.replicate 10 (0 : UInt8)).map bv := by rw [toList_madeCells_one]; simp [bv]
  have HZ := hid hz
  clear hz
  go_enter Tryz.func93, Tryz.ntmps93
  go_wp2
  clear hmk
  go_loopw [0, 4] (fun v i wr => ∃ k : Nat, k ≤ 9 ∧ i = .int .i64 k ∧ (∃ m : Nat, m < 18446744073709551616 ∧ v = .int .u64 m ∧ ∃ pre : List UInt8, Hid (pre.length = k ∧ vputF 9 n = pre ++ vputF (9 - k) m ∧ m < 128 ^ (10 - k)) ∧
      Hid (Own wr w.heap.size 5 (.slice (some ⟨w.heap.size, 0, none⟩) 10 10) (pre ++ List.replicate (10 - k) 0))) ∧ Hid (Ext w wr)) (fun _ i _ => 9 - (intOf i).toNat)
  case atStart =>
    refine ⟨0, by omega, rfl, ⟨n, hn, rfl, [], ⟨rfl, rfl, Nat.lt_of_lt_of_le hn (by decide)⟩, ?_⟩, Ext.alloc _ _⟩
    exact own_of_heap (heap_alloc_new _ _) _ (Nat.le_refl _) _ HZ.out 10 rfl (by simp [maxLen])
  case round =>
    obtain ⟨k, hk, rfl, ⟨m, hm, rfl, pre, HP, HO⟩, HE⟩ := hrel
    by_cases h128 : m < 128
    · have hd : decide (128 ≤ (m : Int)) = false := by simp; omega
      have hjl : k < (pre ++ List.replicate (10 - k) (0 : UInt8)).length := by have := HP.out.1; simp; omega
      have hcg := HO.out.cell k hjl
      have hfg := HO.out.frozen k
      generalize (pre ++ List.replicate (10 - k) (0 : UInt8))[k] = c0 at hcg
      clear hjl
      go_wp2
      go_ret
      obtain ⟨hp1, hp2, hp3⟩ := HP.out
      have hset := HO.out.set k (m : Int) (UInt8.ofNat m) (by simp; omega)
      rw [buf_set pre k _ hp1 hk] at hset
      refine ⟨_, rfl, ?_, Below.setCell HE.out (by simp) _⟩
      have hv := Vec.take hset.owv.vec (k + 1) (by simp; omega)
      rw [List.take_left' (by simp; omega)] at hv
      have e : vput n = pre ++ [UInt8.ofNat m] := by unfold vput; rw [hp2, vputF_lt _ _ h128]
      rw [e]
      exact (Vec.cap hv (k + 1) (Nat.le_refl _) (by omega)).byt
    · have hd : decide (128 ≤ (m : Int)) = true := by simp; omega
      have hk8 : k ≤ 8 := by
        have := HP.out.2.2
        rcases Nat.lt_or_ge 8 k with h | h
        · obtain rfl : k = 9 := by omega
          have : m < 128 := by simpa using this
          omega
        · exact h
      have hjl : k < (pre ++ List.replicate (10 - k) (0 : UInt8)).length := by have := HP.out.1; simp; omega
      have hcg := HO.out.cell k hjl
      have hfg := HO.out.frozen k
      have hor := or128 m
      generalize (pre ++ List.replicate (10 - k) (0 : UInt8))[k] = c0 at hcg
      clear hjl h128
      go_wp2
      go_roundw
      case rel =>
        obtain ⟨hp1, hp2, hp3⟩ := HP.out
        have hset := HO.out.set k _ (UInt8.ofNat (128 + m % 128)) rfl
        rw [buf_set pre k _ hp1 hk] at hset
        have hmm : 128 ≤ m := by have := of_decide_eq_true hd; omega
        refine ⟨k + 1, by omega, by go_num, ⟨m / 128, by omega, by go_num, pre ++ [UInt8.ofNat (128 + m % 128)], ⟨by simp; omega, ?_, ?_⟩, hset⟩, Below.setCell HE.out (by simp) _⟩
        · rw [hp2, show 9 - k = (9 - (k + 1)) + 1 by omega, vputF_ge _ _ hmm]; simp
        · rw [show 10 - k = (10 - (k + 1)) + 1 by omega, Nat.pow_succ] at hp3; omega
      case measure => simp [intOf]; omega

/-- A shift by 7 k, as the walk has it, and the 'or' behind it. -/
theorem or_shift (acc c k : Nat) (ha : acc < 2 ^ (7 * k)) (hc : c < 128) (hk : k ≤ 9) (h9 : k = 9 → c ≤ 1) :
    bits .or .u64 (acc : Int) ((c * 2 ^ (7 * k) : Nat) : Int) = ((acc + c * 2 ^ (7 * k) : Nat) : Int) := by
  have hp : c * 2 ^ (7 * k) < 18446744073709551616 := by
    rcases Nat.lt_or_ge k 9 with h | h
    · have h2 : 2 ^ (7 * k) ≤ 2 ^ 56 := Nat.pow_le_pow_right (by decide) (by omega)
      have := Nat.mul_le_mul (show c ≤ 127 by omega) h2
      exact Nat.lt_of_le_of_lt this (by decide)
    · obtain rfl : k = 9 := by omega
      have := h9 rfl
      have h3 : 2 ^ (7 * 9) = 9223372036854775808 := by decide
      rw [h3]; omega
  have hq : acc < 18446744073709551616 := Nat.lt_of_lt_of_le ha (show 2 ^ (7 * k) ≤ 2 ^ 64 from Nat.pow_le_pow_right (by decide) (by omega))
  rw [u64_or_nat _ _ hq hp, Nat.or_comm, nat_join (7 * k) _ _ (Nat.mul_mod_left _ _) ha, Nat.add_comm]

theorem sum_in (acc c k : Nat) (ha : acc < 2 ^ (7 * k)) (hc : c < 128) (hk : k ≤ 9) (h9 : k = 9 → c ≤ 1) : acc + c * 2 ^ (7 * k) < 18446744073709551616 ∧ acc + c * 2 ^ (7 * k) < 2 ^ (7 * (k + 1)) := by
  have h2 : acc + c * 2 ^ (7 * k) < 2 ^ (7 * (k + 1)) := by
    rw [pow_step]
    generalize 2 ^ (7 * k) = p at *
    have := Nat.mul_le_mul_right p (show c ≤ 127 by omega)
    omega
  refine ⟨?_, h2⟩
  rcases Nat.lt_or_ge k 9 with h | h
  · exact Nat.lt_of_lt_of_le h2 (show 2 ^ (7 * (k + 1)) ≤ 2 ^ 64 from Nat.pow_le_pow_right (by decide) (by omega))
  · obtain rfl : k = 9 := by omega
    have := h9 rfl
    have h3 : 2 ^ (7 * 9) = 9223372036854775808 := by decide
    rw [h3] at ha ⊢; omega
theorem shl_in (c k : Nat) (hk : k ≤ 9) (h9 : k = 9 → c % 128 ≤ 1) : IntKind.u64.wrap ((c : Int) % 128 * 2 ^ (7 * k)) = ((c % 128 * 2 ^ (7 * k) : Nat) : Int) := by
  have := (sum_in 0 (c % 128) k (Nat.two_pow_pos _) (by omega) hk h9).1
  rw [Nat.zero_add] at this
  have e : (c : Int) % 128 * 2 ^ (7 * k) = ((c % 128 * 2 ^ (7 * k) : Nat) : Int) := by simp
  rw [e, IntKind.wrap_u64]
  omega

set_option maxRecDepth 100000 in
set_option maxHeartbeats 2000000 in
theorem vget_any (v : Value) (l : List UInt8) (w : World) (hb : Byt w v l) :
    Calls Tryz.prog 104 #[v] w fun e w' => e = .returned (.tuple #[.int .u64 ((vget l).1 : Nat), .int .i64 ((vget l).2.1 : Nat), .int .i64 ((vget l).2.2 : Nat)]) ∧ w = w' := by
  obtain ⟨ao, cap, rfl, hle, hm, hnn, hcell⟩ := hb.open
  have HC := hid hcell
  clear hb hcell
  go_enter Tryz.func104, Tryz.ntmps104
  go_wp2
  go_loop [5, 11] (fun v i => ∃ k : Nat, k ≤ l.length ∧ k ≤ 9 ∧ i = .int .i64 k ∧ ∃ acc : Nat, acc < 18446744073709551616 ∧ Hid (acc < 2 ^ (7 * k)) ∧ Hid (vget l = vgetA k acc (l.drop k)) ∧ v = .int .u64 acc) (fun _ i => l.length - (intOf i).toNat)
  case atStart => exact ⟨0, by omega, by omega, rfl, 0, by omega, hid (by simp), hid rfl, rfl⟩
  case round =>
    obtain ⟨k, hk, hk9, rfl, acc, hacc, HA, HG, rfl⟩ := hrel
    by_cases hlt : k < l.length
    · obtain ⟨a, rfl⟩ := hnn (by omega)
      have hc := HC.out a rfl k hlt
      have hu := (l[k]).toNat_lt
      have hdrop : l.drop k = l[k] :: l.drop (k + 1) := List.drop_eq_getElem_cons hlt
      have hstep := HG.out
      rw [hdrop] at hstep
      simp only [vgetA] at hstep
      generalize hC : l[k].toNat = c at hc hu hstep
      clear hC hdrop
      by_cases h1 : k = 9 ∧ 1 < c
      · rw [if_pos h1] at hstep
        have HS := hid hstep
        have h2 := h1.2
        have e1 : ((k : Int) == 9) = true := by simp; omega
        have hd : decide (1 < (c : Int)) = true := by simp; omega
        clear hstep h1
        go_wp2
        go_ret3
        rw [HS.out]
        exact ⟨rfl, rfl⟩
      · rw [if_neg h1] at hstep
        by_cases h2 : c = 0 ∧ 0 < k
        · rw [if_pos h2] at hstep
          have HS := hid hstep
          have hd : decide (1 < (c : Int)) = false := by simp; omega
          have hk0 : 0 < k := h2.2
          have hd3 : decide ((c : Int) < 128) = true := by simp; omega
          have e0 : ((c : Int) == 0) = true := by simp; omega
          clear hstep h1 h2
          rcases Nat.lt_or_ge k 9 with h9 | h9
          · have e1 : ((k : Int) == 9) = false := by simp; omega
            go_wp2
            go_ret3
            rw [HS.out]
            exact ⟨rfl, rfl⟩
          · have e1 : ((k : Int) == 9) = true := by simp; omega
            go_wp2
            go_ret3
            rw [HS.out]
            exact ⟨rfl, rfl⟩
        · rw [if_neg h2] at hstep
          have hA := HA.out
          have hor := or_shift acc (c % 128) k hA (by omega) hk9 (fun e => by omega)
          have hsh := shl_in c k hk9 (fun e => by omega)
          have hsum := sum_in acc (c % 128) k hA (by omega) hk9 (fun e => by omega)
          have hcast : ((c % 128 * 2 ^ (7 * k) : Nat) : Int) = (c : Int) % 128 * 2 ^ (7 * k) := by simp
          rw [hcast] at hor
          generalize hN : acc + c % 128 * 2 ^ (7 * k) = N at hor hsum
          clear hA hcast
          by_cases h3 : c < 128
          · rw [if_pos h3] at hstep
            have hd3 : decide ((c : Int) < 128) = true := by simp; omega
            have hm7 : c % 128 = c := by omega
            rw [hm7] at hN
            rw [hN] at hstep
            have HS := hid hstep
            clear hstep hm7 hsum hN
            rcases Nat.lt_or_ge k 9 with h9 | h9
            · have e1 : ((k : Int) == 9) = false := by simp; omega
              rcases Nat.eq_zero_or_pos c with h0 | h0
              · have e0 : ((c : Int) == 0) = true := by simp; omega
                have hk0 : ¬ 0 < k := fun h => h2 ⟨h0, h⟩
                clear h1 h2 h0
                go_wp2
                go_ret3
                rw [HS.out]
                exact ⟨rfl, rfl⟩
              · have e0 : ((c : Int) == 0) = false := by simp; omega
                clear h1 h2
                go_wp2
                go_ret3
                rw [HS.out]
                exact ⟨rfl, rfl⟩
            · have e1 : ((k : Int) == 9) = true := by simp; omega
              have hd : decide (1 < (c : Int)) = false := by simp; omega
              have e0 : ((c : Int) == 0) = false := by simp; omega
              clear h1 h2
              go_wp2
              go_ret3
              rw [HS.out]
              exact ⟨rfl, rfl⟩
          · rw [if_neg h3, hN] at hstep
            have hd3 : decide ((c : Int) < 128) = false := by simp; omega
            have e0 : ((c : Int) == 0) = false := by simp; omega
            have e1 : ((k : Int) == 9) = false := by simp; omega
            have hk8 : k < 9 := by omega
            have HS := hid hstep
            have HSUM := hid hsum
            clear hstep hsum h1 h2 hN
            go_wp2
            go_round
            case rel => exact ⟨k + 1, by omega, by omega, by go_num, N, HSUM.out.1, hid HSUM.out.2, HS, rfl⟩
            case measure => simp [intOf]; omega
    · obtain rfl : k = l.length := by omega
      go_wp2
      go_ret3
      have := HG.out
      rw [List.drop_length] at this
      rw [this]
      exact ⟨rfl, rfl⟩
end Go.Proofs.YtijpokajhjhllaaGreatDoor
