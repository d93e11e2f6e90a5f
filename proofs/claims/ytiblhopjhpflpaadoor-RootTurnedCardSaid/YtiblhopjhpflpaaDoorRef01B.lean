/- The document's answers of layer 1: Turn. -/
import Derived.Test.YtiblhopjhpflpaaDoorRef01
import Derived.Test.YtiblhopjhpflpaaDoorCrcB
namespace Go.Proofs.YtiblhopjhpflpaaDoor
open Go.RowKit Go.Tum Go.Tum.Crc

theorem turnN_hit {at_ : Int} {t : Nat} {l : List UInt8} {i : Nat} (h : turnHit at_ t i l.length = true) : turnN at_ t l (i + 1) = flip (turnN at_ t l i) (at_ + i).toNat := by
  rw [turnN, if_pos h]
theorem turnN_miss {at_ : Int} {t : Nat} {l : List UInt8} {i : Nat} (h : turnHit at_ t i l.length = false) : turnN at_ t l (i + 1) = turnN at_ t l i := by
  rw [turnN, if_neg (by simp [h])]

theorem turn_any (v : Value) (l : List UInt8) (at_ : Int) (x : Int) (t : Nat) (hx : x = t) (ht : t < 4294967296) (ha : -9223372036854775808 ≤ at_) (ha2 : at_ ≤ 9223372036854775807) (w : World) (hb : Byt w v l) (hl : l.length ≤ 1048576) :
    Calls Tryd.prog 14 #[v, .int .i64 at_, .int .u32 x] w fun e w' => ∃ r, e = .returned r ∧ Own w' w.heap.size 5 r (turnN at_ t l 32) ∧ Ext w w' := by
  subst hx
  obtain ⟨ao, cap, rfl, hle, hm, hnn, hcell⟩ := hb.open
  have HB := hid hb
  clear hb hcell hnn
  go_enter Tryd.func14, Tryd.ntmps14
  go_wp2_with (first
    | (at_builtin; refine wpList_append_byt rfl (.tmp 12) (.tmp 13) 35 rfl w.heap.size 5 Tryd.underlying35 rinfo5 rfl (own_lit w _ _ [] _ rfl 0 rfl (Nat.le_refl _) (by simp [maxLen])) rfl (HB.out.ext (Ext.alloc _ _)) l.length (by simp) (by omega) (by simp) ?_; intro ao1 cap1 w1 hown1 hg1 hb1; have hE1 : Ext w w1 := (Ext.alloc w _).below hb1))
  have HO1 : Hid (Own w1 w.heap.size 5 (.slice ao1 l.length cap1) l) := hid (by simpa using hown1)
  have HE1 := hid hE1
  clear hown1 hg1 hb1 hE1 HB
  have hal1 : 0 < l.length → ∃ g, ao1 = some ⟨g, 0, none⟩ := fun h0 => HO1.out.addr h0
  go_loopw [2, 8] (fun v i wr => ∃ k : Nat, k ≤ 32 ∧ i = .int .i64 k ∧ (∃ m : Nat, m < 4294967296 ∧ Hid (m = t / 2 ^ k) ∧ v = .int .u32 m) ∧ Hid (Own wr w.heap.size 5 (.slice ao1 l.length cap1) (turnN at_ t l k)) ∧ Hid (Below w.heap.size w wr)) (fun _ i _ => 32 - (intOf i).toNat)
  case atStart => exact ⟨0, by omega, rfl, ⟨t, ht, hid (by simp), rfl⟩, HO1, HE1⟩
  case round =>
    obtain ⟨k, hk, rfl, ⟨m, hmlt, HM, rfl⟩, HO, HBE⟩ := hrel
    by_cases hlt : k < 32
    · have hstep : ∀ m', m' = m / 2 → Hid (m' = t / 2 ^ (k + 1)) := fun m' e => hid (by rw [e, HM.out, Nat.pow_succ, Nat.div_div_eq_div_mul])
      have HS := hid hstep
      clear hstep
      by_cases hodd : m % 2 = 1
      · have he1 : ((m : Int) % 2 == 1) = true := by
          have : (m : Int) % 2 = 1 := by omega
          rw [this]; rfl
        by_cases hr : 0 ≤ at_ + k ∧ at_ + k < 8 * (l.length : Int)
        · obtain ⟨hr1, hr2⟩ := hr
          obtain ⟨K, hK⟩ : ∃ K : Nat, at_ + k = K := ⟨(at_ + k).toNat, by omega⟩
          have HK := hid hK
          have hd1 : decide (0 ≤ at_ + (k : Int)) = true := by simpa using hr1
          have hd2 : decide (at_ + (k : Int) < 8 * (l.length : Int)) = true := by simpa using hr2
          have hhit : turnHit at_ t k l.length = true := by
            unfold turnHit
            rw [← HM.out]; simp [hodd, hr1, hr2]
          have HN := hid (turnN_hit hhit)
          have HODD := hid hodd
          clear hhit hodd
          clear hr1 hd1 HM
          have hKl : K < 8 * l.length := by omega
          have hd2' : decide ((K : Int) < 8 * (l.length : Int)) = true := by simp; omega
          obtain ⟨g, rfl⟩ := hal1 (by omega)
          have hjl : K / 8 < (turnN at_ t l k).length := by rw [turnN_length]; omega
          have hcellK := HO.out.cell (K / 8) hjl
          have hfrK := HO.out.frozen (K / 8)
          have hg := HO.out.block
          have HG := hid hg
          have hub := ((turnN at_ t l k)[K / 8]'hjl).toNat_lt
          generalize hC : ((turnN at_ t l k)[K / 8]'hjl) = C at hcellK hub
          have HC := hid hC
          have hpow : ∀ j, j ≤ 7 → 2 ^ j ≤ 128 := fun j hj => by
            have : 2 ^ j ≤ 2 ^ 7 := Nat.pow_le_pow_right (by decide) hj
            simpa using this
          have HPOW := hid hpow
          clear hC hpow hg hd2 hr2
          go_wp2
          go_loop [10, 11] (fun b i => ∃ j : Nat, j ≤ K % 8 ∧ i = .int .i64 j ∧ ∃ q : Nat, q ≤ 128 ∧ Hid (q = 2 ^ j) ∧ b = .int .u8 q) (fun _ i => 8 - (intOf i).toNat)
          case atStart => exact ⟨0, by omega, rfl, 1, by omega, rfl, rfl⟩
          case round =>
            obtain ⟨j, hj, rfl, q, hq, HQ, rfl⟩ := hrel
            by_cases hlj : j < K % 8
            · have hq2 : q ≤ 64 := by
                have := HQ.out
                have h6 : 2 ^ j ≤ 2 ^ 6 := Nat.pow_le_pow_right (by decide) (by omega)
                omega
              have hjK : (j : Int) < (K : Int) % 8 := by omega
              go_wp2
              go_round
              case rel => exact ⟨j + 1, by omega, by go_num, 2 * q, by omega, hid (by rw [Nat.pow_succ, ← HQ.out, Nat.mul_comm]), by go_num⟩
              case measure => simp [intOf]; omega
            · obtain rfl : j = K % 8 := by omega
              have hx8 : bits .xor .u8 (C.toNat : Int) (q : Int) = ((C.toNat ^^^ q : Nat) : Int) := u8_xor_nat _ _ (by omega) (by omega)
              have hjK : ¬ ((K : Int) % 8 < (K : Int) % 8) := by omega
              have hkk : (at_ + (k : Int)).toNat = K := by have := HK.out; omega
              have HKK := hid hkk
              clear hkk
              go_wp2
              go_roundw
              case rel =>
                refine ⟨k + 1, by omega, by go_num, ⟨m / 2, by omega, HS.out _ rfl, by go_num⟩, ?_, hid (Below.setCell HBE.out HG.out _)⟩
                rw [HN.out, HKK.out]
                unfold Crc.flip
                have h2 : (C ^^^ UInt8.ofNat (2 ^ (K % 8))).toNat = C.toNat ^^^ q := by
                  rw [UInt8.toNat_xor, HQ.out]
                  congr 1
                  simp
                  have := HPOW.out (K % 8) (by omega)
                  omega
                have e1 : (turnN at_ t l k).getD (K / 8) 0 = C := by
                  rw [← HC.out]; simp [hjl]
                rw [e1]
                exact hid (HO.out.set (K / 8) _ _ (by rw [h2]))
              case measure => simp [intOf]; omega
        · have hmiss : turnHit at_ t k l.length = false := by
            unfold turnHit
            rcases Decidable.not_and_iff_or_not.1 hr with h | h <;> simp [h]
          have HN := hid (turnN_miss hmiss)
          clear hmiss
          rcases Int.lt_or_le 9223372036854775807 (at_ + k) with hov | hov
          · have hneg : wrap64 (at_ + k) < 0 := by unfold wrap64; omega
            have hd1 : decide (0 ≤ wrap64 (at_ + (k : Int))) = false := by simp; omega
            go_wp2
            go_roundw
            case rel => exact ⟨k + 1, by omega, by go_num, ⟨m / 2, by omega, HS.out _ rfl, by go_num⟩, by rw [HN.out]; exact HO, HBE⟩
            case measure => simp [intOf]; omega
          · by_cases h0 : 0 ≤ at_ + (k : Int)
            · have hd1 : decide (0 ≤ at_ + (k : Int)) = true := by simpa using h0
              have hd2 : decide (at_ + (k : Int) < 8 * (l.length : Int)) = false := by
                simp; have : ¬ (at_ + (k : Int) < 8 * (l.length : Int)) := fun h => hr ⟨h0, h⟩
                omega
              clear hr
              go_wp2
              go_roundw
              case rel => exact ⟨k + 1, by omega, by go_num, ⟨m / 2, by omega, HS.out _ rfl, by go_num⟩, by rw [HN.out]; exact HO, HBE⟩
              case measure => simp [intOf]; omega
            · have hd1 : decide (0 ≤ at_ + (k : Int)) = false := by simpa using h0
              clear hr
              go_wp2
              go_roundw
              case rel => exact ⟨k + 1, by omega, by go_num, ⟨m / 2, by omega, HS.out _ rfl, by go_num⟩, by rw [HN.out]; exact HO, HBE⟩
              case measure => simp [intOf]; omega
      · have he1 : ((m : Int) % 2 == 1) = false := by
          have : (m : Int) % 2 = 0 := by omega
          rw [this]; rfl
        have hmiss : turnHit at_ t k l.length = false := by
          unfold turnHit
          rw [← HM.out]; simp [show m % 2 = 0 by omega]
        have HN := hid (turnN_miss hmiss)
        have HODD := hid hodd
        clear hmiss hodd
        go_wp2
        all_goals
          go_roundw
          case rel => exact ⟨k + 1, by omega, by go_num, ⟨m / 2, by omega, HS.out _ rfl, by go_num⟩, by rw [HN.out]; exact HO, HBE⟩
          case measure => simp [intOf]; omega
    · obtain rfl : k = 32 := by omega
      go_wp2
      go_ret
      exact ⟨_, rfl, HO.out, HBE.out⟩
end Go.Proofs.YtiblhopjhpflpaaDoor
