/- For every input the law EventsTurned returns true and leaves what was there as it was; and its card.
A disk's step beside bytes that lie elsewhere.
The document's answers of layer 1: Entry, More, Of, Four, Put, Same, Cut.
The document's answers of layer 1: Turn.
EventsTurned. -/
import Derived.Test.YtinancnlangkjaaDoorEvMB
import Derived.Test.YtinancnlangkjaaDoorRecGA
import Derived.Test.YtinancnlangkjaaDoorPar
import Derived.Test.YtinancnlangkjaaDoorRecGB
import Derived.Deep.QuietTactic
import Derived.BigQuiet
import Derived.Test.YtinancnlangkjaaDoorCrcB
import Derived.Test.YtinancnlangkjaaDoorCards
import Derived.Test.YtinancnlangkjaaDoorTie
import Derived.WalkKit
import Derived.ProofKit
import Derived.OpenShut
import Derived.Below
import Derived.Deep.DeepHandedRow
import Derived.SizedLaws
import Derived.Lib.LaidTab
import Derived.Lib.LaidU8
import Derived.Deep.DeepLaidRun
import Derived.ShutString
import Derived.Test.YtinancnlangkjaaDoorFrame
import Derived.Lib.SmallJoins
set_option linter.unusedSimpArgs false
set_option linter.unusedVariables false
set_option maxRecDepth 100000
namespace Go.Proofs.YtinancnlangkjaaDoor
open Go Go.RowKit Go.Tum Go.ChangeMaps Go.Tum.Crc Go.Tum.Vint Go.Tum.Opm Go.Nam

theorem Dk.lt15 {B : Nat} {w : World} {p : Nat} {x : DX} {s : PS} (h : Dk B w p x s) : ∀ q ∈ x.blk p, q < w.heap.size := by
  intro q hq
  have hb : ∀ {b e n s : Nat} {v : Value} {xs : List Value}, w.ownsRow b e s v n xs → ∀ q ∈ oB v, q < w.heap.size := by
    intro b e n s v xs ho q hq
    rcases ho.2 with ⟨hv, -⟩ | ⟨g, cap, cur, hv, hb, hg, -⟩
    · rw [hv] at hq; simp [oB, Value.ownBlock] at hq
    · rw [hv] at hq; simp [oB, Value.ownBlock] at hq; subst hq; exact (Array.getElem?_eq_some_iff.1 hg).1
  unfold DX.blk at hq
  simp only [List.mem_cons, List.mem_append, List.mem_flatMap, List.mem_map] at hq
  rcases hq with rfl | rfl | rfl | (hq | ⟨z, hz, rfl⟩) | ⟨z, hz, hq⟩
  · exact (Array.getElem?_eq_some_iff.1 h.hd).1
  · obtain ⟨es, ck, hb⟩ := h.dr.block; exact (Array.getElem?_eq_some_iff.1 hb).1
  · obtain ⟨es, ck, hb⟩ := h.sr.block; exact (Array.getElem?_eq_some_iff.1 hb).1
  · exact hb h.op q hq
  · obtain ⟨i, hi, rfl⟩ := List.mem_iff_getElem.1 hz
    have := (Array.getElem?_eq_some_iff.1 (h.fi i (by rw [← h.fn]; exact hi)).1).1
    simpa [DX.bk, List.getD_eq_getElem?_getD, hi] using this
  · obtain ⟨i, hi, rfl⟩ := List.mem_iff_getElem.1 hz
    have h2 := (h.fi i (by rw [← h.fn]; exact hi)).2
    have e : x.sv i = x.bl[i].2 := by simp [DX.sv, List.getD_eq_getElem?_getD, hi]
    rw [e] at h2
    exact hb h2 q hq
theorem row_lt17 {w : World} {b e s n : Nat} {v : Value} {xs : List Value} (h : w.ownsRow b e s v n xs) : ∀ q ∈ oB v, q < w.heap.size := by
  intro q hm
  rcases h.2 with ⟨hv, -⟩ | ⟨g, cap, cur, hv, hb, hgg, rest⟩
  · rw [hv] at hm; simp [oB, Value.ownBlock] at hm
  · rw [hv] at hm
    simp [oB, Value.ownBlock] at hm
    subst hm; exact (Array.getElem?_eq_some_iff.1 hgg).1
/-- Rows that lie elsewhere stay, and stay elsewhere. -/
theorem Stp.keepR {B : Nat} {w w' : World} {p : Nat} {x : DX} {s : PS} (h : Stp B w p x s w') :
    ∃ x', Dk B w' p x' s ∧ Below B w w' ∧ ∀ (b e z n : Nat) (v : Value) (xs : List Value), w.ownsRow b e z v n xs → (∀ q ∈ oB v, q ∉ x.blk p) → w'.ownsRow b e z v n xs ∧ ∀ q ∈ oB v, q ∉ x'.blk p := by
  obtain ⟨x', d, f, bl, q⟩ := h
  refine ⟨x', d, bl, fun b e z n v xs ho hn => ⟨ownsRow_fr ho f hn, fun c hc hm => ?_⟩⟩
  rcases q c hm with h1 | h1
  · exact hn c hc h1
  · have := row_lt17 ho c hc
    omega
/-- A row that was made behind the disk lies elsewhere. -/
theorem row_new {B : Nat} {w w' : World} {p : Nat} {x : DX} {s : PS} {e z n : Nat} {v : Value} {xs : List Value} (d : Dk B w p x s) (h : w'.ownsRow w.heap.size e z v n xs) : ∀ q ∈ oB v, q ∉ x.blk p := fun q hq hm => by
  have h1 := row_lo h q hq
  have h2 := d.lt15 q hm
  omega
end Go.Proofs.YtinancnlangkjaaDoor

namespace Go.Proofs.YtinancnlangkjaaDoor
open Go.RowKit Go.Tum Go.Tum.Crc

theorem rinfo5 : (Tryd.prog.info? 5).map (fun i => (i.zero, i.size, i.bytes)) = some (some (.int .u8 0), 1, 1) := by kernel_rfl

theorem four_take (n k : Nat) (h : k < 4) : (four n).take (k + 1) = (four n).take k ++ [UInt8.ofNat (n / 256 ^ k % 256)] := by
  match k, h with
  | 0, _ => simp [four]
  | 1, _ => rfl
  | 2, _ => rfl
  | 3, _ => rfl

end Go.Proofs.YtinancnlangkjaaDoor

namespace Go.Proofs.YtinancnlangkjaaDoor
open Go.RowKit Go.Tum Go.Tum.Crc

theorem turnN_hit {at_ : Int} {t : Nat} {l : List UInt8} {i : Nat} (h : turnHit at_ t i l.length = true) : turnN at_ t l (i + 1) = flip (turnN at_ t l i) (at_ + i).toNat := by
  rw [turnN, if_pos h]
theorem turnN_miss {at_ : Int} {t : Nat} {l : List UInt8} {i : Nat} (h : turnHit at_ t i l.length = false) : turnN at_ t l (i + 1) = turnN at_ t l i := by
  rw [turnN, if_neg (by simp [h])]

theorem turn_any (v : Value) (l : List UInt8) (at_ : Int) (x : Int) (t : Nat) (hx : x = t) (ht : t < 4294967296) (ha : -9223372036854775808 ≤ at_) (ha2 : at_ ≤ 9223372036854775807) (w : World) (hb : Byt w v l) (hl : l.length ≤ 1048576) :
    Calls Tryd.prog 18 #[v, .int .i64 at_, .int .u32 x] w fun e w' => ∃ r, e = .returned r ∧ Own w' w.heap.size 5 r (turnN at_ t l 32) ∧ Ext w w' := by
  subst hx
  obtain ⟨ao, cap, rfl, hle, hm, hnn, hcell⟩ := hb.open
  have HB := hid hb
  clear hb hcell hnn
  go_enter Tryd.func18, Tryd.ntmps18
  go_wp2_with (first
    | (at_builtin; refine wpList_append_byt rfl (.tmp 12) (.tmp 13) 49 rfl w.heap.size 5 Tryd.underlying49 rinfo5 rfl (own_lit w _ _ [] _ rfl 0 rfl (Nat.le_refl _) (by simp [maxLen])) rfl (HB.out.ext (Ext.alloc _ _)) l.length (by simp) (by omega) (by simp) ?_; intro ao1 cap1 w1 hown1 hg1 hb1; have hE1 : Ext w w1 := (Ext.alloc w _).below hb1))
  have HO1 : Hid (Own w1 w.heap.size 5 (.slice ao1 l.length cap1) l) := hid (by simpa using hown1)
  have HE1 := hid hE1
  clear hown1 hg1 hb1 hE1 HB
  have hal1 : 0 < l.length → ∃ g, ao1 = some ⟨g, 0, none⟩ := fun h0 => HO1.out.addr h0
  go_loopw [2, 8] (fun v i wr => ∃ k : Nat, k ≤ 32 ∧ i = .int .i64 k ∧ (∃ m : Nat, m < 4294967296 ∧ Hid (m = t / 2 ^ k) ∧ v = .int .u32 m) ∧ Hid (Own wr w.heap.size 5 (.slice ao1 l.length cap1) (turnN at_ t l k)) ∧ Hid (Below w.heap.size w wr)) (fun _ i _ => 32 - (intOf i).toNat)
  case atStart => exact ⟨0, by omega, rfl, ⟨t, ht, hid (by simp), rfl⟩, HO1, HE1⟩
  case round =>
    obtain ⟨k, hk, rfl, ⟨m, hmlt, HM, rfl⟩, HO, HBE⟩ := hrel
    by_cases hlt : k < 32
    · have hstep : ∀ m', m' = m / 2 → Hid (m' = t / 2 ^ (k + 1)) := fun m' e => hid (by rw [e, HM.out, Nat.pow_succ, Nat.div_div_eq_div_mul])
      have HS := hid hstep
      clear hstep
      by_cases hodd : m % 2 = 1
      · have he1 : ((m : Int) % 2 == 1) = true := by
          have : (m : Int) % 2 = 1 := by omega
          rw [this]; rfl
        by_cases hr : 0 ≤ at_ + k ∧ at_ + k < 8 * (l.length : Int)
        · obtain ⟨hr1, hr2⟩ := hr
          obtain ⟨K, hK⟩ : ∃ K : Nat, at_ + k = K := ⟨(at_ + k).toNat, by omega⟩
          have HK := hid hK
          have hd1 : decide (0 ≤ at_ + (k : Int)) = true := by simpa using hr1
          have hd2 : decide (at_ + (k : Int) < 8 * (l.length : Int)) = true := by simpa using hr2
          have hhit : turnHit at_ t k l.length = true := by
            unfold turnHit
            rw [← HM.out]; simp [hodd, hr1, hr2]
          have HN := hid (turnN_hit hhit)
          have HODD := hid hodd
          clear hhit hodd
          clear hr1 hd1 HM
          have hKl : K < 8 * l.length := by omega
          have hd2' : decide ((K : Int) < 8 * (l.length : Int)) = true := by simp; omega
          obtain ⟨g, rfl⟩ := hal1 (by omega)
          have hjl : K / 8 < (turnN at_ t l k).length := by rw [turnN_length]; omega
          have hcellK := HO.out.cell (K / 8) hjl
          have hfrK := HO.out.frozen (K / 8)
          have hg := HO.out.block
          have HG := hid hg
          have hub := ((turnN at_ t l k)[K / 8]'hjl).toNat_lt
          generalize hC : ((turnN at_ t l k)[K / 8]'hjl) = C at hcellK hub
          have HC := hid hC
          have hpow : ∀ j, j ≤ 7 → 2 ^ j ≤ 128 := fun j hj => by
            have : 2 ^ j ≤ 2 ^ 7 := Nat.pow_le_pow_right (by decide) hj
            simpa using this
          have HPOW := hid hpow
          clear hC hpow hg hd2 hr2
          go_wp2
          go_loop [10, 11] (fun b i => ∃ j : Nat, j ≤ K % 8 ∧ i = .int .i64 j ∧ ∃ q : Nat, q ≤ 128 ∧ Hid (q = 2 ^ j) ∧ b = .int .u8 q) (fun _ i => 8 - (intOf i).toNat)
          case atStart => exact ⟨0, by omega, rfl, 1, by omega, rfl, rfl⟩
          case round =>
            obtain ⟨j, hj, rfl, q, hq, HQ, rfl⟩ := hrel
            by_cases hlj : j < K % 8
            · have hq2 : q ≤ 64 := by
                have := HQ.out
                have h6 : 2 ^ j ≤ 2 ^ 6 := Nat.pow_le_pow_right (by decide) (by omega)
                omega
              have hjK : (j : Int) < (K : Int) % 8 := by omega
              go_wp2
              go_round
              case rel => exact ⟨j + 1, by omega, by go_num, 2 * q, by omega, hid (by rw [Nat.pow_succ, ← HQ.out, Nat.mul_comm]), by go_num⟩
              case measure => simp [intOf]; omega
            · obtain rfl : j = K % 8 := by omega
              have hx8 : bits .xor .u8 (C.toNat : Int) (q : Int) = ((C.toNat ^^^ q : Nat) : Int) := u8_xor_nat _ _ (by omega) (by omega)
              have hjK : ¬ ((K : Int) % 8 < (K : Int) % 8) := by omega
              have hkk : (at_ + (k : Int)).toNat = K := by have := HK.out; omega
              have HKK := hid hkk
              clear hkk
              go_wp2
              go_roundw
              case rel =>
                refine ⟨k + 1, by omega, by go_num, ⟨m / 2, by omega, HS.out _ rfl, by go_num⟩, ?_, hid (Below.setCell HBE.out HG.out _)⟩
                rw [HN.out, HKK.out]
                unfold Crc.flip
                have h2 : (C ^^^ UInt8.ofNat (2 ^ (K % 8))).toNat = C.toNat ^^^ q := by
                  rw [UInt8.toNat_xor, HQ.out]
                  congr 1
                  simp
                  have := HPOW.out (K % 8) (by omega)
                  omega
                have e1 : (turnN at_ t l k).getD (K / 8) 0 = C := by
                  rw [← HC.out]; simp [hjl]
                rw [e1]
                exact hid (HO.out.set (K / 8) _ _ (by rw [h2]))
              case measure => simp [intOf]; omega
        · have hmiss : turnHit at_ t k l.length = false := by
            unfold turnHit
            rcases Decidable.not_and_iff_or_not.1 hr with h | h <;> simp [h]
          have HN := hid (turnN_miss hmiss)
          clear hmiss
          rcases Int.lt_or_le 9223372036854775807 (at_ + k) with hov | hov
          · have hneg : wrap64 (at_ + k) < 0 := by unfold wrap64; omega
            have hd1 : decide (0 ≤ wrap64 (at_ + (k : Int))) = false := by simp; omega
            go_wp2
            go_roundw
            case rel => exact ⟨k + 1, by omega, by go_num, ⟨m / 2, by omega, HS.out _ rfl, by go_num⟩, by rw [HN.out]; exact HO, HBE⟩
            case measure => simp [intOf]; omega
          · by_cases h0 : 0 ≤ at_ + (k : Int)
            · have hd1 : decide (0 ≤ at_ + (k : Int)) = true := by simpa using h0
              have hd2 : decide (at_ + (k : Int) < 8 * (l.length : Int)) = false := by
                simp; have : ¬ (at_ + (k : Int) < 8 * (l.length : Int)) := fun h => hr ⟨h0, h⟩
                omega
              clear hr
              go_wp2
              go_roundw
              case rel => exact ⟨k + 1, by omega, by go_num, ⟨m / 2, by omega, HS.out _ rfl, by go_num⟩, by rw [HN.out]; exact HO, HBE⟩
              case measure => simp [intOf]; omega
            · have hd1 : decide (0 ≤ at_ + (k : Int)) = false := by simpa using h0
              clear hr
              go_wp2
              go_roundw
              case rel => exact ⟨k + 1, by omega, by go_num, ⟨m / 2, by omega, HS.out _ rfl, by go_num⟩, by rw [HN.out]; exact HO, HBE⟩
              case measure => simp [intOf]; omega
      · have he1 : ((m : Int) % 2 == 1) = false := by
          have : (m : Int) % 2 = 0 := by omega
          rw [this]; rfl
        have hmiss : turnHit at_ t k l.length = false := by
          unfold turnHit
          rw [← HM.out]; simp [show m % 2 = 0 by omega]
        have HN := hid (turnN_miss hmiss)
        have HODD := hid hodd
        clear hmiss hodd
        go_wp2
        all_goals
          go_roundw
          case rel => exact ⟨k + 1, by omega, by go_num, ⟨m / 2, by omega, HS.out _ rfl, by go_num⟩, by rw [HN.out]; exact HO, HBE⟩
          case measure => simp [intOf]; omega
    · obtain rfl : k = 32 := by omega
      go_wp2
      go_ret
      exact ⟨_, rfl, HO.out, HBE.out⟩
end Go.Proofs.YtinancnlangkjaaDoor

set_option linter.unusedSimpArgs false
set_option linter.unusedVariables false
set_option maxRecDepth 100000
namespace Go.Proofs.YtinancnlangkjaaDoor
open Go Go.RowKit Go.Tum Go.ChangeMaps Go.Tum.Crc Go.Tum.Vint Go.Tum.Opm Go.Nam

theorem bT_L {R : Nat} {c : List UInt8} {m : Nat} : evL (eU R [101, 46, 49] c m) 1 = loadB c := by
  rw [← evN1]; exact bU_L (by decide)
theorem bT_C {R : Nat} {c : List UInt8} {m : Nat} : cutP (eU R [101, 46, 49] c m) [101, 46, 49] 0 = (0, eU R [101, 46, 49] [] 0) := by
  have := eU_cut R [101, 46, 49] c m 0 (Nat.zero_le _)
  simpa using this
set_option maxHeartbeats 4000000 in
theorem eventsTurned_law (v : Value) (l : List Oq) (at_ : Int) (t : Nat) (htt : t < 4294967296) (ha : -9223372036854775808 ≤ at_ ∧ at_ ≤ 9223372036854775807) (w : World) (hv : Ops w v l) (hl : l.length * 72 ≤ 140737488355328) (hp : Pw w) (ht : Tab w) :
    Calls Tryd.prog 4 #[v, .int .i64 at_, .int .u32 (t : Int)] w fun e w' => e = .returned (.bool true) ∧ Ext w w' := by
  have HV := hid hv
  have HP := hid hp
  have HT := hid ht
  have HL := hid hl
  have HAT := hid ha
  have HTT := hid htt
  obtain ⟨ao, cap, rfl, hle, hmx, -, -⟩ := hv.open
  have HCA := hid (awake17_any w ht hp)
  clear hv hp ht hl ha htt
  go_enter Tryd.func4, Tryd.ntmps4
  go_wp2_with fail
  refine HCA.out.mono ?_
  rintro e w1 ⟨rfl, hx⟩
  have HE1 := hid hx
  have HC := hid (dnew_any w1 w.heap.size hx.size 65536)
  clear hx HCA
  go_wp2_with fail
  refine HC.out.mono ?_
  rintro e w2 ⟨-, h⟩
  obtain ⟨p, x, rfl, d2, hx, -⟩ := h (by decide) (by decide)
  have D2 : Hid (Dk w.heap.size w2 p x (newP 65536)) := hid d2
  have HE2 := hid (HE1.out.trans hx)
  have HW2 : Hid (WF (newP 65536)) := hid (wf_new (by decide))
  clear h d2 hx HC HE1
  have HC := hid (own17_any _ l w2 (HV.out.ext HE2.out) HL.out)
  go_wp2_with fail
  refine HC.out.mono ?_
  rintro e w3 ⟨⟨u, rfl, ho⟩, hx⟩
  obtain ⟨uo, uc, rfl⟩ := OpsO.open ho
  have HE3 := hid (HE2.out.trans hx)
  have D3 := hid (D2.out.ext hx)
  have HC := hid (rlarge12_any _ l w3 ho.ops)
  clear hx ho HE2 D2
  go_wp2_with fail
  refine HC.out.mono ?_
  rintro e w4 ⟨⟨r, rfl, hr⟩, hx⟩
  have HE4 := hid (HE3.out.trans hx)
  have D4 := hid (D3.out.ext hx)
  clear hx HC HE3 D3
  cases r with
  | true =>
    clear hr
    go_wp2
    go_returns
    exact ⟨rfl, HE4.out⟩
  | false =>
    have HLL := hid (hr rfl).1
    clear hr
    have HC := hid (do_eq (ebegin_any 1 D4.out HE4.out.size HW2.out (by simp [newP]) (HP.out.ext15 HE4.out)) (bU_B (by decide)) 0 rfl)
    have hw := wf_evB HW2.out 1
    rw [bU_B (by decide)] at hw
    have HW3 := hid hw
    clear hw
    go_wp2_with fail
    refine HC.out.mono ?_
    rintro e w5 ⟨rfl, hs⟩
    obtain ⟨x5, d5, bl, -, -, -⟩ := hs.keep
    have D5 := hid d5
    have HE5 := hid (HE4.out.below bl)
    clear hs d5 bl HC D4 HE4 HW2
    have hc := eappend_any 1 l _ D5.out HE5.out.size HW3.out (HV.out.ext HE5.out) (by have := HLL.out; omega) (HP.out.ext15 HE5.out) (HT.out.ext HE5.out)
    have hw := wf_evA HW3.out 1 l
    cases hA : allR l with
    | false =>
      have HC := hid (do_eq hc (b_no hA) 1 rfl)
      clear hc hw hA
      go_wp2_with fail
      refine HC.out.mono ?_
      rintro e w6 ⟨rfl, hs⟩
      obtain ⟨x6, d6, bl, -, -, -⟩ := hs.keep
      have HE6 := hid (HE5.out.below bl)
      clear hs d6 bl HC
      go_wp2
      go_returns
      exact ⟨rfl, HE6.out⟩
    | true =>
      have hbl := opsB_len hA
      have heq : evA (eU 65536 (evN (1 : UInt64).toNat) [] 0) 1 l = (0, eU 65536 [101, 46, 49] (opsB l) 0) := by
        rw [bU_A (by decide) hA (by have := HLL.out; simp only [List.length_nil]; omega), List.nil_append, show (1 : UInt64).toNat = 1 from rfl, evN1]
      have HC := hid (do_eq hc heq 0 rfl)
      rw [heq] at hw
      have HW4 := hid hw
      have hlo := load_ops hA
      have hlt := load_turned hA at_ t
      have HBL : Hid ((opsB l).length ≤ 8220) := hid (by have := HLL.out; omega)
      have hel := opsE_len l 0
      obtain ⟨bs, hbs⟩ : ∃ b, opsB l = b := ⟨_, rfl⟩
      rw [hbs] at HC HW4 hlo hlt HBL
      obtain ⟨cs, hcs⟩ : ∃ c, turnN at_ t bs 32 = c := ⟨_, rfl⟩
      have HLEN : Hid (cs.length = bs.length) := hid (by rw [← hcs]; exact turnN_length at_ t bs 32)
      rw [hcs] at hlt
      have HCS := hid hcs
      have HLO := hid hlo
      have HLT := hid hlt
      have HEL := hid hel
      clear hc hw hA hbl heq hlo hlt hbs hcs hel
      go_wp2_with fail
      refine HC.out.mono ?_
      rintro e w6 ⟨rfl, hs⟩
      obtain ⟨x6, d6, bl, -, -, -⟩ := hs.keep
      have D6 := hid d6
      have HE6 := hid (HE5.out.below bl)
      clear hs d6 bl HC D5 HE5 HW3
      have hc := dread_any [101, 46, 49] (by simp [maxLen]) D6.out
      unfold ReadP at hc
      rw [(eU_rd _ _ _ _).1, (eU_rd _ _ _ _).2] at hc
      have HC := hid hc
      clear hc
      go_wp2_with fail
      refine HC.out.mono ?_
      rintro e w7 ⟨⟨y, rfl, ho⟩, hx⟩
      obtain ⟨yo, yc, hye⟩ := row_shape ho
      obtain ⟨nb, hnb⟩ : ∃ n, bs.length = n := ⟨_, rfl⟩
      rw [hnb] at hye
      subst hye
      have HNB := hid hnb
      have HO7 := hid ho
      have HN7 := hid (row_new D6.out ho)
      have D7 := hid (D6.out.ext hx)
      have HE7 := hid (HE6.out.trans hx)
      clear hx ho HC D6 HE6 hnb
      have hc := turn_any _ _ at_ (t : Int) t rfl HTT.out HAT.out.1 HAT.out.2 w7 HO7.out.byt (by have := HBL.out; omega)
      rw [HCS.out] at hc
      have HC := hid hc
      clear hc
      go_wp2_with fail
      refine HC.out.mono ?_
      rintro e w8 ⟨z, rfl, ho, hx⟩
      have HO8' := hid ho
      have HN8' := hid (row_new D7.out ho)
      have HO8 := hid (hx.owns HO7.out)
      have D8 := hid (D7.out.ext hx)
      have HE8 := hid (HE7.out.trans hx)
      clear hx ho HC D7 HE7 HO7
      have hc := do_eq (dcut_any [101, 46, 49] 0 (by simp [maxLen]) D8.out HE8.out.size (HW4.out.cut _ _).gd) bT_C 0 rfl
      have hw := HW4.out.cut [101, 46, 49] 0
      rw [bT_C] at hw
      have HW5 := hid hw
      have HC := hid hc
      clear hc hw
      go_wp2_with fail
      refine HC.out.mono ?_
      rintro e w9 ⟨rfl, hs⟩
      obtain ⟨x9, d9, bl, kb⟩ := hs.keepR
      obtain ⟨ho, hn⟩ := kb _ _ _ _ _ _ HO8.out HN7.out
      obtain ⟨ho', hn'⟩ := kb _ _ _ _ _ _ HO8'.out HN8'.out
      have HO9 := hid ho
      have HN9 := hid hn
      have HO9' : Hid (Own w9 w7.heap.size 5 z cs) := hid ho'
      have HN9' := hid hn'
      have D9 := hid d9
      have HE9 := hid (HE8.out.below bl)
      clear hs d9 bl kb ho hn ho' hn' HC D8 HE8 HO8 HO8' HN7 HN8' HW4
      have happ := eU_app 65536 [101, 46, 49] [] cs 0 (by have := HBL.out; have := HLEN.out; simp only [List.length_nil]; omega)
      rw [List.nil_append] at happ
      have hc := do_eq (dappend_any [101, 46, 49] cs z (by simp [maxLen]) HO9'.out.byt (by have := HBL.out; have := HLEN.out; omega) D9.out HE9.out.size (HW5.out.app _ _).gd) happ 0 rfl
      have hw := HW5.out.app [101, 46, 49] cs
      rw [happ] at hw
      have HW6 := hid hw
      have HC := hid hc
      clear hc hw happ
      go_wp2_with fail
      refine HC.out.mono ?_
      rintro e w10 ⟨rfl, hs⟩
      obtain ⟨x10, d10, bl, kb⟩ := hs.keepR
      obtain ⟨ho, -⟩ := kb _ _ _ _ _ _ HO9.out HN9.out
      obtain ⟨ho', -⟩ := kb _ _ _ _ _ _ HO9'.out HN9'.out
      have HO10 : Hid (Own w10 w6.heap.size 5 (.slice yo nb yc) bs) := hid ho
      have HO10' : Hid (Own w10 w7.heap.size 5 z cs) := hid ho'
      have D10 := hid d10
      have HE10 := hid (HE9.out.below bl)
      clear hs d10 bl kb ho ho' HC D9 HE9 HO9 HO9' HN9 HN9' HW5
      obtain ⟨q, hq⟩ : ∃ q, (bs == cs) = q := ⟨_, rfl⟩
      have hlq : loadB cs = if q = true then (l, opsE 0 l, 0) else ([], [], 8) := by
        cases q with
        | true =>
          have : bs = cs := by simpa using hq
          rw [← this, HLO.out]; rfl
        | false =>
          have : cs ≠ bs := fun e => by rw [e] at hq; simp at hq
          rw [HLT.out this]; rfl
      have hc := eload_any 1 D10.out HW6.out (HP.out.ext15 HE10.out) (HT.out.ext HE10.out)
      rw [bT_L, hlq] at hc
      have HC := hid hc
      have HQ := hid hq
      clear hc hlq hq
      go_wp2_with fail
      refine HC.out.mono ?_
      rintro e w11 ⟨⟨u, r, rfl, hu, hr⟩, hx⟩
      obtain ⟨zo, zc, rfl⟩ := row_shape (show Own w10 w7.heap.size 5 z cs from HO10'.out)
      have HS := hid (rsame_any _ _ bs cs w11 (HO10.out.ext hx).byt (HO10'.out.ext hx).byt)
      have HE11 := hid (HE10.out.trans hx)
      have D11 := hid (D10.out.ext hx)
      rw [HQ.out] at HS
      cases q with
      | true =>
        rw [if_pos rfl] at hu hr ⊢
        dsimp only at hu hr ⊢
        obtain ⟨uo2, uc2, rfl⟩ := OpsO.open hu
        obtain ⟨ro, rc, rfl⟩ := hr.shape
        rw [HEL.out]
        have HU := hid (OpsO.ops hu)
        clear hx hu hr HC HE10 D10 HO10 HO10'
        go_wp2_with fail
        refine HS.out.mono ?_
        rintro e w12 ⟨rfl, hx⟩
        have HE12 := hid (HE11.out.trans hx)
        have HC := hid (own17_any _ l w12 (HU.out.ext hx) HL.out)
        clear hx HS HE11 D11 HU
        go_wp2_with fail
        refine HC.out.mono ?_
        rintro e w13 ⟨⟨u, rfl, ho⟩, hx⟩
        obtain ⟨oo1, oc1, rfl⟩ := OpsO.open ho
        have HE13 := hid (HE12.out.trans hx)
        have HO13 := hid (OpsO.ops ho)
        have HC := hid (own17_any _ l w13 (HV.out.ext HE13.out) HL.out)
        clear ho hx HE12
        go_wp2_with fail
        refine HC.out.mono ?_
        rintro e w14 ⟨⟨u, rfl, ho⟩, hx⟩
        obtain ⟨oo2, oc2, rfl⟩ := OpsO.open ho
        have HE14 := hid (HE13.out.trans hx)
        have HC := hid (same17_any _ _ l w14 (HO13.out.ext hx) ho.ops)
        clear ho hx HE13 HO13
        go_wp2_with fail
        refine HC.out.mono ?_
        rintro e w15 ⟨rfl, hx⟩
        have HE15 := hid (HE14.out.trans hx)
        clear hx HC HE14
        go_wp2
        go_returns
        exact ⟨by first | rfl | simp, HE15.out⟩
      | false =>
        rw [if_neg (by decide)] at hu hr ⊢
        dsimp only at hu hr ⊢
        obtain ⟨uo2, uc2, rfl⟩ := OpsO.open hu
        obtain ⟨ro, rc, rfl⟩ := hr.shape
        clear hx hu hr HC HE10 D10 HO10 HO10'
        go_wp2_with fail
        refine HS.out.mono ?_
        rintro e w12 ⟨rfl, hx⟩
        have HE12 := hid (HE11.out.trans hx)
        clear hx HS HE11 D11
        go_wp2
        go_returns
        exact ⟨by first | rfl | simp, HE12.out⟩
end Go.Proofs.YtinancnlangkjaaDoor

namespace Go.Proofs.YtinancnlangkjaaDoor.eventsTurned
open Go.ChangeShapes Go.WideShapes Go.ChangeAt Go.RowKit
open Go.ChangeMaps (open_string shut_string)
set_option linter.unusedVariables false
set_option maxRecDepth 100000

theorem own : ownKnob Tryd.prog.godebug = none := by kernel_rfl
theorem kid1 : laidOutB Tryd.prog = true := by kernel_rfl
theorem kid2 : mapsRowed Tryd.prog = true := by kernel_rfl
theorem kid3 : ((List.range Tryd.prog.types.size).all fun t => match Tryd.prog.underlying t with | some (.slice e) => decide (0 < Tryd.prog.cellsOf e) | _ => true) = true := by kernel_rfl
theorem kid4 : ∀ t ∈ Tryd.f4.params.toList, t < Tryd.prog.types.size := by decide +kernel
theorem gTab : Tryd.prog.globalNamed "internal/strconv.uint64pow10" = some 2 := by kernel_rfl
theorem gTabType : (Tryd.prog.globals[2]?).map (·.type) = some 130 := by kernel_rfl
theorem cellsT : Tryd.prog.cellsOf 130 = 20 := by kernel_rfl
theorem cellsE : Tryd.prog.cellsOf 32 = 1 := by kernel_rfl
theorem powIs : (Rows.laid_internal_strconv_uint64pow10 : DataW Unit) = Lib.tabData .u64 Lib.pow10Tab := by kernel_rfl
theorem table {W : World} (h : laidMetH Tryd.prog Rows.eventsTurnedRow.laid W) : Pw W := by
  have h' : laidMet Tryd.prog Rows.eventsTurnedRow.laid W := h
  have hr := Lib.laidMet.reads h' (n := "internal/strconv.uint64pow10") (d := Rows.laid_internal_strconv_uint64pow10) (.tail _ (.tail _ (.head _)))
  rw [powIs] at hr
  obtain ⟨g', t', cs, fuel, p, hg', ht', hvar, hd⟩ := hr
  obtain rfl := Option.some.inj (gTab.symm.trans hg')
  obtain rfl := Option.some.inj (gTabType.symm.trans ht')
  show Lib.TabIs _ _ _ _ _
  unfold Lib.TabIs
  rw [hvar, ← Lib.cells_of_tab Tryd.underlying130 Tryd.underlying32 cellsE cellsT hd]
theorem gTab2 : Tryd.prog.globalNamed "tumbrel/record.numbers" = some 0 := by kernel_rfl
theorem gTabType2 : (Tryd.prog.globals[0]?).map (·.type) = some 110 := by kernel_rfl
theorem cellsT2 : Tryd.prog.cellsOf 110 = 18 := by kernel_rfl
theorem cellsE2 : Tryd.prog.cellsOf 3 = 1 := by kernel_rfl
theorem numIs : (Rows.laid_tumbrel_record_numbers : DataW Unit) = Lib.tabData .i64 tabZ := by kernel_rfl
theorem table2 {W : World} (h : laidMetH Tryd.prog Rows.eventsTurnedRow.laid W) : Tab W := by
  have h' : laidMet Tryd.prog Rows.eventsTurnedRow.laid W := h
  have hr := Lib.laidMet.reads h' (n := "tumbrel/record.numbers") (d := Rows.laid_tumbrel_record_numbers) (.tail _ (.tail _ (.tail _ (.head _))))
  rw [numIs] at hr
  obtain ⟨g', t', cs, fuel, p, hg', ht', hvar, hd⟩ := hr
  obtain rfl := Option.some.inj (gTab2.symm.trans hg')
  obtain rfl := Option.some.inj (gTabType2.symm.trans ht')
  have ht : Lib.TabIs Tryd.prog W "tumbrel/record.numbers" .i64 tabZ := by
    unfold Lib.TabIs
    rw [hvar, ← Lib.cells_of_tab Tryd.underlying110 Tryd.underlying3 cellsE2 cellsT2 hd]
  intro i hi
  rw [← tabZ_at ⟨i, hi⟩]
  exact ht.cell gTab2 i hi

set_option maxRecDepth 100000 in
theorem contract (H : Type) (enc : TypeId × Value → H) (W : World) (base : Nat) (args : Array Value) (ds gs : List (DataW H)) (before : List MemPlace)
    (hval : ∀ (j : Nat) t v, Tryd.f4.params[j]? = some t → args[j]? = some v → Value.okWide Tryd.prog W .any base t v)
    (hW : DataW.Whole enc Tryd.prog Tryd.f4.params.toList Rows.eventsTurnedSpec.vars false W args.toList ds gs before) (hL : laidMetH Tryd.prog Rows.eventsTurnedRow.laid W)
    (hz : (DataW.weightsEach Tryd.prog (Tryd.f4.params.toList ++ (OpenSpec.ofChange Rows.eventsTurnedSpec).bare.plain.varTypes Tryd.prog) (ds ++ gs)).all (· ≤ reachBytes) = true) :
    Calls Tryd.prog 4 args W fun e W' => ∃ v, e = .returned v ∧ Rows.eventsTurnedSpec.post enc Tryd.prog Tryd.f4 false true false false W args v W' := by
  have hW' := hW
  obtain ⟨p, q, hA0, hV, rfl, hfz, hnd⟩ := hW
  have hA : DataW.TrodAll enc Tryd.prog W 0 (fun _ => true) true Tryd.f4.params.toList args.toList ds p := hA0
  rw [Tryd.params4] at hA hval
  obtain ⟨v0, vs0, d0, ds0, p0, q0, hargs, rfl, rfl, h0, r0⟩ := trodAll_cons hA
  obtain ⟨v1, vs1, d1, ds1, p1, q1, rfl, rfl, rfl, h1, r1⟩ := trodAll_cons r0
  obtain ⟨v2, vs2, d2, ds2, p2, q2, rfl, rfl, rfl, h2, r2⟩ := trodAll_cons r1
  obtain ⟨rfl, rfl, rfl⟩ := trodAll_nil r2
  obtain rfl : args = #[v0, v1, v2] := by cases args; simp_all
  obtain ⟨rfl, rfl⟩ := trodVars_none hV
  obtain ⟨m0, hm0, hs0⟩ := open_opsQ (hval 0 22 v0 rfl rfl) h0
  obtain ⟨a1, rfl, rfl, rfl, w1⟩ := open_int Tryd.underlying3 (hval 1 3 v1 rfl rfl) h1
  obtain ⟨a2, rfl, rfl, rfl, w2⟩ := open_int Tryd.underlying53 (hval 2 53 v2 rfl rfl) h2; obtain ⟨t2, rfl, ht2⟩ := Go.Tum.u32_wf w2
  refine (eventsTurned_law v0 m0 a1 t2 ht2 (Go.Tum.i64_wf w1) W hm0 (ops_small hz (j := 0) rfl rfl hs0) (table hL) (table2 hL)).mono fun e W' ⟨he, hg⟩ => ?_
  subst he
  exact ⟨_, rfl, Go.Tum.law_post kid1 kid2 kid3 kid4 rfl Tryd.underlying4 hW' rfl rfl hg⟩

def litC (d : DataW Unit) : Array Value := match d with
  | .agg ds => (ds.map fun x => match x with
    | .lit (.int k n) => Value.int k n
    | _ => .tuple #[]).toArray
  | _ => #[]
/-- A world for the witness: the settled one, the tables laid. -/
noncomputable def laidWorld (os : Os) : World :=
  let w0 := World.holding Tryd.prog os ⟨#[], #[], []⟩
  let put (h : Array Obj) (g : Nat) (cs : Array Value) : Array Obj := h.modify g fun
    | .cells _ t frozen => .cells cs t frozen
    | o => o
  { w0 with heap := put (put (put (put w0.heap 0 (litC Rows.laid_tumbrel_record_numbers)) 2 (litC Rows.laid_internal_strconv_uint64pow10)) 3 (litC Rows.laid_math_bits_deBruijn32tab)) 4 (litC Rows.laid_math_bits_deBruijn64tab) }
theorem laid_met (os : Os) : laidMet Tryd.prog Rows.eventsTurnedRow.laid ((laidWorld os).forCall (fun _ _ => 0) ⟨#[], #[.slice none 0 0, .int .i64 0, .int .u32 0], []⟩).memory :=
  laidMet_of_run3 10 (by kernel_rfl) (by kernel_rfl) (by kernel_rfl)
theorem reads (os : Os) {H : Type} (enc : TypeId × Value → H) : ∃ places, DataW.whole enc Tryd.prog ((laidWorld os).forCall (fun _ _ => 0) ⟨#[], #[.slice none 0 0, .int .i64 0, .int .u32 0], []⟩).memory Tryd.f4.params.toList Rows.eventsTurnedSpec.vars false #[Value.slice none 0 0, Value.int .i64 0, Value.int .u32 0].toList 8 = some ([.nil, .lit (.int .i64 0), .lit (.int .u32 0)], [], places) :=
  ⟨[], by kernel_rfl⟩

set_option maxRecDepth 100000 in
theorem lifted (os : Os) (started : os.Started) (H : Type) (enc : TypeId × Value → H) (F : Stop.Interp) :
    ReturnsInHanded {} Tryd.checked os 4 .any ((OpenSpec.ofChange Rows.eventsTurnedSpec).preRow enc Tryd.prog Tryd.f4 Rows.eventsTurnedRow.domain false Rows.eventsTurnedRow.laid) (((OpenSpec.ofChange Rows.eventsTurnedSpec).at F).post enc Tryd.prog Tryd.f4 false true false false) := by
  obtain ⟨places, hx⟩ := reads os enc
  refine returnsInHanded_of_row (C := Tryd.checked) (s := OpenSpec.ofChange Rows.eventsTurnedSpec) own started (by kernel_rfl) Tryd.func4
    (witness_row_at (enc := enc) (C := Tryd.checked) false (laidWorld os) #[.slice none 0 0, .int .i64 0, .int .u32 0] rfl (by kernel_rfl) (by kernel_rfl) (by kernel_rfl)
      (OpenSpec.preRow_of_cond 8 hx (by kernel_rfl) (fun k hk => by cases hk) (by kernel_rfl) (laid_met os))) ?_
  intro W base args ds gs before hval hW _ _ hz hL _ _
  exact contract H enc W base args ds gs before hval hW hL hz

theorem said : Rows.EventsTurnedSaid :=
  OpenClaim.holds_of_cond 4 Tryd.f4 rfl rfl rfl rfl rfl rfl rfl ⟨rfl, rfl, rfl, rfl, rfl⟩ rfl rfl rfl rfl rfl (by kernel_rfl) Tryd.func4 (by kernel_rfl)
    (of_decide_eq_true (by kernel_rfl)) (by unfold Func.isWrapper; first | (rw [if_pos (by decide +kernel)]; kernel_rfl) | (rw [if_neg (by decide +kernel)]; exact ⟨rfl, rfl⟩))
    (fun os started H enc _ F => by rw [OpenClaim.pre_eq_preRow]; exact lifted os started H enc F)

theorem plain (f : FuncId) (fn : Func) (hf : Tryd.pinned.checked.prog.funcNamed "tumbrel/tumbrellaw17.EventsTurned" = some f) (hfn : Tryd.pinned.checked.prog.funcs[f]? = some fn) :
    false = Tryd.pinned.checked.prog.looks [] ∧ ∀ (j : Nat) t, fn.params[j]? = some t → Tryd.pinned.checked.prog.wantsStandIn t = false := by
  obtain rfl : f = 4 := Option.some.inj ((show Tryd.prog.funcNamed "tumbrel/tumbrellaw17.EventsTurned" = some 4 by kernel_rfl).symm.trans hf) |>.symm
  obtain rfl : fn = Tryd.f4 := (Option.some.inj (Tryd.func4.symm.trans hfn)).symm
  refine ⟨by kernel_rfl, fun j t ht => ?_⟩
  rw [Tryd.params4] at ht
  have hm := Array.mem_of_getElem? ht
  have hall : ∀ t ∈ Tryd.f4.params.toList, Tryd.prog.wantsStandIn t = false := by decide +kernel
  rw [Tryd.params4] at hall
  exact hall t (by simpa using hm)

theorem proved : Rows.EventsTurnedCardSaid :=
  Claim7.holds_tied_plain_at .later [] _ _ _ _ said (fun _ h => by cases h) (by kernel_rfl) (fun _ h => by cases h) eventsTurned_row_tie rfl ⟨rfl, rfl⟩ (by kernel_rfl) rfl plain (by kernel_rfl)
end Go.Proofs.YtinancnlangkjaaDoor.eventsTurned

