/- The document's answers of layer 1: Entry, More, Of, Four, Put, Same, Cut. -/
import Derived.Test.YtijpokajhjhllaaGreatDoorSumM
import Derived.Test.YtijpokajhjhllaaGreatDoorPar
import Derived.Test.YtijpokajhjhllaaGreatDoorSame
import Derived.Deep.QuietTactic
import Derived.BigQuiet
namespace Go.Proofs.YtijpokajhjhllaaGreatDoor
open Go.RowKit Go.Tum Go.Tum.Crc

theorem rinfo5 : (Tryz.prog.info? 5).map (fun i => (i.zero, i.size, i.bytes)) = some (some (.int .u8 0), 1, 1) := by kernel_rfl

theorem entry_any (x : Int) (n : Nat) (hx : x = n) (hn : n < 4294967296) (w : World) :
    Calls Tryz.prog 134 #[.int .u32 x] w fun e w' => e = .returned (.int .u32 (divN 8 n : Nat)) ∧ w = w' := by
  subst hx
  go_enter Tryz.func134, Tryz.ntmps134
  go_wp2
  go_loop [0, 3] (fun v i => ∃ k : Nat, k ≤ 8 ∧ i = .int .i64 k ∧ ∃ m : Nat, m < 4294967296 ∧ Hid (m = divN k n) ∧ v = .int .u32 m) (fun _ i => 8 - (intOf i).toNat)
  case atStart => exact ⟨0, by omega, rfl, n, hn, rfl, rfl⟩
  case round =>
    obtain ⟨k, hk, rfl, m, hm, HM, rfl⟩ := hrel
    by_cases hlt : k < 8
    · rcases Nat.mod_two_eq_zero_or_one m with h2 | h2
      · have e2 : ((m : Int) % 2 == 1) = false := by
          have : (m : Int) % 2 = 0 := by omega
          rw [this]; rfl
        have H2 := hid h2
        clear h2
        go_wp2
        go_round
        case rel => exact ⟨k + 1, by omega, by go_num, m / 2, by omega, by have := HM.out; subst this; exact (divStep_even H2.out).symm, by go_num⟩
        case measure => simp [intOf]; omega
      · have e2 : ((m : Int) % 2 == 1) = true := by
          have : (m : Int) % 2 = 1 := by omega
          rw [this]; rfl
        have e3 : bits .xor .u32 ((m : Int) / 2) 2197175160 = ((m / 2 ^^^ 2197175160 : Nat) : Int) := u32_xor_nat (m / 2) 2197175160 (by omega) (by omega)
        have H2 := hid h2
        clear h2
        go_wp2
        go_round
        case rel => exact ⟨k + 1, by omega, by go_num, m / 2 ^^^ 2197175160, Nat.xor_lt_two_pow (n := 32) (by omega) (by decide), by have := HM.out; subst this; exact (divStep_odd H2.out).symm, rfl⟩
        case measure => simp [intOf]; omega
    · obtain rfl : k = 8 := by omega
      go_wp2
      go_ret
      have := HM.out; subst this
      exact ⟨rfl, rfl⟩

theorem rmore_any (x : Int) (s : Nat) (hx : x = s) (hs : s < 4294967296) (v : Value) (l : List UInt8) (w : World) (hb : Byt w v l) :
    Calls Tryz.prog 125 #[.int .u32 x, v] w fun e w' => e = .returned (.int .u32 (more s l : Nat)) ∧ w = w' := by
  subst hx
  obtain ⟨ao, cap, rfl, hle, hm, hnn, hcell⟩ := hb.open
  have HC := hid hcell
  clear hb hcell
  go_enter Tryz.func125, Tryz.ntmps125
  go_wp2
  go_loop [5, 6] (fun v i => ∃ k : Nat, k ≤ l.length ∧ i = .int .i64 k ∧ ∃ m : Nat, m < 4294967296 ∧ Hid (m = crcFold (4294967295 - s) (l.take k)) ∧ v = .int .u32 m) (fun _ i => l.length - (intOf i).toNat)
  case atStart => exact ⟨0, by omega, rfl, 4294967295 - s, by omega, rfl, by go_num⟩
  case round =>
    obtain ⟨k, hk, rfl, m, hmlt, HM, rfl⟩ := hrel
    by_cases hlt : k < l.length
    · obtain ⟨a, rfl⟩ := hnn (by omega)
      have hc := HC.out a rfl k hlt
      have hu := (l[k]).toNat_lt
      have hs2 := hid (crcFold_snoc (4294967295 - s) l k hlt)
      go_wp2_with (go_at_call 134; refine (entry_any _ (m ^^^ l[k].toNat) ?_ ?_ _).mono ?_; exact u32_xor_nat _ _ hmlt (by omega); exact Nat.xor_lt_two_pow (n := 32) hmlt (by omega); rintro e w' ⟨rfl, rfl⟩)
      go_round
      case rel => exact ⟨k + 1, by omega, by go_num, _, crcStep_lt m l[k] hmlt, by rw [Hid, hs2.out, ← HM.out], rfl⟩
      case measure => simp [intOf]; omega
    · obtain rfl : k = l.length := by omega
      have h1 : m ≤ 4294967295 := by omega
      go_wp2
      go_ret
      have := HM.out
      rw [List.take_length] at this
      subst this
      refine ⟨congrArg (fun n => Ending.returned (.int .u32 n)) ?_, rfl⟩
      unfold more; omega

theorem rof_any (v : Value) (l : List UInt8) (w : World) (hb : Byt w v l) :
    Calls Tryz.prog 111 #[v] w fun e w' => e = .returned (.int .u32 (Crc.sum l : Nat)) ∧ w = w' := by
  obtain ⟨ao, cap, rfl, hle, hm, hnn, hcell⟩ := hb.open
  clear hcell hnn
  have HB := hid hb
  clear hb
  go_enter Tryz.func111, Tryz.ntmps111
  go_wp2_with (go_at_call 125; refine (rmore_any _ 0 ?_ (by omega) _ l _ HB.out).mono ?_; rfl; rintro e w1 ⟨rfl, rfl⟩)
  go_ret
  exact ⟨rfl, rfl⟩

theorem four_take (n k : Nat) (h : k < 4) : (four n).take (k + 1) = (four n).take k ++ [UInt8.ofNat (n / 256 ^ k % 256)] := by
  match k, h with
  | 0, _ => simp [four]
  | 1, _ => rfl
  | 2, _ => rfl
  | 3, _ => rfl

theorem four_any (x : Int) (n : Nat) (hx : x = n) (hn : n < 4294967296) (w : World) :
    Calls Tryz.prog 110 #[.int .u32 x] w fun e w' => ∃ r, e = .returned r ∧ Own w' w.heap.size 5 r (four n) ∧ Ext w w' := by
  subst hx
  go_enter Tryz.func110, Tryz.ntmps110
  go_wp2
  go_loopw [0, 3, 4] (fun v o i wr => ∃ k : Nat, k ≤ 4 ∧ i = .int .i64 k ∧ (∃ m : Nat, m < 4294967296 ∧ Hid (m = n / 256 ^ k) ∧ v = .int .u32 m) ∧ (∃ ao cap, o = .slice ao k cap ∧ Own wr w.heap.size 5 (.slice ao k cap) ((four n).take k)) ∧ Ext w wr) (fun _ _ i _ => 4 - (intOf i).toNat)
  case atStart => exact ⟨0, by omega, rfl, ⟨n, hn, hid (by simp), rfl⟩, ⟨_, 0, rfl, own_lit _ _ _ [] _ rfl 0 rfl (Nat.le_refl _) (by simp [maxLen])⟩, Ext.alloc _ _⟩
  case round =>
    obtain ⟨k, hk, rfl, ⟨m, hm, HM, rfl⟩, ⟨ao, cap, rfl, hown⟩, hE⟩ := hrel
    have hsz := hE.size
    by_cases hlt : k < 4
    · have hs := hid (four_take n k hlt)
      go_wp2_with (at_builtin; refine wpList_append_byt rfl (.tmp 10) (.tmp 14) 37 rfl w.heap.size 5 Tryz.underlying37 rinfo5 rfl (hown.ext (Ext.alloc _ _)) rfl (Byt.one _ _ _ (UInt8.ofNat (m % 256)) (by simp)) (k + 1) (by simp [four]; omega) (by omega) (by simp; omega) ?_; intro ao2 cap2 w2 hown2 hg2 hb2)
      go_roundw
      case rel =>
        refine ⟨k + 1, by omega, by go_num, ⟨m / 256, by omega, ?_, by go_num⟩, ⟨_, _, rfl, ?_⟩, Below.trans (Below.alloc hE (by omega) _) hb2⟩
        · have := HM.out
          rw [this]; exact hid (by rw [Nat.pow_succ, Nat.div_div_eq_div_mul])
        · rw [hs.out, ← HM.out]; exact hown2
      case measure => simp [intOf]; omega
    · obtain rfl : k = 4 := by omega
      go_wp2
      go_ret
      refine ⟨_, rfl, ?_, hE⟩
      simpa [four] using hown

theorem rput_any (v : Value) (l : List UInt8) (w : World) (hb : Byt w v l) (hl : l.length ≤ 1048576) :
    Calls Tryz.prog 100 #[v] w fun e w' => ∃ r, e = .returned r ∧ Own w' w.heap.size 5 r (Crc.put l) ∧ Ext w w' := by
  obtain ⟨ao, cap, rfl, hle, hm, hnn, hcell⟩ := hb.open
  have HB := hid hb
  clear hb hcell hnn
  go_enter Tryz.func100, Tryz.ntmps100
  go_wp2_with (first
    | (at_builtin; refine wpList_append_byt rfl (.tmp 3) (.tmp 4) 37 rfl w.heap.size 5 Tryz.underlying37 rinfo5 rfl (own_lit w _ _ [] _ rfl 0 rfl (Nat.le_refl _) (by simp [maxLen])) rfl (HB.out.ext (Ext.alloc _ _)) l.length (by simp) (by omega) (by simp) ?_; intro ao1 cap1 w1 hown1 hg1 hb1; have hE1 : Ext w w1 := (Ext.alloc w _).below hb1)
    | (go_at_call 111; refine (rof_any _ l _ (HB.out.ext hE1)).mono ?_; rintro e w2 ⟨rfl, rfl⟩)
    | (go_at_call 110; refine (four_any _ (Crc.sum l) rfl (more_lt 0 l) _).mono ?_; rintro e w3 ⟨r, rfl, hr3, hw3⟩)
    | (at_builtin; refine wpList_append_byt rfl (.tmp 5) (.tmp 8) 37 rfl w.heap.size 5 Tryz.underlying37 rinfo5 rfl (hown1.ext hw3) rfl hr3.byt (l.length + 4) (by simp [four]) (by omega) (Nat.le_trans hE1.size hw3.size) ?_; intro ao4 cap4 w4 hown4 hg4 hb4))
  go_ret
  refine ⟨_, rfl, ?_, (hE1.trans hw3).below hb4⟩
  simpa [Own, Crc.put, four] using hown4

theorem rcut_any (v : Value) (l : List UInt8) (w : World) (hb : Byt w v l) (hl : l.length ≤ 1048576) :
    Calls Tryz.prog 112 #[v] w fun e w' => ∃ r, e = .returned (.tuple #[r, .bool (isPut l)]) ∧ Own w' w.heap.size 5 r (Crc.cut l) ∧ Ext w w' := by
  obtain ⟨ao, cap, rfl, hle, hm, hnn, hcell⟩ := hb.open
  clear hcell hnn
  have HB := hid hb
  clear hb
  by_cases h4 : l.length < 4
  · have h1 : isPut l = false := by unfold isPut; simp; omega
    have H1 := hid h1
    clear h1
    go_enter Tryz.func112, Tryz.ntmps112
    go_wp2
    go_ret2
    refine ⟨.slice none 0 0, by rw [H1.out]; rfl, by unfold Crc.cut; rw [H1.out]; exact Own.nil _ _ _, Ext.refl _⟩
  · have h4' : 4 ≤ l.length := by omega
    have hp1 : Byt w (.slice ao (l.length - 4) cap) (l.take (l.length - 4)) := by
      have := Byt.part HB.out 0 (l.length - 4) (by omega) (by omega) ao (by split <;> simp [Addr.add])
      simpa using this
    have HP1 := hid hp1
    clear hp1
    have hI2 : (l.length : Int) - 4 ≤ cap := by omega
    have hlen4 : ((l.length : Int) - 4).toNat = l.length - 4 := by omega
    have hlast : isPut l = (Crc.put (l.take (l.length - 4)) == l) := by unfold isPut; simp [h4']
    have HLAST := hid hlast
    clear hlast
    go_enter Tryz.func112, Tryz.ntmps112
    go_wp2_with (first
      | (at_builtin; refine wpList_append_byt rfl (.tmp 8) (.tmp 13) 37 rfl w.heap.size 5 Tryz.underlying37 rinfo5 rfl (own_lit w _ _ [] _ rfl 0 rfl (Nat.le_refl _) (by simp [maxLen])) rfl (HP1.out.ext (Ext.alloc _ _)) (l.length - 4) (by simp) (by omega) (by simp) ?_; intro ao1 cap1 w1 hown1 hg1 hb1; have hE1 : Ext w w1 := (Ext.alloc w _).below hb1)
      | (go_at_call 100; refine (rput_any _ _ _ hown1.byt (by simp; omega)).mono ?_; rintro e w2 ⟨r, rfl, hr2, hw2⟩)
      | (go_at_call 126; refine (rsame_any _ _ _ _ _ hr2.byt (HB.out.ext (hE1.trans hw2))).mono ?_; rintro e w3 ⟨rfl, hw3⟩))
    · go_ret2
      have hb : isPut l = false := by rw [HLAST.out]; simp_all
      refine ⟨_, by rw [hb]; rfl, ?_, (hE1.trans hw2).trans hw3⟩
      unfold Crc.cut
      rw [hb]
      exact Own.nil _ _ _
    · go_ret2
      have hb : isPut l = true := by rw [HLAST.out]; simp_all
      refine ⟨_, by rw [hb]; rfl, ?_, (hE1.trans hw2).trans hw3⟩
      unfold Crc.cut
      rw [hb]
      exact (hown1.ext hw2).ext hw3
end Go.Proofs.YtijpokajhjhllaaGreatDoor

