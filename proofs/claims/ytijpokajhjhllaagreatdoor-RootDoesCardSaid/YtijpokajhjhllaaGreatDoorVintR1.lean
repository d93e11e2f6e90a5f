/- The document's answers of layer 2: Put, All, Same, Get. -/
import Derived.Test.YtijpokajhjhllaaGreatDoorVintB1
import Derived.Test.YtijpokajhjhllaaGreatDoorSame
set_option maxRecDepth 100000
namespace Go.Proofs.YtijpokajhjhllaaGreatDoor
open Go.RowKit Go.Tum Go.Tum.Vint

theorem rput2_any (k : Nat) : k ≤ 9 → ∀ (x : Int) (n : Nat) (w : World), x = n → n < 18446744073709551616 → n < 128 ^ (k + 1) →
    Calls Tryz.prog 101 #[.int .u64 x] w fun e w' => ∃ r, e = .returned r ∧ Own w' w.heap.size 5 r (vputF k n) ∧ Ext w w' := by
  have small : ∀ (k : Nat) (n : Nat) (w : World), n < 128 →
    Calls Tryz.prog 101 #[.int .u64 (n : Int)] w fun e w' => ∃ r, e = .returned r ∧ Own w' w.heap.size 5 r (vputF k n) ∧ Ext w w' := by
    intro k n w h
    have hd : decide ((n : Int) < 128) = true := by simp; omega
    go_enter Tryz.func101, Tryz.ntmps101
    go_wp2_with fail
    go_ret
    rw [vputF_lt _ _ h]
    refine ⟨_, rfl, own_lit w _ _ [UInt8.ofNat n] _ ?_ 1 rfl (Nat.le_refl _) (by simp [maxLen]), Ext.alloc _ _⟩
    simp [bv]; omega
  induction k with
  | zero =>
    intro _ x n w hx hn hk
    subst hx
    exact small 0 n w (by omega)
  | succ k ih =>
    intro hk9 x n w hx hn hk
    subst hx
    by_cases h : n < 128
    · exact small (k + 1) n w h
    · have hd : decide ((n : Int) < 128) = false := by simp; omega
      have hl := vputF_len k (n / 128)
      rw [Nat.pow_succ] at hk
      have hk' : n / 128 < 128 ^ (k + 1) := by omega
      have HK := hid hk'
      have HH := hid h
      have HL := hid hl
      clear hk hk' hl h
      go_enter Tryz.func101, Tryz.ntmps101
      go_wp2_with (first
        | (go_at_call 101; refine (ih (by omega) _ (n / 128) _ ?_ ?_ HK.out).mono ?_; omega; omega; rintro e w1 ⟨r, rfl, hr1, hw1⟩)
        | (at_builtin; refine wpList_append_byt rfl (.tmp 12) (.tmp 15) 37 rfl w.heap.size 5 Tryz.underlying37 info8 rfl ((own_lit w w.heap.size 5 [UInt8.ofNat (128 + n % 128)] _ (by simp [bv]; omega) 1 rfl (Nat.le_refl _) (by simp [maxLen])).ext hw1) rfl hr1.byt ((vputF k (n / 128)).length + 1) (by simp; omega) (by have := HL.out; omega) (Nat.le_trans (by simp) hw1.size) ?_; intro ao2 cap2 w2 hown2 hg2 hb2))
      go_ret
      rw [vputF_ge _ _ (by have := HH.out; omega)]
      refine ⟨_, rfl, hown2, ((Ext.alloc w _).trans hw1).below hb2⟩

theorem rput2_put (x : Int) (n : Nat) (w : World) (hx : x = n) (hn : n < 18446744073709551616) :
    Calls Tryz.prog 101 #[.int .u64 x] w fun e w' => ∃ r, e = .returned r ∧ Own w' w.heap.size 5 r (vput n) ∧ Ext w w' :=
  rput2_any 9 (Nat.le_refl _) x n w hx hn (Nat.lt_of_lt_of_le hn (by decide))

theorem rall_any (v : Value) (l : List UInt64) (w : World) (hb : Vec uv w v l) (hl : l.length ≤ 1048576) :
    Calls Tryz.prog 82 #[v] w fun e w' => ∃ r, e = .returned r ∧ Own w' w.heap.size 5 r (vall l) ∧ Ext w w' := by
  obtain ⟨ao, cap, rfl, hle, hm, hnn, hcell⟩ := hb.open
  have HC := hid hcell
  clear hb hcell
  go_enter Tryz.func82, Tryz.ntmps82
  go_wp2
  go_loopw [3, 4] (fun o i wr => ∃ k : Nat, k ≤ l.length ∧ i = .int .i64 k ∧ (∃ bo cbp, o = .slice bo (vall (l.take k)).length cbp ∧ Hid (Own wr w.heap.size 5 (.slice bo (vall (l.take k)).length cbp) (vall (l.take k)))) ∧ Hid (Ext w wr)) (fun _ i _ => l.length - (intOf i).toNat)
  case atStart => exact ⟨0, by omega, rfl, ⟨_, _, rfl, own_lit w _ _ [] _ rfl 0 rfl (Nat.le_refl _) (by simp [maxLen])⟩, Ext.alloc _ _⟩
  case round =>
    obtain ⟨k, hk, rfl, ⟨bo, cbp, rfl, HO⟩, HE⟩ := hrel
    by_cases hlt : k < l.length
    · obtain ⟨a, rfl⟩ := hnn (by omega)
      have hc := HE.out.cell (HC.out a rfl k hlt)
      have hu := (l[k]).toNat_lt
      have hs := hid (show vall (l.take (k + 1)) = vall (l.take k) ++ vput (l[k].toNat) by rw [List.take_succ_eq_append_getElem hlt, vall_snoc])
      have hL := vall_len (l.take k)
      have hL2 := vputF_len 9 (l[k].toNat)
      rw [List.length_take] at hL
      change 1 ≤ (vput (l[k].toNat)).length ∧ (vput (l[k].toNat)).length ≤ 9 + 1 at hL2
      have HL := hid hL
      have HL2 := hid hL2
      have hsz := HE.out.size
      clear hL hL2
      go_wp2_with (first
        | (go_at_call 101; refine (rput2_put _ l[k].toNat _ rfl (by omega)).mono ?_; rintro e w1 ⟨r, rfl, hr1, hw1⟩)
        | (at_builtin; refine wpList_append_byt rfl (.tmp 12) (.tmp 17) 37 rfl w.heap.size 5 Tryz.underlying37 info8 rfl (HO.out.ext hw1) rfl hr1.byt (vall (l.take (k + 1))).length (by rw [hs.out, List.length_append]) (by rw [hs.out, List.length_append]; have := HL.out; have := HL2.out; omega) (Nat.le_trans hsz hw1.size) ?_; intro ao2 cap2 w2 hown2 hg2 hb2))
      go_roundw
      case rel => exact ⟨k + 1, by omega, by go_num, ⟨_, _, rfl, by rw [← hs.out] at hown2; exact hown2⟩, Below.trans (HE.out.trans hw1) hb2⟩
      case measure => simp [intOf]; omega
    · obtain rfl : k = l.length := by omega
      go_wp2
      go_ret
      refine ⟨_, rfl, ?_, HE.out⟩
      have := HO.out
      rw [List.take_length] at this
      show Own wr w.heap.size 5 (.slice bo (vall (l.take l.length)).length cbp) (vall l)
      rw [List.take_length]
      exact this

set_option maxRecDepth 100000 in
set_option maxHeartbeats 2000000 in
theorem rget_any (v : Value) (l : List UInt8) (w : World) (hb : Byt w v l) :
    Calls Tryz.prog 106 #[v] w fun e w' => e = .returned (.tuple #[.int .u64 ((vget l).1 : Nat), .int .i64 ((vget l).2.1 : Nat), .int .i64 ((vget l).2.2 : Nat)]) ∧ w = w' := by
  obtain ⟨ao, cap, rfl, hle, hm, hnn, hcell⟩ := hb.open
  have HC := hid hcell
  clear hb hcell
  go_enter Tryz.func106, Tryz.ntmps106
  go_wp2
  go_loop [5] (fun i => ∃ k : Nat, k ≤ l.length ∧ k ≤ 9 ∧ i = .int .i64 k ∧ Hid (cnt 9 l = k + cnt (9 - k) (l.drop k))) (fun i => 10 - (intOf i).toNat)
  case atStart => exact ⟨0, by omega, by omega, rfl, hid (by simp)⟩
  case round =>
    obtain ⟨k, hk, hk9, rfl, HK⟩ := hrel
    by_cases hgo : ∃ hl : k < l.length, k < 9 ∧ 128 ≤ (l[k]).toNat
    · obtain ⟨hlt, h9, hge⟩ := hgo
      obtain ⟨a, rfl⟩ := hnn (by omega)
      have hc := HC.out a rfl k hlt
      have hd2 : decide ((128 : Int) ≤ (l[k].toNat : Int)) = true := by simp; omega
      have hd1 : decide ((k : Int) < 9) = true := by simp; omega
      have hd0 : decide (k < l.length) = true := by simp; omega
      have HS := hid (cnt_step l k h9 hlt hge)
      go_wp2
      go_round
      case rel => exact ⟨k + 1, by omega, by omega, by go_num, hid (by rw [HK.out, HS.out]; omega)⟩
      case measure => simp [intOf]; omega
    · have hstop : cnt (9 - k) (l.drop k) = 0 := by
        apply cnt_stop
        by_cases h1 : k < l.length
        · by_cases h2 : k < 9
          · right; right
            refine ⟨h1, ?_⟩
            have : ¬ 128 ≤ (l[k]).toNat := fun h => hgo ⟨h1, h2, h⟩
            omega
          · right; left; omega
        · left; omega
      have hK : cnt 9 l = k := by rw [HK.out, hstop]; rfl
      have hval := (rget_eq l).symm
      unfold rget at hval
      rw [hK] at hval
      have HV := hid hval
      have HG := hid hgo
      clear hstop hK hval hgo
      by_cases hend : k = l.length
      · have hd0 : decide (k < l.length) = false := by simp; omega
        have he : ((k : Int) == l.length) = true := by simp; omega
        have HE := hid hend
        clear hend
        go_wp2
        go_ret3
        have := HV.out
        rw [if_pos HE.out] at this
        rw [this]; exact ⟨rfl, rfl⟩
      · have hlt : k < l.length := by omega
        have hd0 : decide (k < l.length) = true := by simp; omega
        have he : ((k : Int) == l.length) = false := by simp; omega
        obtain ⟨a, rfl⟩ := hnn (by omega)
        have hc := HC.out a rfl k hlt
        have hgd : l.getD k 0 = l[k] := by simp [hlt]
        have HGD := hid hgd
        have hu := (l[k]).toNat_lt
        clear hgd
        generalize hC : l[k] = c at hc hu
        have HCC := hid hC
        clear hC
        have HEND := hid hend
        clear hend
        have hstay : 9 ≤ k ∨ c.toNat < 128 := by
          rcases Nat.lt_or_ge k 9 with h9 | h9
          · right
            have : ¬ 128 ≤ (l[k]).toNat := fun h => HG.out ⟨hlt, h9, h⟩
            rw [HCC.out] at this; omega
          · left; exact h9
        have hval := HV.out
        rw [if_neg HEND.out, HGD.out, HCC.out] at hval
        by_cases herr : k = 9 ∧ 1 < c.toNat ∨ 0 < k ∧ c.toNat = 0
        · rw [if_pos herr] at hval
          have HVV := hid hval
          clear hval
          by_cases h9 : k = 9
          · have d1 : decide ((k : Int) < 9) = false := by simp; omega
            have t0 : ((k : Int) == 9) = true := by simp; omega
            have hc9 : w.cell? ⟨a.block, a.off + 9, none⟩ = some (Value.int IntKind.u8 c.toNat) := by
              have := hc; rw [h9] at this; exact this
            have hk0 : decide (0 < k) = true := by simp; omega
            have hi9 : (9 : Int) < l.length := by omega
            by_cases h1 : 1 < c.toNat
            · have t1 : decide ((1 : Int) < (c.toNat : Int)) = true := by simp; omega
              clear h9 herr hstay
              go_wp2
              go_ret3
              rw [HVV.out]; exact ⟨rfl, rfl⟩
            · have t1 : decide ((1 : Int) < (c.toNat : Int)) = false := by simp; omega
              have t2 : ((c.toNat : Int) == 0) = true := by simp; omega
              clear h9 herr hstay
              go_wp2
              go_ret3
              rw [HVV.out]; exact ⟨rfl, rfl⟩
          · have d1 : decide ((k : Int) < 9) = true := by simp; omega
            have d2 : decide ((128 : Int) ≤ (c.toNat : Int)) = false := by simp; omega
            have t0 : ((k : Int) == 9) = false := by simp; omega
            have t1 : decide (0 < k) = true := by simp; omega
            have t2 : ((c.toNat : Int) == 0) = true := by simp; omega
            clear h9 herr hstay
            go_wp2
            go_ret3
            rw [HVV.out]; exact ⟨rfl, rfl⟩
        · rw [if_neg herr] at hval
          have hlt64 := (vget_ok hval).1
          have HVV := hid hval
          clear hval
          have hbd : ∀ j, hor ((l.take (k + 1)).drop j) < 18446744073709551616 := fun j => Nat.lt_of_le_of_lt (hor_drop _ j) hlt64
          have HB := hid hbd
          clear hbd hlt64
          have hcase : (k = 9 ∧ c.toNat = 1) ∨ (k < 9 ∧ 0 < k ∧ 0 < c.toNat ∧ c.toNat < 128) ∨ (k = 0 ∧ c.toNat < 128) := by omega
          clear herr hstay
          rcases hcase with ⟨h9, h1⟩ | ⟨h9, h1, h2, h3⟩ | ⟨h9, h3⟩
          case' neg.inl =>
            have d1 : decide ((k : Int) < 9) = false := by simp; omega
            have t0 : ((k : Int) == 9) = true := by simp; omega
            have hc9 : w.cell? ⟨a.block, a.off + 9, none⟩ = some (Value.int IntKind.u8 c.toNat) := by
              have := hc; rw [h9] at this; exact this
            have hk0 : decide (0 < k) = true := by simp; omega
            have hi9 : (9 : Int) < l.length := by omega
            have t1 : decide ((1 : Int) < (c.toNat : Int)) = false := by simp; omega
            have t2 : ((c.toNat : Int) == 0) = false := by simp; omega
            clear h9 h1
            go_wp2
          case' neg.inr.inl =>
            have d1 : decide ((k : Int) < 9) = true := by simp; omega
            have d2 : decide ((128 : Int) ≤ (c.toNat : Int)) = false := by simp; omega
            have t0 : ((k : Int) == 9) = false := by simp; omega
            have t1 : decide (0 < k) = true := by simp; omega
            have t2 : ((c.toNat : Int) == 0) = false := by simp; omega
            clear h9 h1 h2 h3
            go_wp2
          case' neg.inr.inr =>
            have d1 : decide ((k : Int) < 9) = true := by simp; omega
            have d2 : decide ((128 : Int) ≤ (c.toNat : Int)) = false := by simp; omega
            have t0 : ((k : Int) == 9) = false := by simp; omega
            have t1 : decide (0 < k) = false := by simp; omega
            clear h9 h3
            go_wp2
          all_goals
            go_loop [6, 7] (fun n i => ∃ m : Nat, n = .int .u64 m ∧ ((∃ j : Nat, j ≤ k ∧ i = .int .i64 j ∧ Hid (m = hor ((l.take (k + 1)).drop (j + 1)))) ∨ (i = .int .i64 (-1) ∧ Hid (m = hor (l.take (k + 1)))))) (fun _ i => (intOf i + 1).toNat)
            case atStart => exact ⟨0, rfl, .inl ⟨k, by omega, rfl, hid (by rw [List.drop_eq_nil_of_le (by simp; omega)]; rfl)⟩⟩
            case round =>
              obtain ⟨m, rfl, ⟨j, hj, rfl, HM⟩ | ⟨rfl, HM⟩⟩ := hrel
              · have hc2 := HC.out a rfl j (by omega)
                have hjl : (j : Int) < l.length := by omega
                have hstep : hor ((l.take (k + 1)).drop j) = 128 * m + l[j].toNat % 128 := by
                  rw [List.drop_eq_getElem_cons (by simp; omega)]
                  simp only [hor, List.getElem_take]
                  rw [HM.out]; omega
                have hb1 := HB.out j
                rw [hstep] at hb1
                have HS := hid hstep
                clear hstep
                generalize hCC2 : l[j].toNat % 128 = q at *
                go_wp2
                refine ⟨⟨128 * m + q, by congr 1; omega, ?_⟩, ?_⟩
                · by_cases hj0 : j = 0
                  · subst hj0
                    exact .inr ⟨rfl, hid (by have := HS.out; rw [List.drop_zero] at this; exact this.symm)⟩
                  · exact .inl ⟨j - 1, by omega, by congr 1; omega, hid (by rw [show j - 1 + 1 = j by omega]; exact HS.out.symm)⟩
                · simp only [intOf]; omega
              · go_wp2
                go_ret3
                rw [HVV.out]
                exact ⟨by rw [HM.out]; rfl, rfl⟩
end Go.Proofs.YtijpokajhjhllaaGreatDoor
