/- Package vint: All. -/
import Derived.Test.YtijpokajhjhllaaGreatDoorVintA
import Derived.Deep.Cut
set_option maxRecDepth 100000
namespace Go.Proofs.YtijpokajhjhllaaGreatDoor
open Go.RowKit Go.Tum Go.Tum.Vint

theorem info64 : (Tryz.prog.info? 31).map (fun i => (i.zero, i.size, i.bytes)) = some (some (.int .u64 0), 1, 8) := by kernel_rfl

theorem vall_any (v : Value) (l : List UInt64) (w : World) (hb : Vec uv w v l) (hl : l.length ≤ 1048576) :
    Calls Tryz.prog 75 #[v] w fun e w' => ∃ r, e = .returned r ∧ Own w' w.heap.size 5 r (vall l) ∧ Ext w w' := by
  obtain ⟨ao, cap, rfl, hle, hm, hnn, hcell⟩ := hb.open
  have HC := hid hcell
  clear hb hcell
  go_enter Tryz.func75, Tryz.ntmps75
  go_wp2
  go_loopw [3, 8] (fun o i wr => ∃ k : Nat, k ≤ l.length ∧ i = .int .i64 k ∧ (∃ bo cbp, o = .slice bo (vall (l.take k)).length cbp ∧ Hid (Own wr w.heap.size 5 (.slice bo (vall (l.take k)).length cbp) (vall (l.take k)))) ∧ Hid (Ext w wr)) (fun _ i _ => l.length - (intOf i).toNat)
  case atStart => exact ⟨0, by omega, rfl, ⟨_, _, rfl, Own.nil _ _ _⟩, Ext.refl _⟩
  case round =>
    obtain ⟨k, hk, rfl, ⟨bo, cbp, rfl, HO⟩, HE⟩ := hrel
    by_cases hlt : k < l.length
    · obtain ⟨a, rfl⟩ := hnn (by omega)
      have hc := HE.out.cell (HC.out a rfl k hlt)
      have hu := (l[k]).toNat_lt
      have hs := hid (show vall (l.take (k + 1)) = vall (l.take k) ++ vput (l[k].toNat) by rw [List.take_succ_eq_append_getElem hlt, vall_snoc])
      have hL := vall_len (l.take k)
      have hL2 := vputF_len 9 (l[k].toNat)
      rw [List.length_take] at hL
      change 1 ≤ (vput (l[k].toNat)).length ∧ (vput (l[k].toNat)).length ≤ 9 + 1 at hL2
      have HL := hid hL
      have HL2 := hid hL2
      have hsz := HE.out.size
      clear hL hL2
      go_wp2_with (first
        | (go_at_call 93; refine (vput_any _ l[k].toNat rfl (by omega) _).mono ?_; rintro e w1 ⟨r, rfl, hr1, hw1⟩)
        | (at_builtin; refine wpList_append_byt rfl (.tmp 12) (.tmp 14) 37 rfl w.heap.size 5 Tryz.underlying37 info8 rfl (HO.out.ext hw1) rfl hr1 (vall (l.take (k + 1))).length (by rw [hs.out, List.length_append]) (by rw [hs.out, List.length_append]; have := HL.out; have := HL2.out; omega) (Nat.le_trans hsz hw1.size) ?_; intro ao2 cap2 w2 hown2 hg2 hb2))
      go_roundw
      case rel => exact ⟨k + 1, by omega, by go_num, ⟨_, _, rfl, by rw [← hs.out] at hown2; exact hown2⟩, Below.trans (HE.out.trans hw1) hb2⟩
      case measure => simp [intOf]; omega
    · obtain rfl : k = l.length := by omega
      go_wp2
      go_ret
      refine ⟨_, rfl, ?_, HE.out⟩
      have := HO.out
      rw [List.take_length] at this
      show Own wr w.heap.size 5 (.slice bo (vall (l.take l.length)).length cbp) (vall l)
      rw [List.take_length]
      exact this
end Go.Proofs.YtijpokajhjhllaaGreatDoor
