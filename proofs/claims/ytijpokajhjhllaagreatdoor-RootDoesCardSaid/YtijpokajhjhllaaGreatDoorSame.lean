/- The document's answers of layer 1: Same. -/
import Derived.Test.YtijpokajhjhllaaGreatDoorRows
import Derived.Test.YtijpokajhjhllaaGreatDoorLib
import Derived.Deep.QuietTactic
import Derived.BigQuiet
namespace Go.Proofs.YtijpokajhjhllaaGreatDoor
open Go.RowKit Go.Tum

theorem rsame_any (u v : Value) (l m : List UInt8) (w : World) (hb : Byt w u l) (hc : Byt w v m) :
    Calls Tryz.prog 126 #[u, v] w fun e w' => e = .returned (.bool (l == m)) ∧ Ext w w' := by
  obtain ⟨ao, cap, rfl, hle, hm, hnn, hcell⟩ := hb.open
  obtain ⟨bo, cbp, rfl, hle2, hm2, hnn2, hcell2⟩ := hc.open
  clear hb hc
  have HC := hid hcell
  have HC2 := hid hcell2
  clear hcell hcell2
  by_cases hlen : l.length = m.length
  · have hne : ((l.length : Int) != (m.length : Int)) = false := by simp [hlen]
    go_enter Tryz.func126, Tryz.ntmps126
    have HL := hid hlen
    clear hlen
    go_wp2
    go_loopw [5] (fun i wr => ∃ k : Nat, k ≤ l.length ∧ i = .int .i64 k ∧ Hid (l.take k = m.take k) ∧ ∃ n, wr = w.drewN n) (fun i _ => l.length - (intOf i).toNat)
    case atStart => exact ⟨0, by omega, rfl, hid rfl, 0, rfl⟩
    case round =>
      obtain ⟨k, hk, rfl, HE, n, rfl⟩ := hrel
      by_cases hlt : k < l.length
      · obtain ⟨a, rfl⟩ := hnn (by omega)
        have hlt2 : k < m.length := by rw [← HL.out]; exact hlt
        obtain ⟨b, rfl⟩ := hnn2 (by omega)
        have hc1 := HC.out a rfl k hlt
        have hc2 := HC2.out b rfl k hlt2
        have hi1 : (k : Int) < l.length := by omega
        have hi2 : (k : Int) < m.length := by omega
        go_wp2
        by_cases he : l[k] = m[k]
        · have ht : ((l[k].toNat : Int) != (m[k].toNat : Int)) = false := by simp [he]
          go_quiet (fail)
          go_wp2
          go_roundw
          case rel => exact ⟨k + 1, by omega, by go_num, hid (by rw [List.take_succ_eq_append_getElem hlt, List.take_succ_eq_append_getElem hlt2, HE.out, he]), _, rfl⟩
          case measure => simp [intOf]; omega
        · have ht : ((l[k].toNat : Int) != (m[k].toNat : Int)) = true := by
            simp; intro e; exact he (UInt8.toNat_inj.1 (by omega))
          go_quiet (fail)
          go_wp2
          go_ret
          refine ⟨?_, (Ext.drewN _ _).trans (Ext.drewN _ _)⟩
          have : (l == m) = false := by
            rw [beq_eq_false_iff_ne]; intro e; subst e; exact he rfl
          rw [this]; rfl
      · obtain rfl : k = l.length := by omega
        go_wp2
        go_ret
        refine ⟨?_, Ext.drewN _ _⟩
        have : (l == m) = true := by
          have := HE.out
          rw [List.take_length, HL.out, List.take_length] at this
          rw [this]; simp
        rw [this]; rfl
  · have hne : ((l.length : Int) != (m.length : Int)) = true := by simp; omega
    have hf : (l == m) = false := by rw [beq_eq_false_iff_ne]; intro e; exact hlen (by rw [e])
    have HF := hid hf
    clear hf
    go_enter Tryz.func126, Tryz.ntmps126
    go_wp2
    go_ret
    exact ⟨by rw [HF.out]; rfl, Ext.refl _⟩
end Go.Proofs.YtijpokajhjhllaaGreatDoor
