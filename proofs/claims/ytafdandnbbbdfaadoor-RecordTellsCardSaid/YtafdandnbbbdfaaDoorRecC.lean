/- Records: the document's table and texts; rows of numbers; Same. -/
import Derived.Test.YtafdandnbbbdfaaDoorRecB
import Derived.Test.YtafdandnbbbdfaaDoorVintR1
namespace Go.Proofs.YtafdandnbbbdfaaDoor
open Go.RowKit Go.Tum Go.Tum.Crc Go.Tum.Vint

/-- The document's number of numbers; -1: no kind. -/
def rmany (k : Int) : Int := if knownB k then (many k : Int) else -1
def rmanyL : List Int := [-1, 0, 5, 2, 1, 2, 2, 1, 1, 1, 1, 1, 5, 7, 10, 2, 1, 1]
theorem rmany_at : ∀ i : Fin 18, rmanyL.getD i.val 0 = rmany (i.val : Int) := by decide
theorem rmany_bad {k : Int} (h : k < 0 ∨ 17 < k) : rmany k = -1 := by
  have : knownB k = false := by
    unfold knownB
    rcases h with h | h
    · rw [show decide (1 ≤ k) = false from by simp; omega]; rfl
    · rw [show decide (k ≤ 17) = false from by simp; omega, Bool.and_false]
  unfold rmany; rw [this]; rfl

theorem rmany_any (k : Int) (w : World) : Calls Tryd.prog 31 #[.int .i64 k] w fun e w' => e = .returned (.int .i64 (rmany k)) ∧ Ext w w' := by
  have hE := Ext.alloc w (.cells ((rmanyL.map fun i => Value.int .i64 i).toArray) 3)
  have HE := hid hE
  clear hE
  by_cases h1 : k < 0
  · have HR := hid (rmany_bad (.inl h1))
    go_enter Tryd.func31, Tryd.ntmps31
    go_wp2
    go_ret
    rw [HR.out]
    exact ⟨rfl, HE.out⟩
  · by_cases h2 : 17 < k
    · have HR := hid (rmany_bad (.inr h2))
      go_enter Tryd.func31, Tryd.ntmps31
      go_wp2
      go_ret
      rw [HR.out]
      exact ⟨rfl, HE.out⟩
    · obtain ⟨n, rfl⟩ : ∃ n : Nat, k = n := ⟨k.toNat, by omega⟩
      have hn : n < 18 := by omega
      have hn2 : (n : Int) < 18 := by omega
      have hv : (rmanyL.map fun i => Value.int .i64 i)[n]'(by simpa [rmanyL] using hn) = .int .i64 (rmany n) := by
        rw [List.getElem_map, ← rmany_at ⟨n, hn⟩, List.getD_eq_getElem?_getD, List.getElem?_eq_getElem (by simpa [rmanyL] using hn)]
        rfl
      have HV := hid hv
      clear hv
      go_enter Tryd.func31, Tryd.ntmps31
      go_wp2
      go_ret
      exact ⟨congrArg Ending.returned HV.out, HE.out⟩

theorem rtexts_any (k : Int) (n : Nat) (w : World) : Calls Tryd.prog 33 #[.int .i64 k, .int .i64 (n : Int)] w fun e w' => e = .returned (.bool (textB k n)) ∧ w = w' := by
  by_cases h1 : k = 10
  · subst h1
    have HK := hid (show textB 10 n = decide (n ≤ 64) by simp [textB])
    go_enter Tryd.func33, Tryd.ntmps33
    go_wp2
    go_ret
    exact ⟨by rw [HK.out]; simp; omega, rfl⟩
  · by_cases h2 : k = 11
    · subst h2
      have HK := hid (show textB 11 n = decide (n ≤ 64) by simp [textB])
      go_enter Tryd.func33, Tryd.ntmps33
      go_wp2
      go_ret
      exact ⟨by rw [HK.out]; simp; omega, rfl⟩
    · by_cases h3 : k = 16
      · subst h3
        have HK := hid (show textB 16 n = decide (n ≤ 64) by simp [textB])
        go_enter Tryd.func33, Tryd.ntmps33
        go_wp2
        go_ret
        exact ⟨by rw [HK.out]; simp; omega, rfl⟩
      · have HK := hid (show textB k n = decide (n = 0) by simp [textB, h1, h2, h3])
        have e1 : (k == 10) = false := by simpa using h1
        have e2 : (k == 11) = false := by simpa using h2
        have e3 : (k == 16) = false := by simpa using h3
        clear h1 h2 h3
        go_enter Tryd.func33, Tryd.ntmps33
        go_wp2
        go_ret
        have e4 : ((n : Int) == 0) = decide (n = 0) := by
          rw [Bool.eq_iff_iff]; simp
        exact ⟨by rw [HK.out, ← e4]; rfl, rfl⟩

set_option maxHeartbeats 2000000 in
theorem eq64_any (u v : Value) (l m : List UInt64) (w : World) (hb : Vec uv w u l) (hc : Vec uv w v m) :
    Calls Tryd.prog 35 #[u, v] w fun e w' => e = .returned (.bool (l == m)) ∧ Ext w w' := by
  obtain ⟨ao, cap, rfl, hle, hm, hnn, hcell⟩ := hb.open
  obtain ⟨bo, cbp, rfl, hle2, hm2, hnn2, hcell2⟩ := hc.open
  clear hb hc
  have HC := hid hcell
  have HC2 := hid hcell2
  clear hcell hcell2
  by_cases hlen : l.length = m.length
  · have hne : ((l.length : Int) != (m.length : Int)) = false := by simp [hlen]
    go_enter Tryd.func35, Tryd.ntmps35
    have HL := hid hlen
    clear hlen
    go_wp2
    go_loopw [5, 13] (fun _ i wr => ∃ k : Nat, k ≤ l.length ∧ i = .int .i64 k ∧ Hid (l.take k = m.take k) ∧ Hid (Ext w wr)) (fun _ i _ => l.length - (intOf i).toNat)
    case atStart => exact ⟨0, by omega, rfl, hid rfl, Ext.refl _⟩
    case round =>
      obtain ⟨k, hk, rfl, HE, HX⟩ := hrel
      by_cases hlt : k < l.length
      · obtain ⟨a, rfl⟩ := hnn (by omega)
        have hlt2 : k < m.length := by rw [← HL.out]; exact hlt
        obtain ⟨b, rfl⟩ := hnn2 (by omega)
        have hc1 := HX.out.cell (HC.out a rfl k hlt)
        have hc2 := HX.out.cell (HC2.out b rfl k hlt2)
        have hi1 : (k : Int) < l.length := by omega
        have hi2 : (k : Int) < m.length := by omega
        by_cases he : l[k] = m[k]
        · have ht : ((l[k].toNat : Int) != (m[k].toNat : Int)) = false := by simp [he]
          go_wp2
          go_quiet (fail)
          go_wp2
          go_roundw
          case rel => exact ⟨k + 1, by omega, by go_num, hid (by rw [List.take_succ_eq_append_getElem hlt, List.take_succ_eq_append_getElem hlt2, HE.out, he]), HX.out.trans (Ext.drewN _ _)⟩
          case measure => simp [intOf]; omega
        · have ht : ((l[k].toNat : Int) != (m[k].toNat : Int)) = true := by
            simp; intro e; exact he (UInt64.toNat_inj.1 (by omega))
          have hf : (l == m) = false := by
            rw [beq_eq_false_iff_ne]; intro e; subst e; exact he rfl
          have HF := hid hf
          clear hf he
          go_wp2
          go_quiet (fail)
          go_wp2
          go_ret
          refine ⟨?_, HX.out.trans (Ext.drewN _ _)⟩
          rw [HF.out]; rfl
      · obtain rfl : k = l.length := by omega
        go_wp2
        go_ret
        refine ⟨?_, HX.out⟩
        have : (l == m) = true := by
          have := HE.out
          rw [List.take_length, HL.out, List.take_length] at this
          rw [this]; simp
        rw [this]; rfl
  · have hne : ((l.length : Int) != (m.length : Int)) = true := by simp; omega
    have hf : (l == m) = false := by rw [beq_eq_false_iff_ne]; intro e; exact hlen (by rw [e])
    have HF := hid hf
    clear hf
    go_enter Tryd.func35, Tryd.ntmps35
    go_wp2
    go_ret
    exact ⟨by rw [HF.out]; rfl, Ext.refl _⟩
end Go.Proofs.YtafdandnbbbdfaaDoor
