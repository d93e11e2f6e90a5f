/- The laws' 'large'. -/
import Derived.Test.YtkaafllbmeppnaaDskDo
set_option linter.unusedSimpArgs false
set_option linter.unusedVariables false
namespace Go.Proofs.Ytkaafllbmeppnaa
open Go Go.RowKit Go.Tum Go.ChangeMaps

def Small (m : List AtV) : Prop := m.length ≤ 40 ∧ ∀ q ∈ m, q.1.b.length ≤ 1000 ∧ q.1.ts.length ≤ 1000
def LargeP (m : List AtV) (w : World) (e : Ending) (w' : World) : Prop := (∃ r, e = .returned (.bool r) ∧ (r = false → Small m)) ∧ Ext w w'
theorem LargeP.yes {m : List AtV} {w w' : World} (h : Ext w w') : LargeP m w (.returned (.bool true)) w' := ⟨⟨true, rfl, fun h => by cases h⟩, h⟩
abbrev actO (q : AtV) : Obj := .cells #[.int .i64 q.1.dn, .int .i64 q.1.n, vN q.1.name, vN q.1.to, q.2.1, q.2.2] 35 (0, 0)
set_option maxHeartbeats 1000000 in
theorem large_any (v : Value) (m : List AtV) (w : World) (h : Acts w v m) :
    Calls Try.prog 9 #[v] w fun e w' => LargeP m w e w' := by
  obtain ⟨hr, hok⟩ := h
  obtain ⟨ao, cap, rfl, hle, hm, hnn, hcell⟩ := hr.open
  have HC := hid hcell
  have HNN := hid hnn
  have HOK := hid hok
  clear hr hcell hnn hok
  by_cases h1 : 40 < m.length
  · have hd : decide ((40 : Int) < m.length) = true := by simp; omega
    clear h1
    go_enter Try.func9, Try.ntmps9
    go_wp2
    go_ret
    exact LargeP.yes (Ext.refl _)
  have hd : decide ((40 : Int) < m.length) = false := by simp; omega
  go_enter Try.func9, Try.ntmps9
  go_wp2
  clear hd
  go_loopw [10] (fun i wr => ∃ k : Nat, k ≤ m.length ∧ i = .int .i64 k ∧ Hid (∀ j (h : j < m.length), j < k → m[j].1.b.length ≤ 1000 ∧ m[j].1.ts.length ≤ 1000) ∧ Hid (Ext w wr)) (fun i _ => m.length - (intOf i).toNat)
  case atStart => exact ⟨0, by omega, rfl, hid (fun j h h2 => absurd h2 (by omega)), hid (Ext.refl _)⟩
  case round =>
    obtain ⟨k, hk, rfl, HS, HE⟩ := hrel
    by_cases hlt : k < m.length
    · obtain ⟨a0, rfl⟩ := HNN.out (by omega)
      have c0 := cell_first (HE.out.cell (HC.out a0 rfl k hlt 0 _ rfl))
      have c1 := cell_next (HE.out.cell (HC.out a0 rfl k hlt 1 _ rfl)) (by decide)
      have c2 := cell_next (HE.out.cell (HC.out a0 rfl k hlt 2 _ rfl)) (by decide)
      have c3 := cell_next (HE.out.cell (HC.out a0 rfl k hlt 3 _ rfl)) (by decide)
      have c4 := cell_next (HE.out.cell (HC.out a0 rfl k hlt 4 _ rfl)) (by decide)
      have c5 := cell_next (HE.out.cell (HC.out a0 rfl k hlt 5 _ rfl)) (by decide)
      have hok := HOK.out m[k] (List.getElem_mem hlt)
      obtain ⟨q, hq⟩ : ∃ q, m[k] = q := ⟨_, rfl⟩
      have HQ := hid hq
      rw [hq] at c0 c1 c2 c3 c4 c5 hok
      clear hq
      obtain ⟨⟨dn, n, name, to, b, ts⟩, u, v⟩ := q
      obtain ⟨ho1, ho2, -, h4, h5, -⟩ := hok
      dsimp only at c0 c1 c2 c3 c4 c5 ho1 ho2 h4 h5
      obtain ⟨uo, uc, rfl, -⟩ := h4.open
      obtain ⟨vo, vc, rfl, -⟩ := h5.open
      clear h4 h5
      have hi1 : decide ((k : Int) < m.length) = true := by simp; omega
      have HE2 := hid (HE.out.trans (Ext.alloc wr (actO (⟨dn, n, name, to, b, ts⟩, .slice uo b.length uc, .slice vo ts.length vc))))
      by_cases hb : 1000 < b.length
      · have hd : decide ((1000 : Int) < b.length) = true := by simp; omega
        go_wp2
        go_ret
        exact LargeP.yes HE2.out
      have hd : decide ((1000 : Int) < b.length) = false := by simp; omega
      by_cases hs : decide ((1000 : Int) < wrap64 (((str name).size : Int) + ((str to).size : Int))) = true
      · go_wp2
        go_ret
        exact LargeP.yes HE2.out
      simp only [Bool.not_eq_true] at hs
      by_cases ht : 1000 < ts.length
      · have hd2 : decide ((1000 : Int) < ts.length) = true := by simp; omega
        go_wp2
        go_ret
        exact LargeP.yes HE2.out
      have hd2 : decide ((1000 : Int) < ts.length) = false := by simp; omega
      have HT := hid ht
      have HBB := hid hb
      clear ht hb
      go_wp2
      go_roundw
      case rel =>
        refine ⟨k + 1, by omega, by go_num, hid fun j h hj => ?_, HE2⟩
        by_cases e : j = k
        · subst e
          rw [HQ.out]
          exact ⟨Nat.not_lt.1 HBB.out, Nat.not_lt.1 HT.out⟩
        · exact HS.out j h (by omega)
      case measure => simp [intOf]; omega
    · obtain rfl : k = m.length := by omega
      go_wp2
      go_ret
      refine ⟨⟨false, rfl, fun _ => ⟨by omega, fun q hq => ?_⟩⟩, HE.out⟩
      obtain ⟨i, hi, rfl⟩ := List.mem_iff_getElem.1 hq
      exact HS.out i hi hi
end Go.Proofs.Ytkaafllbmeppnaa
