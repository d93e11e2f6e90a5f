/- The root: Right. -/
import Derived.Test.YtijpokajhjhllaaGreatDoorRotM
import Derived.Test.YtijpokajhjhllaaGreatDoorRecMA
set_option linter.unusedSimpArgs false
set_option linter.unusedVariables false
set_option maxRecDepth 100000
namespace Go.Proofs.YtijpokajhjhllaaGreatDoor
open Go Go.RowKit Go.Tum Go.Tum.Crc

abbrev cfV (l p d : Int) : Value := .agg #[.int .i64 l, .int .i64 p, .int .i64 d]
abbrev rtC (r : Rt) : Array Value := #[uv r.gen, .int .i64 r.lanes, .int .i64 r.pay, .int .i64 r.del, .int .i64 r.seg]
abbrev rtV (r : Rt) : Value := .agg (rtC r)
set_option maxHeartbeats 2000000 in
theorem cfg_any (l p d : Int) (w : World) : Calls Tryz.prog 71 #[cfV l p d] w fun e w' => e = .returned (.bool (cfgB l p d)) ∧ Ext w w' := by
  have hb := heap_alloc_new w (.cells #[.int .i64 l, .int .i64 p, .int .i64 d] 33 (0, 0))
  have hx := hid (Ext.alloc w (.cells #[.int .i64 l, .int .i64 p, .int .i64 d] 33 (0, 0)))
  obtain ⟨R, hR⟩ : ∃ R, cfgB l p d = R := ⟨_, rfl⟩
  have HR := hid hR
  rw [hR]
  unfold cfgB at hR
  obtain ⟨b1, h1⟩ : ∃ b, decide (1 ≤ l) = b := ⟨_, rfl⟩
  obtain ⟨b2, h2⟩ : ∃ b, decide (l ≤ 8) = b := ⟨_, rfl⟩
  obtain ⟨b3, h3⟩ : ∃ b, decide (0 ≤ p) = b := ⟨_, rfl⟩
  obtain ⟨b4, h4⟩ : ∃ b, decide (p ≤ 64) = b := ⟨_, rfl⟩
  obtain ⟨b5, h5⟩ : ∃ b, decide (1 ≤ d) = b := ⟨_, rfl⟩
  obtain ⟨b6, h6⟩ : ∃ b, decide (d ≤ 20) = b := ⟨_, rfl⟩
  rw [h1, h2, h3, h4, h5, h6] at hR
  subst hR
  clear HR
  cases b1
  case false =>
    go_enter Tryz.func71, Tryz.ntmps71
    go_wp2
    go_ret
    exact ⟨by simp, hx.out⟩
  cases b2
  case false =>
    go_enter Tryz.func71, Tryz.ntmps71
    go_wp2
    go_ret
    exact ⟨by simp, hx.out⟩
  cases b3
  case false =>
    go_enter Tryz.func71, Tryz.ntmps71
    go_wp2
    go_ret
    exact ⟨by simp, hx.out⟩
  cases b4
  case false =>
    go_enter Tryz.func71, Tryz.ntmps71
    go_wp2
    go_ret
    exact ⟨by simp, hx.out⟩
  cases b5
  case false =>
    go_enter Tryz.func71, Tryz.ntmps71
    go_wp2
    go_ret
    exact ⟨by simp, hx.out⟩
  cases b6
  case false =>
    go_enter Tryz.func71, Tryz.ntmps71
    go_wp2
    go_ret
    exact ⟨by simp, hx.out⟩
  go_enter Tryz.func71, Tryz.ntmps71
  go_wp2
  go_ret
  exact ⟨by simp, hx.out⟩
set_option maxHeartbeats 2000000 in
theorem rt_any (r : Rt) (w : World) : Calls Tryz.prog 25 #[rtV r] w fun e w' => e = .returned (.bool (rtB r)) ∧ Ext w w' := by
  obtain ⟨gen, l, p, d, s⟩ := r
  have hb := hid (heap_alloc_new w (.cells #[uv gen, .int .i64 l, .int .i64 p, .int .i64 d, .int .i64 s] 35 (0, 0)))
  have HX := hid (Ext.alloc w (.cells #[uv gen, .int .i64 l, .int .i64 p, .int .i64 d, .int .i64 s] 35 (0, 0)))
  obtain ⟨R, hR⟩ : ∃ R, rtB ⟨gen, l, p, d, s⟩ = R := ⟨_, rfl⟩
  rw [hR]
  unfold rtB at hR
  dsimp only at hR
  obtain ⟨b1, h1⟩ : ∃ b, decide (1 ≤ gen.toNat) = b := ⟨_, rfl⟩
  obtain ⟨b2, h2⟩ : ∃ b, decide (gen.toNat < 10000000000) = b := ⟨_, rfl⟩
  obtain ⟨b3, h3⟩ : ∃ b, cfgB l p d = b := ⟨_, rfl⟩
  obtain ⟨b4, h4⟩ : ∃ b, decide (64 ≤ s) = b := ⟨_, rfl⟩
  obtain ⟨b5, h5⟩ : ∃ b, decide (s ≤ 65536) = b := ⟨_, rfl⟩
  rw [h1, h2, h3, h4, h5] at hR
  subst hR
  have h1' : decide ((1 : Int) ≤ (gen.toNat : Int)) = b1 := by rw [← h1]; simp only [decide_eq_decide]; omega
  have h2' : decide ((gen.toNat : Int) < 10000000000) = b2 := by rw [← h2]; simp only [decide_eq_decide]; omega
  have HC := hid (fun w' => cfg_any l p d w')
  have H3 := hid h3
  clear h1 h2 h3
  cases b1
  case false =>
    go_enter Tryz.func25, Tryz.ntmps25
    go_wp2
    go_ret
    exact ⟨by simp, HX.out⟩
  cases b2
  case false =>
    go_enter Tryz.func25, Tryz.ntmps25
    go_wp2
    go_ret
    exact ⟨by simp, HX.out⟩
  cases b3
  case false =>
    go_enter Tryz.func25, Tryz.ntmps25
    go_wp2_with fail
    have hc := HC.out (w.alloc (.cells #[uv gen, .int .i64 l, .int .i64 p, .int .i64 d, .int .i64 s] 35 (0, 0)))
    rw [H3.out] at hc
    refine hc.mono ?_
    clear hc
    rintro e w2 ⟨rfl, hx⟩
    have HE2 := hid (HX.out.trans hx)
    have c4 : w2.cell? ⟨w.heap.size, 4, none⟩ = some (.int .i64 s) := by rw [cell_of_row _ _ _ _ _ _ (hx.obj hb.out)]; rfl
    clear hx
    go_wp2
    go_ret
    exact ⟨by simp, HE2.out⟩
  cases b4
  case false =>
    go_enter Tryz.func25, Tryz.ntmps25
    go_wp2_with fail
    have hc := HC.out (w.alloc (.cells #[uv gen, .int .i64 l, .int .i64 p, .int .i64 d, .int .i64 s] 35 (0, 0)))
    rw [H3.out] at hc
    refine hc.mono ?_
    clear hc
    rintro e w2 ⟨rfl, hx⟩
    have HE2 := hid (HX.out.trans hx)
    have c4 : w2.cell? ⟨w.heap.size, 4, none⟩ = some (.int .i64 s) := by rw [cell_of_row _ _ _ _ _ _ (hx.obj hb.out)]; rfl
    clear hx
    go_wp2
    go_ret
    exact ⟨by simp, HE2.out⟩
  cases b5
  case false =>
    go_enter Tryz.func25, Tryz.ntmps25
    go_wp2_with fail
    have hc := HC.out (w.alloc (.cells #[uv gen, .int .i64 l, .int .i64 p, .int .i64 d, .int .i64 s] 35 (0, 0)))
    rw [H3.out] at hc
    refine hc.mono ?_
    clear hc
    rintro e w2 ⟨rfl, hx⟩
    have HE2 := hid (HX.out.trans hx)
    have c4 : w2.cell? ⟨w.heap.size, 4, none⟩ = some (.int .i64 s) := by rw [cell_of_row _ _ _ _ _ _ (hx.obj hb.out)]; rfl
    clear hx
    go_wp2
    go_ret
    exact ⟨by simp, HE2.out⟩
  go_enter Tryz.func25, Tryz.ntmps25
  go_wp2_with fail
  have hc := HC.out (w.alloc (.cells #[uv gen, .int .i64 l, .int .i64 p, .int .i64 d, .int .i64 s] 35 (0, 0)))
  rw [H3.out] at hc
  refine hc.mono ?_
  clear hc
  rintro e w2 ⟨rfl, hx⟩
  have HE2 := hid (HX.out.trans hx)
  have c4 : w2.cell? ⟨w.heap.size, 4, none⟩ = some (.int .i64 s) := by rw [cell_of_row _ _ _ _ _ _ (hx.obj hb.out)]; rfl
  clear hx
  go_wp2
  go_ret
  exact ⟨by simp, HE2.out⟩
end Go.Proofs.YtijpokajhjhllaaGreatDoor

