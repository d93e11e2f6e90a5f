/- Package op: Record. -/
import Derived.Test.YtinancnlangkjaaGreatDoorOpMA
import Derived.Test.YtinancnlangkjaaGreatDoorRecGB
set_option linter.unusedSimpArgs false
set_option linter.unusedVariables false
set_option maxRecDepth 100000
namespace Go.Proofs.YtinancnlangkjaaGreatDoor
open Go Go.RowKit Go.Tum Go.Tum.Crc Go.Tum.Vint Go.Tum.Opm

/-- An act's record, or an error. -/
def recV (o : Oq) : Rc × Int := if opRight o then (opRec o, 0) else (r0, 1)
theorem orec_results (tmps : Array Value) (w : World) (B : Nat) (p q s : Value) (h2 : tmps.getD 2 undef = .pointer (some ⟨B, 0, none⟩)) (m0 : w.cell? ⟨B, 0, none⟩ = some p) (m1 : w.cell? ⟨B, 1, none⟩ = some q) (m2 : w.cell? ⟨B, 2, none⟩ = some s) :
    (results Tryz.f44 tmps).run Tryz.prog w = .ok (.tuple #[.agg #[p, q, s], tmps.getD 3 undef]) w := by
  have h2' : tmps[2]?.getD undef = .pointer (some ⟨B, 0, none⟩) := by simpa using h2
  simp [results, Tryz.results44, go_sem, h2', m0, m1, m2]
theorem uI_conv {x : Int} (h0 : 0 ≤ x) (h1 : x ≤ 1000) : IntKind.u64.wrap x = ((uI x).toNat : Int) := by
  rw [uI_nat h0 h1, IntKind.wrap_u64]; omega
theorem three {w : World} {b : Nat} {p q s : Value} {ty : TypeId} (h : w.heap[b]? = some (.cells #[p, q, s] ty (0, 0))) (x y z : Value) :
    (((w.setCell ⟨b, 0, none⟩ x).setCell ⟨b, 1, none⟩ y).setCell ⟨b, 2, none⟩ z).heap[b]? = some (.cells #[x, y, z] ty (0, 0)) := by
  simpa using Go.Joins.block_setCell (i := 2) (Go.Joins.block_setCell (i := 1) (Go.Joins.block_setCell (i := 0) h x) y) z
theorem ext3 {w W : World} (h : Ext w W) {b : Nat} (hb : w.heap.size ≤ b) (x y z : Value) : Ext w (((W.setCell ⟨b, 0, none⟩ x).setCell ⟨b, 1, none⟩ y).setCell ⟨b, 2, none⟩ z) :=
  ((Below.setCell h hb x).setCell hb y).setCell hb z
theorem owv3 {α : Type} {f : α → Value} {w : World} {b e B : Nat} {v : Value} {l : List α} (h : OwV f w b e v l) (hb : B < b) (x y z : Value) : OwV f (((w.setCell ⟨B, 0, none⟩ x).setCell ⟨B, 1, none⟩ y).setCell ⟨B, 2, none⟩ z) b e v l :=
  owv_setLow (owv_setLow (owv_setLow h _ _ hb) _ _ hb) _ _ hb
set_option maxHeartbeats 2000000 in
theorem orec_any (o : Oq) (w : World) : Calls Tryz.prog 44 #[ov o] w fun e w' => ∃ v, e = .returned (.tuple #[rv (recV o).1 v, .int .i64 (recV o).2]) ∧ OwV uv w' w.heap.size 32 v (recV o).1.n ∧ Ext w w' := by
  obtain ⟨R, hR⟩ : ∃ R, opRight o = R := ⟨_, rfl⟩
  have HR := hid hR
  clear hR
  obtain ⟨k, lane, id, n, name, seg, at', size⟩ := o
  have hB0 := heap_alloc2_old w (.cells #[.int .i64 k, .int .i64 lane, uv id, uv n, .string (str name), uv seg, uv at', .int .i64 size] 68) (.cells #[.int .i64 0, .slice none 0 0, .string ⟨#[]⟩] 86)
  have hB1 := heap_alloc2_new w (.cells #[.int .i64 k, .int .i64 lane, uv id, uv n, .string (str name), uv seg, uv at', .int .i64 size] 68) (.cells #[.int .i64 0, .slice none 0 0, .string ⟨#[]⟩] 86)
  have hE0 : Ext w ((w.alloc (.cells #[.int .i64 k, .int .i64 lane, uv id, uv n, .string (str name), uv seg, uv at', .int .i64 size] 68)).alloc (.cells #[.int .i64 0, .slice none 0 0, .string ⟨#[]⟩] 86)) := (Ext.alloc _ _).trans (Ext.alloc _ _)
  go_enter Tryz.func44, Tryz.ntmps44
  go_wp2_with fail
  generalize (w.alloc (.cells #[.int .i64 k, .int .i64 lane, uv id, uv n, .string (str name), uv seg, uv at', .int .i64 size] 68)).alloc (.cells #[.int .i64 0, .slice none 0 0, .string ⟨#[]⟩] 86) = W0 at *
  refine (oright_any ⟨k, lane, id, n, name, seg, at', size⟩ W0).mono ?_
  rintro e w1 ⟨rfl, hx⟩
  rw [HR.out]
  have hb0 := hx.obj hB0
  have hb1 := hx.obj hB1
  have HE := hid (hE0.trans hx)
  have hlt : w.heap.size + 1 < w1.heap.size := (Array.getElem?_eq_some_iff.1 hb1).1
  clear hB0 hB1 hE0 hx
  obtain ⟨N, hN⟩ : ∃ N, w.heap.size = N := ⟨_, rfl⟩
  have HNN := hid hN
  rw [hN] at hb0 hb1 hlt ⊢
  clear hN
  obtain ⟨M, hM⟩ : ∃ M, N + 1 = M := ⟨_, rfl⟩
  have HM : Hid (N ≤ M) := hid (by omega)
  rw [hM] at hb1 hlt ⊢
  have HB1 := hid hb1
  have HLT := hid hlt
  clear hM hlt
  cases R with
  | false =>
    have hV : recV ⟨k, lane, id, n, name, seg, at', size⟩ = (r0, 1) := by unfold recV; rw [HR.out]; rfl
    have HV := hid hV
    obtain ⟨m0, m1, m2, mf⟩ := blk3f hb1
    clear hV hb1
    go_wp2
    obtain ⟨q0, q1, q2, -⟩ := blk3f (three HB1.out (.int .i64 0) (.slice none 0 0) (.string ⟨#[]⟩))
    refine bodyPost_ret (orec_results _ _ _ _ _ _ rfl q0 q1 q2) rfl ?_
    rw [HV.out]
    exact ⟨.slice none 0 0, rfl, World.ownsRow_nil _ _ _ _, by rw [← HNN.out] at *; exact ext3 HE.out HM.out _ _ _⟩
  | true =>
    have hV : recV ⟨k, lane, id, n, name, seg, at', size⟩ = (opRec ⟨k, lane, id, n, name, seg, at', size⟩, 0) := by unfold recV; rw [HR.out]; rfl
    have HV := hid hV
    clear hV
    have hk := opRight_kind HR.out
    dsimp only at hk
    obtain ⟨⟨c0, c1, c2, c3, c4, c5, c6, c7⟩, cf⟩ := blk8 hb0
    have k1 := fun o => (Ext.alloc w1 o).cell c1
    have k2 := fun o => (Ext.alloc w1 o).cell c2
    have k3 := fun o => (Ext.alloc w1 o).cell c3
    have k0 := fun o => (Ext.alloc w1 o).cell c0
    have k5 := fun o => (Ext.alloc w1 o).cell c5
    have k6 := fun o => (Ext.alloc w1 o).cell c6
    have k7 := fun o => (Ext.alloc w1 o).cell c7
    clear hb0 hb1
    rcases kinds hk with rfl | rfl | rfl | rfl | rfl | rfl | rfl | rfl | rfl | rfl
    · clear hk
      clear HR
      have HN : Hid ((opRec ⟨1, lane, id, n, name, seg, at', size⟩).n = []) := hid (by simp [opRec, opNums, hasId])
      have hr2 := heap_alloc_new w1 (.cells #[.int .i64 1, .slice none 0 0, .string (str name)] 86 (0, 0))
      have hx2 := Ext.alloc w1 (.cells #[.int .i64 1, .slice none 0 0, .string (str name)] 86 (0, 0))
      have hz2 : w1.heap.size < (w1.alloc (.cells #[.int .i64 1, .slice none 0 0, .string (str name)] 86 (0, 0))).heap.size := by simp
      obtain ⟨W2, hW2⟩ : ∃ W, w1.alloc (.cells #[.int .i64 1, .slice none 0 0, .string (str name)] 86 (0, 0)) = W := ⟨_, rfl⟩
      rw [hW2] at hr2 hx2 hz2
      have l0 := hx2.cell c0
      have HR2 := hid hr2
      have HX2 := hid hx2
      obtain ⟨s0, s1, s2, sf⟩ := blk3f hr2
      obtain ⟨m0, m1, m2, mf⟩ := blk3f (hx2.obj HB1.out)
      clear hr2 hx2
      go_wp2
      try rw [hW2]
      obtain ⟨q0, q1, q2, -⟩ := blk3f (three (HX2.out.obj HB1.out) (.int .i64 1) (.slice none 0 0) (.string (str name)))
      refine bodyPost_ret (orec_results _ _ _ _ _ _ rfl q0 q1 q2) rfl ?_
      rw [HV.out]
      exact ⟨.slice none 0 0, rfl, by rw [HN.out]; exact World.ownsRow_nil _ _ _ _, by rw [← HNN.out] at *; exact ext3 (HE.out.trans HX2.out) HM.out _ _ _⟩
    · clear hk
      have hrg : 0 ≤ size ∧ size ≤ 64 ∧ 0 ≤ lane ∧ lane ≤ 7 := by
        have h := HR.out
        simp [opRight, hasId, hasN] at h
        exact h.2.2
      have w0 := uI_conv hrg.2.2.1 (by omega : lane ≤ 1000)
      have w5 := uI_conv hrg.1 (by omega : size ≤ 1000)
      clear hrg HR
      obtain ⟨u0, hu0⟩ : ∃ u, uI lane = u := ⟨_, rfl⟩
      rw [hu0] at w0
      obtain ⟨u5, hu5⟩ : ∃ u, uI size = u := ⟨_, rfl⟩
      rw [hu5] at w5
      have HN : Hid ((opRec ⟨2, lane, id, n, name, seg, at', size⟩).n = [u0, n, seg, at', u5]) := hid (by simp [opRec, opNums, hasId, hu0, hu5])
      clear hu0 hu5
      have hr2 := heap_alloc_new w1 (.cells #[.int .i64 2, .slice none 0 0, .string (str name)] 86 (0, 0))
      have hx2 := Ext.alloc w1 (.cells #[.int .i64 2, .slice none 0 0, .string (str name)] 86 (0, 0))
      have hz2 : w1.heap.size < (w1.alloc (.cells #[.int .i64 2, .slice none 0 0, .string (str name)] 86 (0, 0))).heap.size := by simp
      obtain ⟨W2, hW2⟩ : ∃ W, w1.alloc (.cells #[.int .i64 2, .slice none 0 0, .string (str name)] 86 (0, 0)) = W := ⟨_, rfl⟩
      rw [hW2] at hr2 hx2 hz2
      have HX2 := hid hx2
      have j1 := fun o => (Ext.alloc W2 o).cell (hx2.cell c1)
      have j3 := fun o => (Ext.alloc W2 o).cell (hx2.cell c3)
      have l0 := hx2.cell c0
      have l5 := hx2.cell c5
      have l6 := hx2.cell c6
      have l7 := hx2.cell c7
      have hw2 := heap_alloc_new W2 (.cells #[uv seg, uv at', .int .i64 size] 66 (0, 0))
      have hx2b := Ext.alloc W2 (.cells #[uv seg, uv at', .int .i64 size] 66 (0, 0))
      obtain ⟨W3, hW3⟩ : ∃ W, W2.alloc (.cells #[uv seg, uv at', .int .i64 size] 66 (0, 0)) = W := ⟨_, rfl⟩
      rw [hW3] at hw2 hx2b
      have l1 := hx2b.cell (hx2.cell c1)
      have l3 := hx2b.cell (hx2.cell c3)
      obtain ⟨v0, v1, v2, -⟩ := blk3f hw2
      have hr3 := hx2b.obj hr2
      have hz3 := Nat.lt_of_lt_of_le hz2 hx2b.size
      have HX3 := hid (hx2.trans hx2b)
      have hov := owv_lit (f := uv) W3 W3.heap.size 32 [u0, n, seg, at', u5] #[uv u0, uv n, uv seg, uv at', uv u5] rfl 5 rfl (Nat.le_refl _) (by simp [maxLen])
      have hx4 := Ext.alloc W3 (.cells #[uv u0, uv n, uv seg, uv at', uv u5] 32 (0, 0))
      obtain ⟨W4, hW4⟩ : ∃ W, W3.alloc (.cells #[uv u0, uv n, uv seg, uv at', uv u5] 32 (0, 0)) = W := ⟨_, rfl⟩
      rw [hW4] at hov hx4
      have HO := hid hov
      have HX4 := hid (HX3.out.trans hx4)
      have hr4 := hx4.obj hr3
      have HR4 := hid hr4
      have hr5 : (W4.setCell ⟨w1.heap.size, 1, none⟩ (.slice (some ⟨W3.heap.size, 0, none⟩) 5 5)).heap[w1.heap.size]? = some (.cells #[.int .i64 2, .slice (some ⟨W3.heap.size, 0, none⟩) 5 5, .string (str name)] 86 (0, 0)) := by
        simpa using Go.Joins.block_setCell (i := 1) hr4 (.slice (some ⟨W3.heap.size, 0, none⟩) 5 5)
      have hs5 : (W4.setCell ⟨w1.heap.size, 1, none⟩ (.slice (some ⟨W3.heap.size, 0, none⟩) 5 5)).heap[M]? = some (.cells #[.int .i64 0, .slice none 0 0, .string ⟨#[]⟩] 86 (0, 0)) := by
        rw [heap_setCell_other _ _ _ _ (by have := HLT.out; dsimp only; omega)]; exact HX4.out.obj HB1.out
      have HS5 := hid hs5
      obtain ⟨r0', r1', r2', rf'⟩ := blk3f hr4
      obtain ⟨s0, s1, s2, sf⟩ := blk3f hr5
      obtain ⟨m0, m1, m2, mf⟩ := blk3f hs5
      have HZ := hid hz3
      clear hov hx4 hr4 hr5 hs5 hr2 hx2 hz2 hw2 hx2b hr3 hz3
      go_wp2
      try rw [hW4]
      obtain ⟨q0, q1, q2, -⟩ := blk3f (three HS5.out (.int .i64 2) (.slice (some ⟨W3.heap.size, 0, none⟩) 5 5) (.string (str name)))
      refine bodyPost_ret (orec_results _ _ _ _ _ _ rfl q0 q1 q2) rfl ?_
      rw [HV.out]
      have hlt := HLT.out
      refine ⟨.slice (some ⟨W3.heap.size, 0, none⟩) 5 5, rfl, by rw [HN.out]; exact OwV.mono (owv3 (owv_setLow HO.out _ _ HZ.out) (Nat.lt_trans hlt HZ.out) _ _ _) (by have h1 := HM.out; have h2 := HNN.out; have h3 := HZ.out; omega), ?_⟩
      have hm := HM.out
      have he := HE.out.trans HX4.out
      rw [← HNN.out] at hm
      exact ext3 (Below.setCell he (Nat.le_of_lt (Nat.lt_of_le_of_lt hm hlt)) _) hm _ _ _
    · clear hk
      have hrg : -1 ≤ lane ∧ lane ≤ 7 := by
        have h := HR.out
        simp [opRight, hasId, hasN] at h
        exact h.2.2.2
      have w0 := uI_conv (by omega : 0 ≤ lane + 1) (by omega : lane + 1 ≤ 1000)
      have w6 : IntKind.i64.wrap (lane + 1) = lane + 1 := Go.Tum.Opm.wrap_small (by omega) (by omega)
      clear hrg HR
      obtain ⟨u0, hu0⟩ : ∃ u, uI (lane + 1) = u := ⟨_, rfl⟩
      rw [hu0] at w0
      obtain ⟨q, hq⟩ : ∃ q, lane + 1 = q := ⟨_, rfl⟩
      have w5 := w6.trans hq
      clear w6
      rw [hq] at w0
      have HN : Hid ((opRec ⟨3, lane, id, n, name, seg, at', size⟩).n = [u0, n]) := hid (by simp [opRec, opNums, hasId, hu0])
      clear hu0 hq
      have hr2 := heap_alloc_new w1 (.cells #[.int .i64 3, .slice none 0 0, .string (str name)] 86 (0, 0))
      have hx2 := Ext.alloc w1 (.cells #[.int .i64 3, .slice none 0 0, .string (str name)] 86 (0, 0))
      have hz2 : w1.heap.size < (w1.alloc (.cells #[.int .i64 3, .slice none 0 0, .string (str name)] 86 (0, 0))).heap.size := by simp
      obtain ⟨W2, hW2⟩ : ∃ W, w1.alloc (.cells #[.int .i64 3, .slice none 0 0, .string (str name)] 86 (0, 0)) = W := ⟨_, rfl⟩
      rw [hW2] at hr2 hx2 hz2
      have HX2 := hid hx2
      have l0 := hx2.cell c0
      have l1 := hx2.cell c1
      have l2 := hx2.cell c2
      have l3 := hx2.cell c3
      have hov := owv_lit (f := uv) W2 W2.heap.size 32 [u0, n] #[uv u0, uv n] rfl 2 rfl (Nat.le_refl _) (by simp [maxLen])
      have hx4 := Ext.alloc W2 (.cells #[uv u0, uv n] 32 (0, 0))
      obtain ⟨W4, hW4⟩ : ∃ W, W2.alloc (.cells #[uv u0, uv n] 32 (0, 0)) = W := ⟨_, rfl⟩
      rw [hW4] at hov hx4
      have HO := hid hov
      have HX4 := hid (HX2.out.trans hx4)
      have hr4 := hx4.obj hr2
      have HR4 := hid hr4
      have hr5 : (W4.setCell ⟨w1.heap.size, 1, none⟩ (.slice (some ⟨W2.heap.size, 0, none⟩) 2 2)).heap[w1.heap.size]? = some (.cells #[.int .i64 3, .slice (some ⟨W2.heap.size, 0, none⟩) 2 2, .string (str name)] 86 (0, 0)) := by
        simpa using Go.Joins.block_setCell (i := 1) hr4 (.slice (some ⟨W2.heap.size, 0, none⟩) 2 2)
      have hs5 : (W4.setCell ⟨w1.heap.size, 1, none⟩ (.slice (some ⟨W2.heap.size, 0, none⟩) 2 2)).heap[M]? = some (.cells #[.int .i64 0, .slice none 0 0, .string ⟨#[]⟩] 86 (0, 0)) := by
        rw [heap_setCell_other _ _ _ _ (by have := HLT.out; dsimp only; omega)]; exact HX4.out.obj HB1.out
      have HS5 := hid hs5
      obtain ⟨r0', r1', r2', rf'⟩ := blk3f hr4
      obtain ⟨s0, s1, s2, sf⟩ := blk3f hr5
      obtain ⟨m0, m1, m2, mf⟩ := blk3f hs5
      have HZ := hid hz2
      clear hov hx4 hr4 hr5 hs5 hr2 hx2 hz2
      go_wp2
      try rw [hW4]
      obtain ⟨q0, q1, q2, -⟩ := blk3f (three HS5.out (.int .i64 3) (.slice (some ⟨W2.heap.size, 0, none⟩) 2 2) (.string (str name)))
      refine bodyPost_ret (orec_results _ _ _ _ _ _ rfl q0 q1 q2) rfl ?_
      rw [HV.out]
      have hlt := HLT.out
      refine ⟨.slice (some ⟨W2.heap.size, 0, none⟩) 2 2, rfl, by rw [HN.out]; exact OwV.mono (owv3 (owv_setLow HO.out _ _ HZ.out) (Nat.lt_trans hlt HZ.out) _ _ _) (by have h1 := HM.out; have h2 := HNN.out; have h3 := HZ.out; omega), ?_⟩
      have hm := HM.out
      have he := HE.out.trans HX4.out
      rw [← HNN.out] at hm
      exact ext3 (Below.setCell he (Nat.le_of_lt (Nat.lt_of_le_of_lt hm hlt)) _) hm _ _ _
    · clear hk
      clear HR
      have HN : Hid ((opRec ⟨4, lane, id, n, name, seg, at', size⟩).n = [id]) := hid (by simp [opRec, opNums, hasId])
      have hr2 := heap_alloc_new w1 (.cells #[.int .i64 4, .slice none 0 0, .string (str name)] 86 (0, 0))
      have hx2 := Ext.alloc w1 (.cells #[.int .i64 4, .slice none 0 0, .string (str name)] 86 (0, 0))
      have hz2 : w1.heap.size < (w1.alloc (.cells #[.int .i64 4, .slice none 0 0, .string (str name)] 86 (0, 0))).heap.size := by simp
      obtain ⟨W2, hW2⟩ : ∃ W, w1.alloc (.cells #[.int .i64 4, .slice none 0 0, .string (str name)] 86 (0, 0)) = W := ⟨_, rfl⟩
      rw [hW2] at hr2 hx2 hz2
      have HX2 := hid hx2
      have l0 := hx2.cell c0
      have l1 := hx2.cell c1
      have l2 := hx2.cell c2
      have l3 := hx2.cell c3
      have hov := owv_lit (f := uv) W2 W2.heap.size 32 [id] #[uv id] rfl 1 rfl (Nat.le_refl _) (by simp [maxLen])
      have hx4 := Ext.alloc W2 (.cells #[uv id] 32 (0, 0))
      obtain ⟨W4, hW4⟩ : ∃ W, W2.alloc (.cells #[uv id] 32 (0, 0)) = W := ⟨_, rfl⟩
      rw [hW4] at hov hx4
      have HO := hid hov
      have HX4 := hid (HX2.out.trans hx4)
      have hr4 := hx4.obj hr2
      have HR4 := hid hr4
      have hr5 : (W4.setCell ⟨w1.heap.size, 1, none⟩ (.slice (some ⟨W2.heap.size, 0, none⟩) 1 1)).heap[w1.heap.size]? = some (.cells #[.int .i64 4, .slice (some ⟨W2.heap.size, 0, none⟩) 1 1, .string (str name)] 86 (0, 0)) := by
        simpa using Go.Joins.block_setCell (i := 1) hr4 (.slice (some ⟨W2.heap.size, 0, none⟩) 1 1)
      have hs5 : (W4.setCell ⟨w1.heap.size, 1, none⟩ (.slice (some ⟨W2.heap.size, 0, none⟩) 1 1)).heap[M]? = some (.cells #[.int .i64 0, .slice none 0 0, .string ⟨#[]⟩] 86 (0, 0)) := by
        rw [heap_setCell_other _ _ _ _ (by have := HLT.out; dsimp only; omega)]; exact HX4.out.obj HB1.out
      have HS5 := hid hs5
      obtain ⟨r0', r1', r2', rf'⟩ := blk3f hr4
      obtain ⟨s0, s1, s2, sf⟩ := blk3f hr5
      obtain ⟨m0, m1, m2, mf⟩ := blk3f hs5
      have HZ := hid hz2
      clear hov hx4 hr4 hr5 hs5 hr2 hx2 hz2
      go_wp2
      try rw [hW4]
      obtain ⟨q0, q1, q2, -⟩ := blk3f (three HS5.out (.int .i64 4) (.slice (some ⟨W2.heap.size, 0, none⟩) 1 1) (.string (str name)))
      refine bodyPost_ret (orec_results _ _ _ _ _ _ rfl q0 q1 q2) rfl ?_
      rw [HV.out]
      have hlt := HLT.out
      refine ⟨.slice (some ⟨W2.heap.size, 0, none⟩) 1 1, rfl, by rw [HN.out]; exact OwV.mono (owv3 (owv_setLow HO.out _ _ HZ.out) (Nat.lt_trans hlt HZ.out) _ _ _) (by have h1 := HM.out; have h2 := HNN.out; have h3 := HZ.out; omega), ?_⟩
      have hm := HM.out
      have he := HE.out.trans HX4.out
      rw [← HNN.out] at hm
      exact ext3 (Below.setCell he (Nat.le_of_lt (Nat.lt_of_le_of_lt hm hlt)) _) hm _ _ _
    · clear hk
      clear HR
      have HN : Hid ((opRec ⟨5, lane, id, n, name, seg, at', size⟩).n = [id, n]) := hid (by simp [opRec, opNums, hasId])
      have hr2 := heap_alloc_new w1 (.cells #[.int .i64 5, .slice none 0 0, .string (str name)] 86 (0, 0))
      have hx2 := Ext.alloc w1 (.cells #[.int .i64 5, .slice none 0 0, .string (str name)] 86 (0, 0))
      have hz2 : w1.heap.size < (w1.alloc (.cells #[.int .i64 5, .slice none 0 0, .string (str name)] 86 (0, 0))).heap.size := by simp
      obtain ⟨W2, hW2⟩ : ∃ W, w1.alloc (.cells #[.int .i64 5, .slice none 0 0, .string (str name)] 86 (0, 0)) = W := ⟨_, rfl⟩
      rw [hW2] at hr2 hx2 hz2
      have HX2 := hid hx2
      have l0 := hx2.cell c0
      have l1 := hx2.cell c1
      have l2 := hx2.cell c2
      have l3 := hx2.cell c3
      have hov := owv_lit (f := uv) W2 W2.heap.size 32 [id, n] #[uv id, uv n] rfl 2 rfl (Nat.le_refl _) (by simp [maxLen])
      have hx4 := Ext.alloc W2 (.cells #[uv id, uv n] 32 (0, 0))
      obtain ⟨W4, hW4⟩ : ∃ W, W2.alloc (.cells #[uv id, uv n] 32 (0, 0)) = W := ⟨_, rfl⟩
      rw [hW4] at hov hx4
      have HO := hid hov
      have HX4 := hid (HX2.out.trans hx4)
      have hr4 := hx4.obj hr2
      have HR4 := hid hr4
      have hr5 : (W4.setCell ⟨w1.heap.size, 1, none⟩ (.slice (some ⟨W2.heap.size, 0, none⟩) 2 2)).heap[w1.heap.size]? = some (.cells #[.int .i64 5, .slice (some ⟨W2.heap.size, 0, none⟩) 2 2, .string (str name)] 86 (0, 0)) := by
        simpa using Go.Joins.block_setCell (i := 1) hr4 (.slice (some ⟨W2.heap.size, 0, none⟩) 2 2)
      have hs5 : (W4.setCell ⟨w1.heap.size, 1, none⟩ (.slice (some ⟨W2.heap.size, 0, none⟩) 2 2)).heap[M]? = some (.cells #[.int .i64 0, .slice none 0 0, .string ⟨#[]⟩] 86 (0, 0)) := by
        rw [heap_setCell_other _ _ _ _ (by have := HLT.out; dsimp only; omega)]; exact HX4.out.obj HB1.out
      have HS5 := hid hs5
      obtain ⟨r0', r1', r2', rf'⟩ := blk3f hr4
      obtain ⟨s0, s1, s2, sf⟩ := blk3f hr5
      obtain ⟨m0, m1, m2, mf⟩ := blk3f hs5
      have HZ := hid hz2
      clear hov hx4 hr4 hr5 hs5 hr2 hx2 hz2
      go_wp2
      try rw [hW4]
      obtain ⟨q0, q1, q2, -⟩ := blk3f (three HS5.out (.int .i64 5) (.slice (some ⟨W2.heap.size, 0, none⟩) 2 2) (.string (str name)))
      refine bodyPost_ret (orec_results _ _ _ _ _ _ rfl q0 q1 q2) rfl ?_
      rw [HV.out]
      have hlt := HLT.out
      refine ⟨.slice (some ⟨W2.heap.size, 0, none⟩) 2 2, rfl, by rw [HN.out]; exact OwV.mono (owv3 (owv_setLow HO.out _ _ HZ.out) (Nat.lt_trans hlt HZ.out) _ _ _) (by have h1 := HM.out; have h2 := HNN.out; have h3 := HZ.out; omega), ?_⟩
      have hm := HM.out
      have he := HE.out.trans HX4.out
      rw [← HNN.out] at hm
      exact ext3 (Below.setCell he (Nat.le_of_lt (Nat.lt_of_le_of_lt hm hlt)) _) hm _ _ _
    · clear hk
      clear HR
      have HN : Hid ((opRec ⟨6, lane, id, n, name, seg, at', size⟩).n = [id, n]) := hid (by simp [opRec, opNums, hasId])
      have hr2 := heap_alloc_new w1 (.cells #[.int .i64 6, .slice none 0 0, .string (str name)] 86 (0, 0))
      have hx2 := Ext.alloc w1 (.cells #[.int .i64 6, .slice none 0 0, .string (str name)] 86 (0, 0))
      have hz2 : w1.heap.size < (w1.alloc (.cells #[.int .i64 6, .slice none 0 0, .string (str name)] 86 (0, 0))).heap.size := by simp
      obtain ⟨W2, hW2⟩ : ∃ W, w1.alloc (.cells #[.int .i64 6, .slice none 0 0, .string (str name)] 86 (0, 0)) = W := ⟨_, rfl⟩
      rw [hW2] at hr2 hx2 hz2
      have HX2 := hid hx2
      have l0 := hx2.cell c0
      have l1 := hx2.cell c1
      have l2 := hx2.cell c2
      have l3 := hx2.cell c3
      have hov := owv_lit (f := uv) W2 W2.heap.size 32 [id, n] #[uv id, uv n] rfl 2 rfl (Nat.le_refl _) (by simp [maxLen])
      have hx4 := Ext.alloc W2 (.cells #[uv id, uv n] 32 (0, 0))
      obtain ⟨W4, hW4⟩ : ∃ W, W2.alloc (.cells #[uv id, uv n] 32 (0, 0)) = W := ⟨_, rfl⟩
      rw [hW4] at hov hx4
      have HO := hid hov
      have HX4 := hid (HX2.out.trans hx4)
      have hr4 := hx4.obj hr2
      have HR4 := hid hr4
      have hr5 : (W4.setCell ⟨w1.heap.size, 1, none⟩ (.slice (some ⟨W2.heap.size, 0, none⟩) 2 2)).heap[w1.heap.size]? = some (.cells #[.int .i64 6, .slice (some ⟨W2.heap.size, 0, none⟩) 2 2, .string (str name)] 86 (0, 0)) := by
        simpa using Go.Joins.block_setCell (i := 1) hr4 (.slice (some ⟨W2.heap.size, 0, none⟩) 2 2)
      have hs5 : (W4.setCell ⟨w1.heap.size, 1, none⟩ (.slice (some ⟨W2.heap.size, 0, none⟩) 2 2)).heap[M]? = some (.cells #[.int .i64 0, .slice none 0 0, .string ⟨#[]⟩] 86 (0, 0)) := by
        rw [heap_setCell_other _ _ _ _ (by have := HLT.out; dsimp only; omega)]; exact HX4.out.obj HB1.out
      have HS5 := hid hs5
      obtain ⟨r0', r1', r2', rf'⟩ := blk3f hr4
      obtain ⟨s0, s1, s2, sf⟩ := blk3f hr5
      obtain ⟨m0, m1, m2, mf⟩ := blk3f hs5
      have HZ := hid hz2
      clear hov hx4 hr4 hr5 hs5 hr2 hx2 hz2
      go_wp2
      try rw [hW4]
      obtain ⟨q0, q1, q2, -⟩ := blk3f (three HS5.out (.int .i64 6) (.slice (some ⟨W2.heap.size, 0, none⟩) 2 2) (.string (str name)))
      refine bodyPost_ret (orec_results _ _ _ _ _ _ rfl q0 q1 q2) rfl ?_
      rw [HV.out]
      have hlt := HLT.out
      refine ⟨.slice (some ⟨W2.heap.size, 0, none⟩) 2 2, rfl, by rw [HN.out]; exact OwV.mono (owv3 (owv_setLow HO.out _ _ HZ.out) (Nat.lt_trans hlt HZ.out) _ _ _) (by have h1 := HM.out; have h2 := HNN.out; have h3 := HZ.out; omega), ?_⟩
      have hm := HM.out
      have he := HE.out.trans HX4.out
      rw [← HNN.out] at hm
      exact ext3 (Below.setCell he (Nat.le_of_lt (Nat.lt_of_le_of_lt hm hlt)) _) hm _ _ _
    · clear hk
      clear HR
      have HN : Hid ((opRec ⟨7, lane, id, n, name, seg, at', size⟩).n = [n]) := hid (by simp [opRec, opNums, hasId])
      have hr2 := heap_alloc_new w1 (.cells #[.int .i64 7, .slice none 0 0, .string (str name)] 86 (0, 0))
      have hx2 := Ext.alloc w1 (.cells #[.int .i64 7, .slice none 0 0, .string (str name)] 86 (0, 0))
      have hz2 : w1.heap.size < (w1.alloc (.cells #[.int .i64 7, .slice none 0 0, .string (str name)] 86 (0, 0))).heap.size := by simp
      obtain ⟨W2, hW2⟩ : ∃ W, w1.alloc (.cells #[.int .i64 7, .slice none 0 0, .string (str name)] 86 (0, 0)) = W := ⟨_, rfl⟩
      rw [hW2] at hr2 hx2 hz2
      have HX2 := hid hx2
      have l0 := hx2.cell c0
      have l1 := hx2.cell c1
      have l2 := hx2.cell c2
      have l3 := hx2.cell c3
      have hov := owv_lit (f := uv) W2 W2.heap.size 32 [n] #[uv n] rfl 1 rfl (Nat.le_refl _) (by simp [maxLen])
      have hx4 := Ext.alloc W2 (.cells #[uv n] 32 (0, 0))
      obtain ⟨W4, hW4⟩ : ∃ W, W2.alloc (.cells #[uv n] 32 (0, 0)) = W := ⟨_, rfl⟩
      rw [hW4] at hov hx4
      have HO := hid hov
      have HX4 := hid (HX2.out.trans hx4)
      have hr4 := hx4.obj hr2
      have HR4 := hid hr4
      have hr5 : (W4.setCell ⟨w1.heap.size, 1, none⟩ (.slice (some ⟨W2.heap.size, 0, none⟩) 1 1)).heap[w1.heap.size]? = some (.cells #[.int .i64 7, .slice (some ⟨W2.heap.size, 0, none⟩) 1 1, .string (str name)] 86 (0, 0)) := by
        simpa using Go.Joins.block_setCell (i := 1) hr4 (.slice (some ⟨W2.heap.size, 0, none⟩) 1 1)
      have hs5 : (W4.setCell ⟨w1.heap.size, 1, none⟩ (.slice (some ⟨W2.heap.size, 0, none⟩) 1 1)).heap[M]? = some (.cells #[.int .i64 0, .slice none 0 0, .string ⟨#[]⟩] 86 (0, 0)) := by
        rw [heap_setCell_other _ _ _ _ (by have := HLT.out; dsimp only; omega)]; exact HX4.out.obj HB1.out
      have HS5 := hid hs5
      obtain ⟨r0', r1', r2', rf'⟩ := blk3f hr4
      obtain ⟨s0, s1, s2, sf⟩ := blk3f hr5
      obtain ⟨m0, m1, m2, mf⟩ := blk3f hs5
      have HZ := hid hz2
      clear hov hx4 hr4 hr5 hs5 hr2 hx2 hz2
      go_wp2
      try rw [hW4]
      obtain ⟨q0, q1, q2, -⟩ := blk3f (three HS5.out (.int .i64 7) (.slice (some ⟨W2.heap.size, 0, none⟩) 1 1) (.string (str name)))
      refine bodyPost_ret (orec_results _ _ _ _ _ _ rfl q0 q1 q2) rfl ?_
      rw [HV.out]
      have hlt := HLT.out
      refine ⟨.slice (some ⟨W2.heap.size, 0, none⟩) 1 1, rfl, by rw [HN.out]; exact OwV.mono (owv3 (owv_setLow HO.out _ _ HZ.out) (Nat.lt_trans hlt HZ.out) _ _ _) (by have h1 := HM.out; have h2 := HNN.out; have h3 := HZ.out; omega), ?_⟩
      have hm := HM.out
      have he := HE.out.trans HX4.out
      rw [← HNN.out] at hm
      exact ext3 (Below.setCell he (Nat.le_of_lt (Nat.lt_of_le_of_lt hm hlt)) _) hm _ _ _
    · clear hk
      clear HR
      have HN : Hid ((opRec ⟨8, lane, id, n, name, seg, at', size⟩).n = [id]) := hid (by simp [opRec, opNums, hasId])
      have hr2 := heap_alloc_new w1 (.cells #[.int .i64 8, .slice none 0 0, .string (str name)] 86 (0, 0))
      have hx2 := Ext.alloc w1 (.cells #[.int .i64 8, .slice none 0 0, .string (str name)] 86 (0, 0))
      have hz2 : w1.heap.size < (w1.alloc (.cells #[.int .i64 8, .slice none 0 0, .string (str name)] 86 (0, 0))).heap.size := by simp
      obtain ⟨W2, hW2⟩ : ∃ W, w1.alloc (.cells #[.int .i64 8, .slice none 0 0, .string (str name)] 86 (0, 0)) = W := ⟨_, rfl⟩
      rw [hW2] at hr2 hx2 hz2
      have HX2 := hid hx2
      have l0 := hx2.cell c0
      have l1 := hx2.cell c1
      have l2 := hx2.cell c2
      have l3 := hx2.cell c3
      have hov := owv_lit (f := uv) W2 W2.heap.size 32 [id] #[uv id] rfl 1 rfl (Nat.le_refl _) (by simp [maxLen])
      have hx4 := Ext.alloc W2 (.cells #[uv id] 32 (0, 0))
      obtain ⟨W4, hW4⟩ : ∃ W, W2.alloc (.cells #[uv id] 32 (0, 0)) = W := ⟨_, rfl⟩
      rw [hW4] at hov hx4
      have HO := hid hov
      have HX4 := hid (HX2.out.trans hx4)
      have hr4 := hx4.obj hr2
      have HR4 := hid hr4
      have hr5 : (W4.setCell ⟨w1.heap.size, 1, none⟩ (.slice (some ⟨W2.heap.size, 0, none⟩) 1 1)).heap[w1.heap.size]? = some (.cells #[.int .i64 8, .slice (some ⟨W2.heap.size, 0, none⟩) 1 1, .string (str name)] 86 (0, 0)) := by
        simpa using Go.Joins.block_setCell (i := 1) hr4 (.slice (some ⟨W2.heap.size, 0, none⟩) 1 1)
      have hs5 : (W4.setCell ⟨w1.heap.size, 1, none⟩ (.slice (some ⟨W2.heap.size, 0, none⟩) 1 1)).heap[M]? = some (.cells #[.int .i64 0, .slice none 0 0, .string ⟨#[]⟩] 86 (0, 0)) := by
        rw [heap_setCell_other _ _ _ _ (by have := HLT.out; dsimp only; omega)]; exact HX4.out.obj HB1.out
      have HS5 := hid hs5
      obtain ⟨r0', r1', r2', rf'⟩ := blk3f hr4
      obtain ⟨s0, s1, s2, sf⟩ := blk3f hr5
      obtain ⟨m0, m1, m2, mf⟩ := blk3f hs5
      have HZ := hid hz2
      clear hov hx4 hr4 hr5 hs5 hr2 hx2 hz2
      go_wp2
      try rw [hW4]
      obtain ⟨q0, q1, q2, -⟩ := blk3f (three HS5.out (.int .i64 8) (.slice (some ⟨W2.heap.size, 0, none⟩) 1 1) (.string (str name)))
      refine bodyPost_ret (orec_results _ _ _ _ _ _ rfl q0 q1 q2) rfl ?_
      rw [HV.out]
      have hlt := HLT.out
      refine ⟨.slice (some ⟨W2.heap.size, 0, none⟩) 1 1, rfl, by rw [HN.out]; exact OwV.mono (owv3 (owv_setLow HO.out _ _ HZ.out) (Nat.lt_trans hlt HZ.out) _ _ _) (by have h1 := HM.out; have h2 := HNN.out; have h3 := HZ.out; omega), ?_⟩
      have hm := HM.out
      have he := HE.out.trans HX4.out
      rw [← HNN.out] at hm
      exact ext3 (Below.setCell he (Nat.le_of_lt (Nat.lt_of_le_of_lt hm hlt)) _) hm _ _ _
    · clear hk
      clear HR
      have HN : Hid ((opRec ⟨9, lane, id, n, name, seg, at', size⟩).n = [id]) := hid (by simp [opRec, opNums, hasId])
      have hr2 := heap_alloc_new w1 (.cells #[.int .i64 9, .slice none 0 0, .string (str name)] 86 (0, 0))
      have hx2 := Ext.alloc w1 (.cells #[.int .i64 9, .slice none 0 0, .string (str name)] 86 (0, 0))
      have hz2 : w1.heap.size < (w1.alloc (.cells #[.int .i64 9, .slice none 0 0, .string (str name)] 86 (0, 0))).heap.size := by simp
      obtain ⟨W2, hW2⟩ : ∃ W, w1.alloc (.cells #[.int .i64 9, .slice none 0 0, .string (str name)] 86 (0, 0)) = W := ⟨_, rfl⟩
      rw [hW2] at hr2 hx2 hz2
      have HX2 := hid hx2
      have l0 := hx2.cell c0
      have l1 := hx2.cell c1
      have l2 := hx2.cell c2
      have l3 := hx2.cell c3
      have hov := owv_lit (f := uv) W2 W2.heap.size 32 [id] #[uv id] rfl 1 rfl (Nat.le_refl _) (by simp [maxLen])
      have hx4 := Ext.alloc W2 (.cells #[uv id] 32 (0, 0))
      obtain ⟨W4, hW4⟩ : ∃ W, W2.alloc (.cells #[uv id] 32 (0, 0)) = W := ⟨_, rfl⟩
      rw [hW4] at hov hx4
      have HO := hid hov
      have HX4 := hid (HX2.out.trans hx4)
      have hr4 := hx4.obj hr2
      have HR4 := hid hr4
      have hr5 : (W4.setCell ⟨w1.heap.size, 1, none⟩ (.slice (some ⟨W2.heap.size, 0, none⟩) 1 1)).heap[w1.heap.size]? = some (.cells #[.int .i64 9, .slice (some ⟨W2.heap.size, 0, none⟩) 1 1, .string (str name)] 86 (0, 0)) := by
        simpa using Go.Joins.block_setCell (i := 1) hr4 (.slice (some ⟨W2.heap.size, 0, none⟩) 1 1)
      have hs5 : (W4.setCell ⟨w1.heap.size, 1, none⟩ (.slice (some ⟨W2.heap.size, 0, none⟩) 1 1)).heap[M]? = some (.cells #[.int .i64 0, .slice none 0 0, .string ⟨#[]⟩] 86 (0, 0)) := by
        rw [heap_setCell_other _ _ _ _ (by have := HLT.out; dsimp only; omega)]; exact HX4.out.obj HB1.out
      have HS5 := hid hs5
      obtain ⟨r0', r1', r2', rf'⟩ := blk3f hr4
      obtain ⟨s0, s1, s2, sf⟩ := blk3f hr5
      obtain ⟨m0, m1, m2, mf⟩ := blk3f hs5
      have HZ := hid hz2
      clear hov hx4 hr4 hr5 hs5 hr2 hx2 hz2
      go_wp2
      try rw [hW4]
      obtain ⟨q0, q1, q2, -⟩ := blk3f (three HS5.out (.int .i64 9) (.slice (some ⟨W2.heap.size, 0, none⟩) 1 1) (.string (str name)))
      refine bodyPost_ret (orec_results _ _ _ _ _ _ rfl q0 q1 q2) rfl ?_
      rw [HV.out]
      have hlt := HLT.out
      refine ⟨.slice (some ⟨W2.heap.size, 0, none⟩) 1 1, rfl, by rw [HN.out]; exact OwV.mono (owv3 (owv_setLow HO.out _ _ HZ.out) (Nat.lt_trans hlt HZ.out) _ _ _) (by have h1 := HM.out; have h2 := HNN.out; have h3 := HZ.out; omega), ?_⟩
      have hm := HM.out
      have he := HE.out.trans HX4.out
      rw [← HNN.out] at hm
      exact ext3 (Below.setCell he (Nat.le_of_lt (Nat.lt_of_le_of_lt hm hlt)) _) hm _ _ _
    · clear hk
      clear HR
      have HN : Hid ((opRec ⟨10, lane, id, n, name, seg, at', size⟩).n = [n]) := hid (by simp [opRec, opNums, hasId])
      have hr2 := heap_alloc_new w1 (.cells #[.int .i64 10, .slice none 0 0, .string (str name)] 86 (0, 0))
      have hx2 := Ext.alloc w1 (.cells #[.int .i64 10, .slice none 0 0, .string (str name)] 86 (0, 0))
      have hz2 : w1.heap.size < (w1.alloc (.cells #[.int .i64 10, .slice none 0 0, .string (str name)] 86 (0, 0))).heap.size := by simp
      obtain ⟨W2, hW2⟩ : ∃ W, w1.alloc (.cells #[.int .i64 10, .slice none 0 0, .string (str name)] 86 (0, 0)) = W := ⟨_, rfl⟩
      rw [hW2] at hr2 hx2 hz2
      have HX2 := hid hx2
      have l0 := hx2.cell c0
      have l1 := hx2.cell c1
      have l2 := hx2.cell c2
      have l3 := hx2.cell c3
      have hov := owv_lit (f := uv) W2 W2.heap.size 32 [n] #[uv n] rfl 1 rfl (Nat.le_refl _) (by simp [maxLen])
      have hx4 := Ext.alloc W2 (.cells #[uv n] 32 (0, 0))
      obtain ⟨W4, hW4⟩ : ∃ W, W2.alloc (.cells #[uv n] 32 (0, 0)) = W := ⟨_, rfl⟩
      rw [hW4] at hov hx4
      have HO := hid hov
      have HX4 := hid (HX2.out.trans hx4)
      have hr4 := hx4.obj hr2
      have HR4 := hid hr4
      have hr5 : (W4.setCell ⟨w1.heap.size, 1, none⟩ (.slice (some ⟨W2.heap.size, 0, none⟩) 1 1)).heap[w1.heap.size]? = some (.cells #[.int .i64 10, .slice (some ⟨W2.heap.size, 0, none⟩) 1 1, .string (str name)] 86 (0, 0)) := by
        simpa using Go.Joins.block_setCell (i := 1) hr4 (.slice (some ⟨W2.heap.size, 0, none⟩) 1 1)
      have hs5 : (W4.setCell ⟨w1.heap.size, 1, none⟩ (.slice (some ⟨W2.heap.size, 0, none⟩) 1 1)).heap[M]? = some (.cells #[.int .i64 0, .slice none 0 0, .string ⟨#[]⟩] 86 (0, 0)) := by
        rw [heap_setCell_other _ _ _ _ (by have := HLT.out; dsimp only; omega)]; exact HX4.out.obj HB1.out
      have HS5 := hid hs5
      obtain ⟨r0', r1', r2', rf'⟩ := blk3f hr4
      obtain ⟨s0, s1, s2, sf⟩ := blk3f hr5
      obtain ⟨m0, m1, m2, mf⟩ := blk3f hs5
      have HZ := hid hz2
      clear hov hx4 hr4 hr5 hs5 hr2 hx2 hz2
      go_wp2
      try rw [hW4]
      obtain ⟨q0, q1, q2, -⟩ := blk3f (three HS5.out (.int .i64 10) (.slice (some ⟨W2.heap.size, 0, none⟩) 1 1) (.string (str name)))
      refine bodyPost_ret (orec_results _ _ _ _ _ _ rfl q0 q1 q2) rfl ?_
      rw [HV.out]
      have hlt := HLT.out
      refine ⟨.slice (some ⟨W2.heap.size, 0, none⟩) 1 1, rfl, by rw [HN.out]; exact OwV.mono (owv3 (owv_setLow HO.out _ _ HZ.out) (Nat.lt_trans hlt HZ.out) _ _ _) (by have h1 := HM.out; have h2 := HNN.out; have h3 := HZ.out; omega), ?_⟩
      have hm := HM.out
      have he := HE.out.trans HX4.out
      rw [← HNN.out] at hm
      exact ext3 (Below.setCell he (Nat.le_of_lt (Nat.lt_of_le_of_lt hm hlt)) _) hm _ _ _
end Go.Proofs.YtinancnlangkjaaGreatDoor

