/- Package op: Of. -/
import Derived.Test.YtinancnlangkjaaGreatDoorOpMA
import Derived.Test.YtinancnlangkjaaGreatDoorRecGB
import Derived.Test.YtinancnlangkjaaGreatDoorDskMX
set_option linter.unusedSimpArgs false
set_option linter.unusedVariables false
set_option maxRecDepth 100000
namespace Go.Proofs.YtinancnlangkjaaGreatDoor
open Go Go.RowKit Go.Tum Go.Tum.Crc Go.Tum.Vint Go.Tum.Opm

theorem oof_results (tmps : Array Value) (w : World) (B : Nat) (v0 v1 v2 v3 v4 v5 v6 v7 : Value) (h2 : tmps.getD 2 undef = .pointer (some ⟨B, 0, none⟩)) (m : w.heap[B]? = some (.cells #[v0, v1, v2, v3, v4, v5, v6, v7] 68 (0, 0))) :
    (results Tryz.f53 tmps).run Tryz.prog w = .ok (.tuple #[.agg #[v0, v1, v2, v3, v4, v5, v6, v7], tmps.getD 3 undef]) w := by
  obtain ⟨⟨m0, m1, m2, m3, m4, m5, m6, m7⟩, -⟩ := blk8 m
  have h2' : tmps[2]?.getD undef = .pointer (some ⟨B, 0, none⟩) := by simpa using h2
  simp [results, Tryz.results53, go_sem, h2', m0, m1, m2, m3, m4, m5, m6, m7]
abbrev set8 (w : World) (b : Nat) (v0 v1 v2 v3 v4 v5 v6 v7 : Value) : World :=
  (((((((w.setCell ⟨b, 0, none⟩ v0).setCell ⟨b, 1, none⟩ v1).setCell ⟨b, 2, none⟩ v2).setCell ⟨b, 3, none⟩ v3).setCell ⟨b, 4, none⟩ v4).setCell ⟨b, 5, none⟩ v5).setCell ⟨b, 6, none⟩ v6).setCell ⟨b, 7, none⟩ v7
theorem eight {w : World} {b : Nat} {p0 p1 p2 p3 p4 p5 p6 p7 : Value} {ty : TypeId} (h : w.heap[b]? = some (.cells #[p0, p1, p2, p3, p4, p5, p6, p7] ty (0, 0))) (v0 v1 v2 v3 v4 v5 v6 v7 : Value) :
    (set8 w b v0 v1 v2 v3 v4 v5 v6 v7).heap[b]? = some (.cells #[v0, v1, v2, v3, v4, v5, v6, v7] ty (0, 0)) := by
  simpa using Go.Joins.block_setCell (i := 7) (Go.Joins.block_setCell (i := 6) (Go.Joins.block_setCell (i := 5) (Go.Joins.block_setCell (i := 4) (Go.Joins.block_setCell (i := 3) (Go.Joins.block_setCell (i := 2) (Go.Joins.block_setCell (i := 1) (Go.Joins.block_setCell (i := 0) h v0) v1) v2) v3) v4) v5) v6) v7
theorem ext8 {w W : World} (h : Ext w W) {b : Nat} (hb : w.heap.size ≤ b) (v0 v1 v2 v3 v4 v5 v6 v7 : Value) : Ext w (set8 W b v0 v1 v2 v3 v4 v5 v6 v7) :=
  (((((((Below.setCell h hb v0).setCell hb v1).setCell hb v2).setCell hb v3).setCell hb v4).setCell hb v5).setCell hb v6).setCell hb v7
/-- What 'next' does with what is left. -/
theorem onext_any {w0 W : World} (hE : Ext w0 W) (L : Nat) (hL : w0.heap.size ≤ L) (a : UInt64) (r : List UInt64) (u : Value) (hv : Vec uv w0 u (a :: r)) (hb : W.heap[L]? = some (.cells #[u] 84 (0, 0))) :
    Calls Tryz.prog 95 #[pv L] W fun e w' => e = .returned (uv a) ∧ ∃ u', Vec uv w0 u' r ∧ w'.heap[L]? = some (.cells #[u'] 84 (0, 0)) ∧ Ext w0 w' ∧ w'.heap.size = W.heap.size ∧ ∀ b o, b ≠ L → W.heap[b]? = some o → w'.heap[b]? = some o := by
  obtain ⟨ao, cap, rfl, hle, hm, hnn, hcell⟩ := hv.open
  obtain ⟨a1, rfl⟩ := hnn (by simp at hle; omega)
  have hc := hE.cell (hcell a1 rfl 0 (by simp))
  have e00 : a1.add 0 = a1 := by first | (unfold Addr.add; split <;> simp_all; done) | (cases a1; simp [Addr.add])
  have hc0 : W.cell? a1 = some (uv a) := by rw [e00] at hc; exact hc
  obtain ⟨n, hn⟩ : ∃ n, (a :: r).length = n := ⟨_, rfl⟩
  have hn1 : r.length = n - 1 := by rw [← hn]; simp
  have hpos : 1 ≤ n := by rw [← hn]; simp
  have HD := hid fun ao' hao => Vec.drop (f := uv) hv 1 (by simp) ao' hao (n - 1) (cap - 1) (by rw [← hn]) rfl
  simp only [hn] at hle hv ⊢
  rw [hn] at hb
  obtain ⟨b0, bf⟩ := lk1 hb
  have hi0 : (0 : Int) < (n : Int) := by omega
  have hi1 : (1 : Int) ≤ (n : Int) := by omega
  have HB := hid hb
  clear hv hnn hcell hc e00 hn hb
  go_enter Tryz.func95, Tryz.ntmps95
  go_wp2
  all_goals (go_returns; refine ⟨rfl, _, ?_, Go.Joins.block_setCell (i := 0) HB.out _, Below.setCell hE hL _, by simp, fun b o hne ho => by rw [heap_setCell_other _ _ _ _ (by dsimp only; exact hne)]; exact ho⟩)
  · skip
    have h2 := HD.out _ rfl
    rw [if_pos h, h] at h2
    exact h2
  · skip
    have h2 := HD.out _ rfl
    rw [if_neg h] at h2
    have e : a1.add 1 = ⟨a1.block, a1.off + 1, none⟩ := by simp [Addr.add]
    rw [Option.map_some, e] at h2
    exact h2
set_option maxHeartbeats 4000000 in
theorem oof_any (r : Rc) (v : Value) (w : World) (hv : Vec uv w v r.n) (ht : Tab w) : Calls Tryz.prog 53 #[rv r v] w fun e w' => e = .returned (.tuple #[ov (opOf r).1, .int .i64 (opOf r).2]) ∧ Ext w w' := by
  obtain ⟨ao, cap, rfl, -⟩ := hv.open
  obtain ⟨k, n, name⟩ := r
  dsimp only at hv ⊢
  have en := enter_of Tryz.func95 (by kernel_rfl) (by kernel_rfl)
  obtain ⟨RB, hRB⟩ : ∃ R, rightB ⟨k, n, name⟩ = R := ⟨_, rfl⟩
  have HRB := hid hRB
  have HV := hid hv
  have HT := hid ht
  obtain ⟨ln, hln⟩ : ∃ m, n.length = m := ⟨_, rfl⟩
  rw [hln] at HV ⊢
  have HLN := hid hln
  clear hRB hv ht hln
  have hB0 := heap_alloc2_old w (.cells #[.int .i64 k, .slice ao ln cap, .string (str name)] 86) (.cells #[.int .i64 0, .int .i64 0, .int .u64 0, .int .u64 0, .string ⟨#[]⟩, .int .u64 0, .int .u64 0, .int .i64 0] 68)
  have hB1 := heap_alloc2_new w (.cells #[.int .i64 k, .slice ao ln cap, .string (str name)] 86) (.cells #[.int .i64 0, .int .i64 0, .int .u64 0, .int .u64 0, .string ⟨#[]⟩, .int .u64 0, .int .u64 0, .int .i64 0] 68)
  have hE0 : Ext w ((w.alloc (.cells #[.int .i64 k, .slice ao ln cap, .string (str name)] 86)).alloc (.cells #[.int .i64 0, .int .i64 0, .int .u64 0, .int .u64 0, .string ⟨#[]⟩, .int .u64 0, .int .u64 0, .int .i64 0] 68)) := (Ext.alloc _ _).trans (Ext.alloc _ _)
  go_enter Tryz.func53, Tryz.ntmps53
  go_wp2_with fail
  generalize (w.alloc (.cells #[.int .i64 k, .slice ao ln cap, .string (str name)] 86)).alloc (.cells #[.int .i64 0, .int .i64 0, .int .u64 0, .int .u64 0, .string ⟨#[]⟩, .int .u64 0, .int .u64 0, .int .i64 0] 68) = W0 at *
  refine (right_any ⟨k, n, name⟩ (.slice ao ln cap) W0 (HV.out.ext hE0) (HT.out.ext hE0)).mono ?_
  rintro e w1 ⟨rfl, hx⟩
  rw [HRB.out]
  have hb0 := hx.obj hB0
  have hb1 := hx.obj hB1
  have HE := hid (hE0.trans hx)
  have hlt : w.heap.size + 1 < w1.heap.size := (Array.getElem?_eq_some_iff.1 hb1).1
  clear hB0 hB1 hE0 hx
  obtain ⟨N, hN⟩ : ∃ N, w.heap.size = N := ⟨_, rfl⟩
  have HNN := hid hN
  rw [hN] at hb0 hb1 hlt
  try rw [hN]
  clear hN
  obtain ⟨M, hM⟩ : ∃ M, N + 1 = M := ⟨_, rfl⟩
  have HM : Hid (w.heap.size ≤ M) := hid (by have := HNN.out; omega)
  rw [hM] at hb1 hlt
  try rw [hM]
  have HB1 := hid hb1
  have HLT := hid hlt
  clear hM hlt
  cases RB with
  | false =>
    have HOF : Hid (opOf ⟨k, n, name⟩ = (o0, 2)) := hid (by unfold opOf; rw [HRB.out]; rfl)
    obtain ⟨⟨m0, m1, m2, m3, m4, m5, m6, m7⟩, mf⟩ := blk8 hb1
    clear hb0 hb1
    go_wp2
    refine bodyPost_ret (oof_results _ _ M _ _ _ _ _ _ _ _ rfl (eight HB1.out (.int .i64 0) (.int .i64 0) (.int .u64 0) (.int .u64 0) (.string ⟨#[]⟩) (.int .u64 0) (.int .u64 0) (.int .i64 0))) rfl ?_
    rw [HOF.out]
    exact ⟨rfl, ext8 HE.out HM.out _ _ _ _ _ _ _ _⟩
  | true =>
    obtain ⟨⟨c0, c1, c2⟩, -⟩ : (w1.cell? ⟨N, 0, none⟩ = some (.int .i64 k) ∧ w1.cell? ⟨N, 1, none⟩ = some (.slice ao ln cap) ∧ w1.cell? ⟨N, 2, none⟩ = some (.string (str name))) ∧ True := ⟨blk3 hb0, trivial⟩
    have hx2 := Ext.alloc w1 (.cells #[.slice ao ln cap] 84 (0, 0))
    have hl2 := heap_alloc_new w1 (.cells #[.slice ao ln cap] 84 (0, 0))
    obtain ⟨W2, hW2⟩ : ∃ W, w1.alloc (.cells #[.slice ao ln cap] 84 (0, 0)) = W := ⟨_, rfl⟩
    rw [hW2] at hx2 hl2
    have d0 := hx2.cell c0
    have d2 := hx2.cell c2
    have hlw : w1.heap.size < W2.heap.size := (Array.getElem?_eq_some_iff.1 hl2).1
    have e0 := fun o => (Ext.alloc W2 o).cell d0
    have HX2 := hid (HE.out.trans hx2)
    have HLB2 := hid hl2
    have HMB2 := hid (hx2.obj HB1.out)
    have HLO : Hid (M < w1.heap.size ∧ w1.heap.size < W2.heap.size) := hid ⟨HLT.out, hlw⟩
    clear hb0 hb1 hl2 hx2 hlw
    have hkn : 1 ≤ k ∧ k ≤ 17 := by
      have h := HRB.out
      simp only [rightB, knownB, Bool.and_eq_true, decide_eq_true_eq] at h
      exact h.1.1
    by_cases hk : 1 ≤ k ∧ k ≤ 10
    · rcases kinds hk with rfl | rfl | rfl | rfl | rfl | rfl | rfl | rfl | rfl | rfl
      · skip
        have hlen : ln = 0 := by
          have h := HRB.out
          simp only [rightB, Bool.and_eq_true, decide_eq_true_eq] at h
          rw [← HLN.out, h.1.2]; rfl
        subst hlen
        obtain rfl : n = [] := (len_of.1 HLN.out)
        clear hk hkn
        go_wp2_with fail
        have hx3 := Ext.alloc W2 (.cells #[.int .i64 1, .int .i64 0, .int .u64 0, .int .u64 0, .string (str name), .int .u64 0, .int .u64 0, .int .i64 0] 68 (0, 0))
        have hl3 := heap_alloc_new W2 (.cells #[.int .i64 1, .int .i64 0, .int .u64 0, .int .u64 0, .string (str name), .int .u64 0, .int .u64 0, .int .i64 0] 68 (0, 0))
        obtain ⟨W3, hW3⟩ : ∃ W, W2.alloc (.cells #[.int .i64 1, .int .i64 0, .int .u64 0, .int .u64 0, .string (str name), .int .u64 0, .int .u64 0, .int .i64 0] 68 (0, 0)) = W := ⟨_, rfl⟩
        rw [hW3] at hx3 hl3
        try rw [hW3]
        have HX3 := hid (HX2.out.trans hx3)
        have HOB3 := hid hl3
        have HLB3 := hid (hx3.obj HLB2.out)
        have HMB3 := hid (hx3.obj HMB2.out)
        clear hW3 hW2 hx3 hl3 c0 c1 c2 d0 d2 e0 HX2 HLB2 HMB2
        obtain ⟨L, hL⟩ : ∃ L, w1.heap.size = L := ⟨_, rfl⟩
        obtain ⟨O, hO⟩ : ∃ O, W2.heap.size = O := ⟨_, rfl⟩
        rw [hL] at HLB3 HLO
        rw [hO] at HOB3 HLO
        try rw [hL]
        try rw [hO]
        clear hL hO
        have HLW : Hid (w.heap.size ≤ L ∧ w.heap.size ≤ O) := hid (by have := HLO.out; have := HM.out; omega)
        obtain ⟨R, hR⟩ : ∃ R, opRight ⟨1, 0, 0, 0, name, 0, 0, 0⟩ = R := ⟨_, rfl⟩
        have HOF : Hid (opOf ⟨1, [], name⟩ = if R = true then (⟨1, 0, 0, 0, name, 0, 0, 0⟩, 0) else (o0, 2)) := hid (by
          have hc : cand ⟨1, [], name⟩ = ⟨1, 0, 0, 0, name, 0, 0, 0⟩ := by simp [cand, hasId]
          unfold opOf
          rw [HRB.out, hc, hR]; rfl)
        have hC := oright_any ⟨1, 0, 0, 0, name, 0, 0, 0⟩ W3
        rw [hR] at hC
        have HC := hid hC
        clear hC hR
        refine HC.out.mono ?_
        rintro e W9 ⟨rfl, hx9⟩
        have hob9 := hx9.obj HOB3.out
        have hmb9 := hx9.obj HMB3.out
        have HMB9 := hid hmb9
        have HX9 := hid (HX3.out.trans hx9)
        obtain ⟨⟨s0, s1, s2, s3, s4, s5, s6, s7⟩, sf⟩ := blk8 hob9
        obtain ⟨⟨m0, m1, m2, m3, m4, m5, m6, m7⟩, mf⟩ := blk8 hmb9
        clear hob9 hmb9 hx9 HC
        cases R with
        | false =>
          go_wp2
          refine bodyPost_ret (oof_results _ _ M _ _ _ _ _ _ _ _ rfl (eight HMB9.out (.int .i64 0) (.int .i64 0) (.int .u64 0) (.int .u64 0) (.string ⟨#[]⟩) (.int .u64 0) (.int .u64 0) (.int .i64 0))) rfl ?_
          rw [HOF.out]
          exact ⟨rfl, ext8 HX9.out HM.out _ _ _ _ _ _ _ _⟩
        | true =>
          go_wp2
          refine bodyPost_ret (oof_results _ _ M _ _ _ _ _ _ _ _ rfl (eight HMB9.out (.int .i64 1) (.int .i64 0) (.int .u64 0) (.int .u64 0) (.string (str name)) (.int .u64 0) (.int .u64 0) (.int .i64 0))) rfl ?_
          rw [HOF.out]
          exact ⟨rfl, ext8 HX9.out HM.out _ _ _ _ _ _ _ _⟩
      · skip
        have hlen : ln = 5 := by
          have h := HRB.out
          simp only [rightB, Bool.and_eq_true, decide_eq_true_eq] at h
          rw [← HLN.out, h.1.2]; rfl
        subst hlen
        obtain ⟨a, b, c, d, f, rfl⟩ := (len_of.2.2.2 HLN.out)
        clear hk hkn
        obtain ⟨qa, hqa⟩ : ∃ q, IntKind.i64.wrap (a.toNat : Int) = q := ⟨_, rfl⟩
        obtain ⟨qe, hqe⟩ : ∃ q, IntKind.i64.wrap (f.toNat : Int) = q := ⟨_, rfl⟩
        go_wp2_with fail
        have hx3 := Ext.alloc W2 (.cells #[.int .i64 2, .int .i64 0, .int .u64 0, .int .u64 0, .string (str name), .int .u64 0, .int .u64 0, .int .i64 0] 68 (0, 0))
        have hl3 := heap_alloc_new W2 (.cells #[.int .i64 2, .int .i64 0, .int .u64 0, .int .u64 0, .string (str name), .int .u64 0, .int .u64 0, .int .i64 0] 68 (0, 0))
        obtain ⟨W3, hW3⟩ : ∃ W, W2.alloc (.cells #[.int .i64 2, .int .i64 0, .int .u64 0, .int .u64 0, .string (str name), .int .u64 0, .int .u64 0, .int .i64 0] 68 (0, 0)) = W := ⟨_, rfl⟩
        rw [hW3] at hx3 hl3
        try rw [hW3]
        have HX3 := hid (HX2.out.trans hx3)
        have HOB3 := hid hl3
        have HLB3 := hid (hx3.obj HLB2.out)
        have HMB3 := hid (hx3.obj HMB2.out)
        clear hW3 hW2 hx3 hl3 c0 c1 c2 d0 d2 e0 HX2 HLB2 HMB2
        obtain ⟨L, hL⟩ : ∃ L, w1.heap.size = L := ⟨_, rfl⟩
        obtain ⟨O, hO⟩ : ∃ O, W2.heap.size = O := ⟨_, rfl⟩
        rw [hL] at HLB3 HLO
        rw [hO] at HOB3 HLO
        try rw [hL]
        try rw [hO]
        clear hL hO
        have HLW : Hid (w.heap.size ≤ L ∧ w.heap.size ≤ O) := hid (by have := HLO.out; have := HM.out; omega)
        refine (onext_any HX3.out L HLW.out.1 a [b, c, d, f] (.slice ao 5 cap) HV.out HLB3.out).mono ?_
        rintro e W4 ⟨rfl, u4, hv4, hb4, hx4, -, hk4⟩
        have HX4 := hid hx4
        have HLB4 := hid hb4
        have HV4 := hid hv4
        have HOB4 := hid (hk4 O _ (by have := HLO.out; omega) HOB3.out)
        have HMB4 := hid (hk4 M _ (by have := HLO.out; omega) HMB3.out)
        clear hv4 hb4 hx4 hk4 HX3 HLB3 HOB3 HMB3
        go_wp2_with fail
        refine (onext_any HX4.out L HLW.out.1 b [c, d, f] u4 HV4.out HLB4.out).mono ?_
        rintro e W5 ⟨rfl, u5, hv5, hb5, hx5, -, hk5⟩
        have HX5 := hid hx5
        have HLB5 := hid hb5
        have HV5 := hid hv5
        have HOB5 := hid (hk5 O _ (by have := HLO.out; omega) HOB4.out)
        have HMB5 := hid (hk5 M _ (by have := HLO.out; omega) HMB4.out)
        clear hv5 hb5 hx5 hk5 HX4 HLB4 HOB4 HMB4
        obtain ⟨⟨s0, s1, s2, s3, s4, s5, s6, s7⟩, sf⟩ := blk8 HOB5.out
        have hob6 : ((W5.setCell ⟨O, 1, none⟩ (.int .i64 qa)).setCell ⟨O, 3, none⟩ (uv b)).heap[O]? = some (.cells #[.int .i64 2, .int .i64 qa, .int .u64 0, uv b, .string (str name), .int .u64 0, .int .u64 0, .int .i64 0] 68 (0, 0)) := by simpa using (Go.Joins.block_setCell (i := 3) (Go.Joins.block_setCell (i := 1) HOB5.out (.int .i64 qa)) (uv b))
        have hlb6 : ((W5.setCell ⟨O, 1, none⟩ (.int .i64 qa)).setCell ⟨O, 3, none⟩ (uv b)).heap[L]? = some (.cells #[u5] 84 (0, 0)) := by rw [heap_setCell_other _ _ _ _ (by dsimp only; have := HLO.out; omega), heap_setCell_other _ _ _ _ (by dsimp only; have := HLO.out; omega)]; exact HLB5.out
        have hmb6 : ((W5.setCell ⟨O, 1, none⟩ (.int .i64 qa)).setCell ⟨O, 3, none⟩ (uv b)).heap[M]? = some (.cells #[.int .i64 0, .int .i64 0, .int .u64 0, .int .u64 0, .string ⟨#[]⟩, .int .u64 0, .int .u64 0, .int .i64 0] 68 (0, 0)) := by rw [heap_setCell_other _ _ _ _ (by dsimp only; have := HLO.out; omega), heap_setCell_other _ _ _ _ (by dsimp only; have := HLO.out; omega)]; exact HMB5.out
        have hx6 : Ext w ((W5.setCell ⟨O, 1, none⟩ (.int .i64 qa)).setCell ⟨O, 3, none⟩ (uv b)) := (Below.setCell (Below.setCell HX5.out HLW.out.2 (.int .i64 qa)) HLW.out.2 (uv b))
        obtain ⟨W6, hW6⟩ : ∃ W, ((W5.setCell ⟨O, 1, none⟩ (.int .i64 qa)).setCell ⟨O, 3, none⟩ (uv b)) = W := ⟨_, rfl⟩
        rw [hW6] at hob6 hlb6 hmb6 hx6
        have HOB6 := hid hob6
        have HLB6 := hid hlb6
        have HMB6 := hid hmb6
        have HX6 := hid hx6
        obtain ⟨⟨y0, y1, y2, y3, y4, y5, y6, y7⟩, yf⟩ := blk8 hob6
        go_wp2_with fail
        try rw [hW6]
        clear hW6 hob6 hlb6 hmb6 hx6 s0 s1 s2 s3 s4 s5 s6 s7 sf y0 y1 y2 y3 y4 y5 y6 y7 yf HOB5 HLB5 HMB5 HX5
        refine (onext_any HX6.out L HLW.out.1 c [d, f] u5 HV5.out HLB6.out).mono ?_
        rintro e W7 ⟨rfl, u7, hv7, hb7, hx7, -, hk7⟩
        have HX7 := hid hx7
        have HLB7 := hid hb7
        have HV7 := hid hv7
        have HOB7 := hid (hk7 O _ (by have := HLO.out; omega) HOB6.out)
        have HMB7 := hid (hk7 M _ (by have := HLO.out; omega) HMB6.out)
        clear hv7 hb7 hx7 hk7 HX6 HLB6 HOB6 HMB6
        go_wp2_with fail
        refine (onext_any HX7.out L HLW.out.1 d [f] u7 HV7.out HLB7.out).mono ?_
        rintro e W8 ⟨rfl, u8, hv8, hb8, hx8, -, hk8⟩
        have HX8 := hid hx8
        have HLB8 := hid hb8
        have HV8 := hid hv8
        have HOB8 := hid (hk8 O _ (by have := HLO.out; omega) HOB7.out)
        have HMB8 := hid (hk8 M _ (by have := HLO.out; omega) HMB7.out)
        clear hv8 hb8 hx8 hk8 HX7 HLB7 HOB7 HMB7
        go_wp2_with fail
        refine (onext_any HX8.out L HLW.out.1 f [] u8 HV8.out HLB8.out).mono ?_
        rintro e W9 ⟨rfl, u9, hv9, hb9, hx9, -, hk9⟩
        have HX9 := hid hx9
        have HLB9 := hid hb9
        have HV9 := hid hv9
        have HOB9 := hid (hk9 O _ (by have := HLO.out; omega) HOB8.out)
        have HMB9 := hid (hk9 M _ (by have := HLO.out; omega) HMB8.out)
        clear hv9 hb9 hx9 hk9 HX8 HLB8 HOB8 HMB8
        obtain ⟨⟨s0, s1, s2, s3, s4, s5, s6, s7⟩, sf⟩ := blk8 HOB9.out
        have hob10 : (((W9.setCell ⟨O, 5, none⟩ (uv c)).setCell ⟨O, 6, none⟩ (uv d)).setCell ⟨O, 7, none⟩ (.int .i64 qe)).heap[O]? = some (.cells #[.int .i64 2, .int .i64 qa, .int .u64 0, uv b, .string (str name), uv c, uv d, .int .i64 qe] 68 (0, 0)) := by simpa using (Go.Joins.block_setCell (i := 7) (Go.Joins.block_setCell (i := 6) (Go.Joins.block_setCell (i := 5) HOB9.out (uv c)) (uv d)) (.int .i64 qe))
        have hlb10 : (((W9.setCell ⟨O, 5, none⟩ (uv c)).setCell ⟨O, 6, none⟩ (uv d)).setCell ⟨O, 7, none⟩ (.int .i64 qe)).heap[L]? = some (.cells #[u9] 84 (0, 0)) := by rw [heap_setCell_other _ _ _ _ (by dsimp only; have := HLO.out; omega), heap_setCell_other _ _ _ _ (by dsimp only; have := HLO.out; omega), heap_setCell_other _ _ _ _ (by dsimp only; have := HLO.out; omega)]; exact HLB9.out
        have hmb10 : (((W9.setCell ⟨O, 5, none⟩ (uv c)).setCell ⟨O, 6, none⟩ (uv d)).setCell ⟨O, 7, none⟩ (.int .i64 qe)).heap[M]? = some (.cells #[.int .i64 0, .int .i64 0, .int .u64 0, .int .u64 0, .string ⟨#[]⟩, .int .u64 0, .int .u64 0, .int .i64 0] 68 (0, 0)) := by rw [heap_setCell_other _ _ _ _ (by dsimp only; have := HLO.out; omega), heap_setCell_other _ _ _ _ (by dsimp only; have := HLO.out; omega), heap_setCell_other _ _ _ _ (by dsimp only; have := HLO.out; omega)]; exact HMB9.out
        have hx10 : Ext w (((W9.setCell ⟨O, 5, none⟩ (uv c)).setCell ⟨O, 6, none⟩ (uv d)).setCell ⟨O, 7, none⟩ (.int .i64 qe)) := (Below.setCell (Below.setCell (Below.setCell HX9.out HLW.out.2 (uv c)) HLW.out.2 (uv d)) HLW.out.2 (.int .i64 qe))
        obtain ⟨W10, hW10⟩ : ∃ W, (((W9.setCell ⟨O, 5, none⟩ (uv c)).setCell ⟨O, 6, none⟩ (uv d)).setCell ⟨O, 7, none⟩ (.int .i64 qe)) = W := ⟨_, rfl⟩
        rw [hW10] at hob10 hlb10 hmb10 hx10
        have HOB10 := hid hob10
        have HLB10 := hid hlb10
        have HMB10 := hid hmb10
        have HX10 := hid hx10
        obtain ⟨⟨y0, y1, y2, y3, y4, y5, y6, y7⟩, yf⟩ := blk8 hob10
        go_wp2_with fail
        try rw [hW10]
        clear hW10 hob10 hlb10 hmb10 hx10 s0 s1 s2 s3 s4 s5 s6 s7 sf y0 y1 y2 y3 y4 y5 y6 y7 yf HOB9 HLB9 HMB9 HX9
        obtain ⟨R, hR⟩ : ∃ R, opRight ⟨2, qa, 0, b, name, c, d, qe⟩ = R := ⟨_, rfl⟩
        have HOF : Hid (opOf ⟨2, [a, b, c, d, f], name⟩ = if R = true then (⟨2, qa, 0, b, name, c, d, qe⟩, 0) else (o0, 2)) := hid (by
          have hc : cand ⟨2, [a, b, c, d, f], name⟩ = ⟨2, qa, 0, b, name, c, d, qe⟩ := by simp [cand, hasId, iU, hqa, hqe]
          unfold opOf
          rw [HRB.out, hc, hR]; rfl)
        have hC := oright_any ⟨2, qa, 0, b, name, c, d, qe⟩ W10
        rw [hR] at hC
        have HC := hid hC
        clear hC hR
        refine HC.out.mono ?_
        rintro e W9 ⟨rfl, hx9⟩
        have hob9 := hx9.obj HOB10.out
        have hmb9 := hx9.obj HMB10.out
        have HMB9 := hid hmb9
        have HX9 := hid (HX10.out.trans hx9)
        obtain ⟨⟨s0, s1, s2, s3, s4, s5, s6, s7⟩, sf⟩ := blk8 hob9
        obtain ⟨⟨m0, m1, m2, m3, m4, m5, m6, m7⟩, mf⟩ := blk8 hmb9
        clear hob9 hmb9 hx9 HC
        cases R with
        | false =>
          go_wp2
          refine bodyPost_ret (oof_results _ _ M _ _ _ _ _ _ _ _ rfl (eight HMB9.out (.int .i64 0) (.int .i64 0) (.int .u64 0) (.int .u64 0) (.string ⟨#[]⟩) (.int .u64 0) (.int .u64 0) (.int .i64 0))) rfl ?_
          rw [HOF.out]
          exact ⟨rfl, ext8 HX9.out HM.out _ _ _ _ _ _ _ _⟩
        | true =>
          go_wp2
          refine bodyPost_ret (oof_results _ _ M _ _ _ _ _ _ _ _ rfl (eight HMB9.out (.int .i64 2) (.int .i64 qa) (.int .u64 0) (uv b) (.string (str name)) (uv c) (uv d) (.int .i64 qe))) rfl ?_
          rw [HOF.out]
          exact ⟨rfl, ext8 HX9.out HM.out _ _ _ _ _ _ _ _⟩
      · skip
        have hlen : ln = 2 := by
          have h := HRB.out
          simp only [rightB, Bool.and_eq_true, decide_eq_true_eq] at h
          rw [← HLN.out, h.1.2]; rfl
        subst hlen
        obtain ⟨a, b, rfl⟩ := (len_of.2.2.1 HLN.out)
        clear hk hkn
        obtain ⟨qa, hqa⟩ : ∃ q, IntKind.i64.wrap (a.toNat : Int) = q := ⟨_, rfl⟩
        obtain ⟨qe, hqe⟩ : ∃ q, IntKind.i64.wrap (qa - 1) = q := ⟨_, rfl⟩
        go_wp2_with fail
        have hx3 := Ext.alloc W2 (.cells #[.int .i64 3, .int .i64 0, .int .u64 0, .int .u64 0, .string (str name), .int .u64 0, .int .u64 0, .int .i64 0] 68 (0, 0))
        have hl3 := heap_alloc_new W2 (.cells #[.int .i64 3, .int .i64 0, .int .u64 0, .int .u64 0, .string (str name), .int .u64 0, .int .u64 0, .int .i64 0] 68 (0, 0))
        obtain ⟨W3, hW3⟩ : ∃ W, W2.alloc (.cells #[.int .i64 3, .int .i64 0, .int .u64 0, .int .u64 0, .string (str name), .int .u64 0, .int .u64 0, .int .i64 0] 68 (0, 0)) = W := ⟨_, rfl⟩
        rw [hW3] at hx3 hl3
        try rw [hW3]
        have HX3 := hid (HX2.out.trans hx3)
        have HOB3 := hid hl3
        have HLB3 := hid (hx3.obj HLB2.out)
        have HMB3 := hid (hx3.obj HMB2.out)
        clear hW3 hW2 hx3 hl3 c0 c1 c2 d0 d2 e0 HX2 HLB2 HMB2
        obtain ⟨L, hL⟩ : ∃ L, w1.heap.size = L := ⟨_, rfl⟩
        obtain ⟨O, hO⟩ : ∃ O, W2.heap.size = O := ⟨_, rfl⟩
        rw [hL] at HLB3 HLO
        rw [hO] at HOB3 HLO
        try rw [hL]
        try rw [hO]
        clear hL hO
        have HLW : Hid (w.heap.size ≤ L ∧ w.heap.size ≤ O) := hid (by have := HLO.out; have := HM.out; omega)
        refine (onext_any HX3.out L HLW.out.1 a [b] (.slice ao 2 cap) HV.out HLB3.out).mono ?_
        rintro e W4 ⟨rfl, u4, hv4, hb4, hx4, -, hk4⟩
        have HX4 := hid hx4
        have HLB4 := hid hb4
        have HV4 := hid hv4
        have HOB4 := hid (hk4 O _ (by have := HLO.out; omega) HOB3.out)
        have HMB4 := hid (hk4 M _ (by have := HLO.out; omega) HMB3.out)
        clear hv4 hb4 hx4 hk4 HX3 HLB3 HOB3 HMB3
        go_wp2_with fail
        refine (onext_any HX4.out L HLW.out.1 b [] u4 HV4.out HLB4.out).mono ?_
        rintro e W5 ⟨rfl, u5, hv5, hb5, hx5, -, hk5⟩
        have HX5 := hid hx5
        have HLB5 := hid hb5
        have HV5 := hid hv5
        have HOB5 := hid (hk5 O _ (by have := HLO.out; omega) HOB4.out)
        have HMB5 := hid (hk5 M _ (by have := HLO.out; omega) HMB4.out)
        clear hv5 hb5 hx5 hk5 HX4 HLB4 HOB4 HMB4
        obtain ⟨⟨s0, s1, s2, s3, s4, s5, s6, s7⟩, sf⟩ := blk8 HOB5.out
        have hob6 : ((W5.setCell ⟨O, 1, none⟩ (.int .i64 qe)).setCell ⟨O, 3, none⟩ (uv b)).heap[O]? = some (.cells #[.int .i64 3, .int .i64 qe, .int .u64 0, uv b, .string (str name), .int .u64 0, .int .u64 0, .int .i64 0] 68 (0, 0)) := by simpa using (Go.Joins.block_setCell (i := 3) (Go.Joins.block_setCell (i := 1) HOB5.out (.int .i64 qe)) (uv b))
        have hlb6 : ((W5.setCell ⟨O, 1, none⟩ (.int .i64 qe)).setCell ⟨O, 3, none⟩ (uv b)).heap[L]? = some (.cells #[u5] 84 (0, 0)) := by rw [heap_setCell_other _ _ _ _ (by dsimp only; have := HLO.out; omega), heap_setCell_other _ _ _ _ (by dsimp only; have := HLO.out; omega)]; exact HLB5.out
        have hmb6 : ((W5.setCell ⟨O, 1, none⟩ (.int .i64 qe)).setCell ⟨O, 3, none⟩ (uv b)).heap[M]? = some (.cells #[.int .i64 0, .int .i64 0, .int .u64 0, .int .u64 0, .string ⟨#[]⟩, .int .u64 0, .int .u64 0, .int .i64 0] 68 (0, 0)) := by rw [heap_setCell_other _ _ _ _ (by dsimp only; have := HLO.out; omega), heap_setCell_other _ _ _ _ (by dsimp only; have := HLO.out; omega)]; exact HMB5.out
        have hx6 : Ext w ((W5.setCell ⟨O, 1, none⟩ (.int .i64 qe)).setCell ⟨O, 3, none⟩ (uv b)) := (Below.setCell (Below.setCell HX5.out HLW.out.2 (.int .i64 qe)) HLW.out.2 (uv b))
        obtain ⟨W6, hW6⟩ : ∃ W, ((W5.setCell ⟨O, 1, none⟩ (.int .i64 qe)).setCell ⟨O, 3, none⟩ (uv b)) = W := ⟨_, rfl⟩
        rw [hW6] at hob6 hlb6 hmb6 hx6
        have HOB6 := hid hob6
        have HLB6 := hid hlb6
        have HMB6 := hid hmb6
        have HX6 := hid hx6
        obtain ⟨⟨y0, y1, y2, y3, y4, y5, y6, y7⟩, yf⟩ := blk8 hob6
        go_wp2_with fail
        try rw [hW6]
        clear hW6 hob6 hlb6 hmb6 hx6 s0 s1 s2 s3 s4 s5 s6 s7 sf y0 y1 y2 y3 y4 y5 y6 y7 yf HOB5 HLB5 HMB5 HX5
        obtain ⟨R, hR⟩ : ∃ R, opRight ⟨3, qe, 0, b, name, 0, 0, 0⟩ = R := ⟨_, rfl⟩
        have HOF : Hid (opOf ⟨3, [a, b], name⟩ = if R = true then (⟨3, qe, 0, b, name, 0, 0, 0⟩, 0) else (o0, 2)) := hid (by
          have hc : cand ⟨3, [a, b], name⟩ = ⟨3, qe, 0, b, name, 0, 0, 0⟩ := by simp [cand, hasId, iU, hqa, hqe]
          unfold opOf
          rw [HRB.out, hc, hR]; rfl)
        have hC := oright_any ⟨3, qe, 0, b, name, 0, 0, 0⟩ W6
        rw [hR] at hC
        have HC := hid hC
        clear hC hR
        refine HC.out.mono ?_
        rintro e W9 ⟨rfl, hx9⟩
        have hob9 := hx9.obj HOB6.out
        have hmb9 := hx9.obj HMB6.out
        have HMB9 := hid hmb9
        have HX9 := hid (HX6.out.trans hx9)
        obtain ⟨⟨s0, s1, s2, s3, s4, s5, s6, s7⟩, sf⟩ := blk8 hob9
        obtain ⟨⟨m0, m1, m2, m3, m4, m5, m6, m7⟩, mf⟩ := blk8 hmb9
        clear hob9 hmb9 hx9 HC
        cases R with
        | false =>
          go_wp2
          refine bodyPost_ret (oof_results _ _ M _ _ _ _ _ _ _ _ rfl (eight HMB9.out (.int .i64 0) (.int .i64 0) (.int .u64 0) (.int .u64 0) (.string ⟨#[]⟩) (.int .u64 0) (.int .u64 0) (.int .i64 0))) rfl ?_
          rw [HOF.out]
          exact ⟨rfl, ext8 HX9.out HM.out _ _ _ _ _ _ _ _⟩
        | true =>
          go_wp2
          refine bodyPost_ret (oof_results _ _ M _ _ _ _ _ _ _ _ rfl (eight HMB9.out (.int .i64 3) (.int .i64 qe) (.int .u64 0) (uv b) (.string (str name)) (.int .u64 0) (.int .u64 0) (.int .i64 0))) rfl ?_
          rw [HOF.out]
          exact ⟨rfl, ext8 HX9.out HM.out _ _ _ _ _ _ _ _⟩
      · skip
        have hlen : ln = 1 := by
          have h := HRB.out
          simp only [rightB, Bool.and_eq_true, decide_eq_true_eq] at h
          rw [← HLN.out, h.1.2]; rfl
        subst hlen
        obtain ⟨a, rfl⟩ := (len_of.2.1 HLN.out)
        clear hk hkn
        go_wp2_with fail
        have hx3 := Ext.alloc W2 (.cells #[.int .i64 4, .int .i64 0, .int .u64 0, .int .u64 0, .string (str name), .int .u64 0, .int .u64 0, .int .i64 0] 68 (0, 0))
        have hl3 := heap_alloc_new W2 (.cells #[.int .i64 4, .int .i64 0, .int .u64 0, .int .u64 0, .string (str name), .int .u64 0, .int .u64 0, .int .i64 0] 68 (0, 0))
        obtain ⟨W3, hW3⟩ : ∃ W, W2.alloc (.cells #[.int .i64 4, .int .i64 0, .int .u64 0, .int .u64 0, .string (str name), .int .u64 0, .int .u64 0, .int .i64 0] 68 (0, 0)) = W := ⟨_, rfl⟩
        rw [hW3] at hx3 hl3
        try rw [hW3]
        have HX3 := hid (HX2.out.trans hx3)
        have HOB3 := hid hl3
        have HLB3 := hid (hx3.obj HLB2.out)
        have HMB3 := hid (hx3.obj HMB2.out)
        clear hW3 hW2 hx3 hl3 c0 c1 c2 d0 d2 e0 HX2 HLB2 HMB2
        obtain ⟨L, hL⟩ : ∃ L, w1.heap.size = L := ⟨_, rfl⟩
        obtain ⟨O, hO⟩ : ∃ O, W2.heap.size = O := ⟨_, rfl⟩
        rw [hL] at HLB3 HLO
        rw [hO] at HOB3 HLO
        try rw [hL]
        try rw [hO]
        clear hL hO
        have HLW : Hid (w.heap.size ≤ L ∧ w.heap.size ≤ O) := hid (by have := HLO.out; have := HM.out; omega)
        refine (onext_any HX3.out L HLW.out.1 a [] (.slice ao 1 cap) HV.out HLB3.out).mono ?_
        rintro e W4 ⟨rfl, u4, hv4, hb4, hx4, -, hk4⟩
        have HX4 := hid hx4
        have HLB4 := hid hb4
        have HV4 := hid hv4
        have HOB4 := hid (hk4 O _ (by have := HLO.out; omega) HOB3.out)
        have HMB4 := hid (hk4 M _ (by have := HLO.out; omega) HMB3.out)
        clear hv4 hb4 hx4 hk4 HX3 HLB3 HOB3 HMB3
        obtain ⟨⟨s0, s1, s2, s3, s4, s5, s6, s7⟩, sf⟩ := blk8 HOB4.out
        have hob5 : (W4.setCell ⟨O, 2, none⟩ (uv a)).heap[O]? = some (.cells #[.int .i64 4, .int .i64 0, uv a, .int .u64 0, .string (str name), .int .u64 0, .int .u64 0, .int .i64 0] 68 (0, 0)) := by simpa using (Go.Joins.block_setCell (i := 2) HOB4.out (uv a))
        have hlb5 : (W4.setCell ⟨O, 2, none⟩ (uv a)).heap[L]? = some (.cells #[u4] 84 (0, 0)) := by rw [heap_setCell_other _ _ _ _ (by dsimp only; have := HLO.out; omega)]; exact HLB4.out
        have hmb5 : (W4.setCell ⟨O, 2, none⟩ (uv a)).heap[M]? = some (.cells #[.int .i64 0, .int .i64 0, .int .u64 0, .int .u64 0, .string ⟨#[]⟩, .int .u64 0, .int .u64 0, .int .i64 0] 68 (0, 0)) := by rw [heap_setCell_other _ _ _ _ (by dsimp only; have := HLO.out; omega)]; exact HMB4.out
        have hx5 : Ext w (W4.setCell ⟨O, 2, none⟩ (uv a)) := (Below.setCell HX4.out HLW.out.2 (uv a))
        obtain ⟨W5, hW5⟩ : ∃ W, (W4.setCell ⟨O, 2, none⟩ (uv a)) = W := ⟨_, rfl⟩
        rw [hW5] at hob5 hlb5 hmb5 hx5
        have HOB5 := hid hob5
        have HLB5 := hid hlb5
        have HMB5 := hid hmb5
        have HX5 := hid hx5
        obtain ⟨⟨y0, y1, y2, y3, y4, y5, y6, y7⟩, yf⟩ := blk8 hob5
        go_wp2_with fail
        try rw [hW5]
        clear hW5 hob5 hlb5 hmb5 hx5 s0 s1 s2 s3 s4 s5 s6 s7 sf y0 y1 y2 y3 y4 y5 y6 y7 yf HOB4 HLB4 HMB4 HX4
        obtain ⟨R, hR⟩ : ∃ R, opRight ⟨4, 0, a, 0, name, 0, 0, 0⟩ = R := ⟨_, rfl⟩
        have HOF : Hid (opOf ⟨4, [a], name⟩ = if R = true then (⟨4, 0, a, 0, name, 0, 0, 0⟩, 0) else (o0, 2)) := hid (by
          have hc : cand ⟨4, [a], name⟩ = ⟨4, 0, a, 0, name, 0, 0, 0⟩ := by simp [cand, hasId]
          unfold opOf
          rw [HRB.out, hc, hR]; rfl)
        have hC := oright_any ⟨4, 0, a, 0, name, 0, 0, 0⟩ W5
        rw [hR] at hC
        have HC := hid hC
        clear hC hR
        refine HC.out.mono ?_
        rintro e W9 ⟨rfl, hx9⟩
        have hob9 := hx9.obj HOB5.out
        have hmb9 := hx9.obj HMB5.out
        have HMB9 := hid hmb9
        have HX9 := hid (HX5.out.trans hx9)
        obtain ⟨⟨s0, s1, s2, s3, s4, s5, s6, s7⟩, sf⟩ := blk8 hob9
        obtain ⟨⟨m0, m1, m2, m3, m4, m5, m6, m7⟩, mf⟩ := blk8 hmb9
        clear hob9 hmb9 hx9 HC
        cases R with
        | false =>
          go_wp2
          refine bodyPost_ret (oof_results _ _ M _ _ _ _ _ _ _ _ rfl (eight HMB9.out (.int .i64 0) (.int .i64 0) (.int .u64 0) (.int .u64 0) (.string ⟨#[]⟩) (.int .u64 0) (.int .u64 0) (.int .i64 0))) rfl ?_
          rw [HOF.out]
          exact ⟨rfl, ext8 HX9.out HM.out _ _ _ _ _ _ _ _⟩
        | true =>
          go_wp2
          refine bodyPost_ret (oof_results _ _ M _ _ _ _ _ _ _ _ rfl (eight HMB9.out (.int .i64 4) (.int .i64 0) (uv a) (.int .u64 0) (.string (str name)) (.int .u64 0) (.int .u64 0) (.int .i64 0))) rfl ?_
          rw [HOF.out]
          exact ⟨rfl, ext8 HX9.out HM.out _ _ _ _ _ _ _ _⟩
      · skip
        have hlen : ln = 2 := by
          have h := HRB.out
          simp only [rightB, Bool.and_eq_true, decide_eq_true_eq] at h
          rw [← HLN.out, h.1.2]; rfl
        subst hlen
        obtain ⟨a, b, rfl⟩ := (len_of.2.2.1 HLN.out)
        clear hk hkn
        go_wp2_with fail
        have hx3 := Ext.alloc W2 (.cells #[.int .i64 5, .int .i64 0, .int .u64 0, .int .u64 0, .string (str name), .int .u64 0, .int .u64 0, .int .i64 0] 68 (0, 0))
        have hl3 := heap_alloc_new W2 (.cells #[.int .i64 5, .int .i64 0, .int .u64 0, .int .u64 0, .string (str name), .int .u64 0, .int .u64 0, .int .i64 0] 68 (0, 0))
        obtain ⟨W3, hW3⟩ : ∃ W, W2.alloc (.cells #[.int .i64 5, .int .i64 0, .int .u64 0, .int .u64 0, .string (str name), .int .u64 0, .int .u64 0, .int .i64 0] 68 (0, 0)) = W := ⟨_, rfl⟩
        rw [hW3] at hx3 hl3
        try rw [hW3]
        have HX3 := hid (HX2.out.trans hx3)
        have HOB3 := hid hl3
        have HLB3 := hid (hx3.obj HLB2.out)
        have HMB3 := hid (hx3.obj HMB2.out)
        clear hW3 hW2 hx3 hl3 c0 c1 c2 d0 d2 e0 HX2 HLB2 HMB2
        obtain ⟨L, hL⟩ : ∃ L, w1.heap.size = L := ⟨_, rfl⟩
        obtain ⟨O, hO⟩ : ∃ O, W2.heap.size = O := ⟨_, rfl⟩
        rw [hL] at HLB3 HLO
        rw [hO] at HOB3 HLO
        try rw [hL]
        try rw [hO]
        clear hL hO
        have HLW : Hid (w.heap.size ≤ L ∧ w.heap.size ≤ O) := hid (by have := HLO.out; have := HM.out; omega)
        refine (onext_any HX3.out L HLW.out.1 a [b] (.slice ao 2 cap) HV.out HLB3.out).mono ?_
        rintro e W4 ⟨rfl, u4, hv4, hb4, hx4, -, hk4⟩
        have HX4 := hid hx4
        have HLB4 := hid hb4
        have HV4 := hid hv4
        have HOB4 := hid (hk4 O _ (by have := HLO.out; omega) HOB3.out)
        have HMB4 := hid (hk4 M _ (by have := HLO.out; omega) HMB3.out)
        clear hv4 hb4 hx4 hk4 HX3 HLB3 HOB3 HMB3
        go_wp2_with fail
        refine (onext_any HX4.out L HLW.out.1 b [] u4 HV4.out HLB4.out).mono ?_
        rintro e W5 ⟨rfl, u5, hv5, hb5, hx5, -, hk5⟩
        have HX5 := hid hx5
        have HLB5 := hid hb5
        have HV5 := hid hv5
        have HOB5 := hid (hk5 O _ (by have := HLO.out; omega) HOB4.out)
        have HMB5 := hid (hk5 M _ (by have := HLO.out; omega) HMB4.out)
        clear hv5 hb5 hx5 hk5 HX4 HLB4 HOB4 HMB4
        obtain ⟨⟨s0, s1, s2, s3, s4, s5, s6, s7⟩, sf⟩ := blk8 HOB5.out
        have hob6 : ((W5.setCell ⟨O, 2, none⟩ (uv a)).setCell ⟨O, 3, none⟩ (uv b)).heap[O]? = some (.cells #[.int .i64 5, .int .i64 0, uv a, uv b, .string (str name), .int .u64 0, .int .u64 0, .int .i64 0] 68 (0, 0)) := by simpa using (Go.Joins.block_setCell (i := 3) (Go.Joins.block_setCell (i := 2) HOB5.out (uv a)) (uv b))
        have hlb6 : ((W5.setCell ⟨O, 2, none⟩ (uv a)).setCell ⟨O, 3, none⟩ (uv b)).heap[L]? = some (.cells #[u5] 84 (0, 0)) := by rw [heap_setCell_other _ _ _ _ (by dsimp only; have := HLO.out; omega), heap_setCell_other _ _ _ _ (by dsimp only; have := HLO.out; omega)]; exact HLB5.out
        have hmb6 : ((W5.setCell ⟨O, 2, none⟩ (uv a)).setCell ⟨O, 3, none⟩ (uv b)).heap[M]? = some (.cells #[.int .i64 0, .int .i64 0, .int .u64 0, .int .u64 0, .string ⟨#[]⟩, .int .u64 0, .int .u64 0, .int .i64 0] 68 (0, 0)) := by rw [heap_setCell_other _ _ _ _ (by dsimp only; have := HLO.out; omega), heap_setCell_other _ _ _ _ (by dsimp only; have := HLO.out; omega)]; exact HMB5.out
        have hx6 : Ext w ((W5.setCell ⟨O, 2, none⟩ (uv a)).setCell ⟨O, 3, none⟩ (uv b)) := (Below.setCell (Below.setCell HX5.out HLW.out.2 (uv a)) HLW.out.2 (uv b))
        obtain ⟨W6, hW6⟩ : ∃ W, ((W5.setCell ⟨O, 2, none⟩ (uv a)).setCell ⟨O, 3, none⟩ (uv b)) = W := ⟨_, rfl⟩
        rw [hW6] at hob6 hlb6 hmb6 hx6
        have HOB6 := hid hob6
        have HLB6 := hid hlb6
        have HMB6 := hid hmb6
        have HX6 := hid hx6
        obtain ⟨⟨y0, y1, y2, y3, y4, y5, y6, y7⟩, yf⟩ := blk8 hob6
        go_wp2_with fail
        try rw [hW6]
        clear hW6 hob6 hlb6 hmb6 hx6 s0 s1 s2 s3 s4 s5 s6 s7 sf y0 y1 y2 y3 y4 y5 y6 y7 yf HOB5 HLB5 HMB5 HX5
        obtain ⟨R, hR⟩ : ∃ R, opRight ⟨5, 0, a, b, name, 0, 0, 0⟩ = R := ⟨_, rfl⟩
        have HOF : Hid (opOf ⟨5, [a, b], name⟩ = if R = true then (⟨5, 0, a, b, name, 0, 0, 0⟩, 0) else (o0, 2)) := hid (by
          have hc : cand ⟨5, [a, b], name⟩ = ⟨5, 0, a, b, name, 0, 0, 0⟩ := by simp [cand, hasId]
          unfold opOf
          rw [HRB.out, hc, hR]; rfl)
        have hC := oright_any ⟨5, 0, a, b, name, 0, 0, 0⟩ W6
        rw [hR] at hC
        have HC := hid hC
        clear hC hR
        refine HC.out.mono ?_
        rintro e W9 ⟨rfl, hx9⟩
        have hob9 := hx9.obj HOB6.out
        have hmb9 := hx9.obj HMB6.out
        have HMB9 := hid hmb9
        have HX9 := hid (HX6.out.trans hx9)
        obtain ⟨⟨s0, s1, s2, s3, s4, s5, s6, s7⟩, sf⟩ := blk8 hob9
        obtain ⟨⟨m0, m1, m2, m3, m4, m5, m6, m7⟩, mf⟩ := blk8 hmb9
        clear hob9 hmb9 hx9 HC
        cases R with
        | false =>
          go_wp2
          refine bodyPost_ret (oof_results _ _ M _ _ _ _ _ _ _ _ rfl (eight HMB9.out (.int .i64 0) (.int .i64 0) (.int .u64 0) (.int .u64 0) (.string ⟨#[]⟩) (.int .u64 0) (.int .u64 0) (.int .i64 0))) rfl ?_
          rw [HOF.out]
          exact ⟨rfl, ext8 HX9.out HM.out _ _ _ _ _ _ _ _⟩
        | true =>
          go_wp2
          refine bodyPost_ret (oof_results _ _ M _ _ _ _ _ _ _ _ rfl (eight HMB9.out (.int .i64 5) (.int .i64 0) (uv a) (uv b) (.string (str name)) (.int .u64 0) (.int .u64 0) (.int .i64 0))) rfl ?_
          rw [HOF.out]
          exact ⟨rfl, ext8 HX9.out HM.out _ _ _ _ _ _ _ _⟩
      · skip
        have hlen : ln = 2 := by
          have h := HRB.out
          simp only [rightB, Bool.and_eq_true, decide_eq_true_eq] at h
          rw [← HLN.out, h.1.2]; rfl
        subst hlen
        obtain ⟨a, b, rfl⟩ := (len_of.2.2.1 HLN.out)
        clear hk hkn
        go_wp2_with fail
        have hx3 := Ext.alloc W2 (.cells #[.int .i64 6, .int .i64 0, .int .u64 0, .int .u64 0, .string (str name), .int .u64 0, .int .u64 0, .int .i64 0] 68 (0, 0))
        have hl3 := heap_alloc_new W2 (.cells #[.int .i64 6, .int .i64 0, .int .u64 0, .int .u64 0, .string (str name), .int .u64 0, .int .u64 0, .int .i64 0] 68 (0, 0))
        obtain ⟨W3, hW3⟩ : ∃ W, W2.alloc (.cells #[.int .i64 6, .int .i64 0, .int .u64 0, .int .u64 0, .string (str name), .int .u64 0, .int .u64 0, .int .i64 0] 68 (0, 0)) = W := ⟨_, rfl⟩
        rw [hW3] at hx3 hl3
        try rw [hW3]
        have HX3 := hid (HX2.out.trans hx3)
        have HOB3 := hid hl3
        have HLB3 := hid (hx3.obj HLB2.out)
        have HMB3 := hid (hx3.obj HMB2.out)
        clear hW3 hW2 hx3 hl3 c0 c1 c2 d0 d2 e0 HX2 HLB2 HMB2
        obtain ⟨L, hL⟩ : ∃ L, w1.heap.size = L := ⟨_, rfl⟩
        obtain ⟨O, hO⟩ : ∃ O, W2.heap.size = O := ⟨_, rfl⟩
        rw [hL] at HLB3 HLO
        rw [hO] at HOB3 HLO
        try rw [hL]
        try rw [hO]
        clear hL hO
        have HLW : Hid (w.heap.size ≤ L ∧ w.heap.size ≤ O) := hid (by have := HLO.out; have := HM.out; omega)
        refine (onext_any HX3.out L HLW.out.1 a [b] (.slice ao 2 cap) HV.out HLB3.out).mono ?_
        rintro e W4 ⟨rfl, u4, hv4, hb4, hx4, -, hk4⟩
        have HX4 := hid hx4
        have HLB4 := hid hb4
        have HV4 := hid hv4
        have HOB4 := hid (hk4 O _ (by have := HLO.out; omega) HOB3.out)
        have HMB4 := hid (hk4 M _ (by have := HLO.out; omega) HMB3.out)
        clear hv4 hb4 hx4 hk4 HX3 HLB3 HOB3 HMB3
        go_wp2_with fail
        refine (onext_any HX4.out L HLW.out.1 b [] u4 HV4.out HLB4.out).mono ?_
        rintro e W5 ⟨rfl, u5, hv5, hb5, hx5, -, hk5⟩
        have HX5 := hid hx5
        have HLB5 := hid hb5
        have HV5 := hid hv5
        have HOB5 := hid (hk5 O _ (by have := HLO.out; omega) HOB4.out)
        have HMB5 := hid (hk5 M _ (by have := HLO.out; omega) HMB4.out)
        clear hv5 hb5 hx5 hk5 HX4 HLB4 HOB4 HMB4
        obtain ⟨⟨s0, s1, s2, s3, s4, s5, s6, s7⟩, sf⟩ := blk8 HOB5.out
        have hob6 : ((W5.setCell ⟨O, 2, none⟩ (uv a)).setCell ⟨O, 3, none⟩ (uv b)).heap[O]? = some (.cells #[.int .i64 6, .int .i64 0, uv a, uv b, .string (str name), .int .u64 0, .int .u64 0, .int .i64 0] 68 (0, 0)) := by simpa using (Go.Joins.block_setCell (i := 3) (Go.Joins.block_setCell (i := 2) HOB5.out (uv a)) (uv b))
        have hlb6 : ((W5.setCell ⟨O, 2, none⟩ (uv a)).setCell ⟨O, 3, none⟩ (uv b)).heap[L]? = some (.cells #[u5] 84 (0, 0)) := by rw [heap_setCell_other _ _ _ _ (by dsimp only; have := HLO.out; omega), heap_setCell_other _ _ _ _ (by dsimp only; have := HLO.out; omega)]; exact HLB5.out
        have hmb6 : ((W5.setCell ⟨O, 2, none⟩ (uv a)).setCell ⟨O, 3, none⟩ (uv b)).heap[M]? = some (.cells #[.int .i64 0, .int .i64 0, .int .u64 0, .int .u64 0, .string ⟨#[]⟩, .int .u64 0, .int .u64 0, .int .i64 0] 68 (0, 0)) := by rw [heap_setCell_other _ _ _ _ (by dsimp only; have := HLO.out; omega), heap_setCell_other _ _ _ _ (by dsimp only; have := HLO.out; omega)]; exact HMB5.out
        have hx6 : Ext w ((W5.setCell ⟨O, 2, none⟩ (uv a)).setCell ⟨O, 3, none⟩ (uv b)) := (Below.setCell (Below.setCell HX5.out HLW.out.2 (uv a)) HLW.out.2 (uv b))
        obtain ⟨W6, hW6⟩ : ∃ W, ((W5.setCell ⟨O, 2, none⟩ (uv a)).setCell ⟨O, 3, none⟩ (uv b)) = W := ⟨_, rfl⟩
        rw [hW6] at hob6 hlb6 hmb6 hx6
        have HOB6 := hid hob6
        have HLB6 := hid hlb6
        have HMB6 := hid hmb6
        have HX6 := hid hx6
        obtain ⟨⟨y0, y1, y2, y3, y4, y5, y6, y7⟩, yf⟩ := blk8 hob6
        go_wp2_with fail
        try rw [hW6]
        clear hW6 hob6 hlb6 hmb6 hx6 s0 s1 s2 s3 s4 s5 s6 s7 sf y0 y1 y2 y3 y4 y5 y6 y7 yf HOB5 HLB5 HMB5 HX5
        obtain ⟨R, hR⟩ : ∃ R, opRight ⟨6, 0, a, b, name, 0, 0, 0⟩ = R := ⟨_, rfl⟩
        have HOF : Hid (opOf ⟨6, [a, b], name⟩ = if R = true then (⟨6, 0, a, b, name, 0, 0, 0⟩, 0) else (o0, 2)) := hid (by
          have hc : cand ⟨6, [a, b], name⟩ = ⟨6, 0, a, b, name, 0, 0, 0⟩ := by simp [cand, hasId]
          unfold opOf
          rw [HRB.out, hc, hR]; rfl)
        have hC := oright_any ⟨6, 0, a, b, name, 0, 0, 0⟩ W6
        rw [hR] at hC
        have HC := hid hC
        clear hC hR
        refine HC.out.mono ?_
        rintro e W9 ⟨rfl, hx9⟩
        have hob9 := hx9.obj HOB6.out
        have hmb9 := hx9.obj HMB6.out
        have HMB9 := hid hmb9
        have HX9 := hid (HX6.out.trans hx9)
        obtain ⟨⟨s0, s1, s2, s3, s4, s5, s6, s7⟩, sf⟩ := blk8 hob9
        obtain ⟨⟨m0, m1, m2, m3, m4, m5, m6, m7⟩, mf⟩ := blk8 hmb9
        clear hob9 hmb9 hx9 HC
        cases R with
        | false =>
          go_wp2
          refine bodyPost_ret (oof_results _ _ M _ _ _ _ _ _ _ _ rfl (eight HMB9.out (.int .i64 0) (.int .i64 0) (.int .u64 0) (.int .u64 0) (.string ⟨#[]⟩) (.int .u64 0) (.int .u64 0) (.int .i64 0))) rfl ?_
          rw [HOF.out]
          exact ⟨rfl, ext8 HX9.out HM.out _ _ _ _ _ _ _ _⟩
        | true =>
          go_wp2
          refine bodyPost_ret (oof_results _ _ M _ _ _ _ _ _ _ _ rfl (eight HMB9.out (.int .i64 6) (.int .i64 0) (uv a) (uv b) (.string (str name)) (.int .u64 0) (.int .u64 0) (.int .i64 0))) rfl ?_
          rw [HOF.out]
          exact ⟨rfl, ext8 HX9.out HM.out _ _ _ _ _ _ _ _⟩
      · skip
        have hlen : ln = 1 := by
          have h := HRB.out
          simp only [rightB, Bool.and_eq_true, decide_eq_true_eq] at h
          rw [← HLN.out, h.1.2]; rfl
        subst hlen
        obtain ⟨a, rfl⟩ := (len_of.2.1 HLN.out)
        clear hk hkn
        go_wp2_with fail
        have hx3 := Ext.alloc W2 (.cells #[.int .i64 7, .int .i64 0, .int .u64 0, .int .u64 0, .string (str name), .int .u64 0, .int .u64 0, .int .i64 0] 68 (0, 0))
        have hl3 := heap_alloc_new W2 (.cells #[.int .i64 7, .int .i64 0, .int .u64 0, .int .u64 0, .string (str name), .int .u64 0, .int .u64 0, .int .i64 0] 68 (0, 0))
        obtain ⟨W3, hW3⟩ : ∃ W, W2.alloc (.cells #[.int .i64 7, .int .i64 0, .int .u64 0, .int .u64 0, .string (str name), .int .u64 0, .int .u64 0, .int .i64 0] 68 (0, 0)) = W := ⟨_, rfl⟩
        rw [hW3] at hx3 hl3
        try rw [hW3]
        have HX3 := hid (HX2.out.trans hx3)
        have HOB3 := hid hl3
        have HLB3 := hid (hx3.obj HLB2.out)
        have HMB3 := hid (hx3.obj HMB2.out)
        clear hW3 hW2 hx3 hl3 c0 c1 c2 d0 d2 e0 HX2 HLB2 HMB2
        obtain ⟨L, hL⟩ : ∃ L, w1.heap.size = L := ⟨_, rfl⟩
        obtain ⟨O, hO⟩ : ∃ O, W2.heap.size = O := ⟨_, rfl⟩
        rw [hL] at HLB3 HLO
        rw [hO] at HOB3 HLO
        try rw [hL]
        try rw [hO]
        clear hL hO
        have HLW : Hid (w.heap.size ≤ L ∧ w.heap.size ≤ O) := hid (by have := HLO.out; have := HM.out; omega)
        refine (onext_any HX3.out L HLW.out.1 a [] (.slice ao 1 cap) HV.out HLB3.out).mono ?_
        rintro e W4 ⟨rfl, u4, hv4, hb4, hx4, -, hk4⟩
        have HX4 := hid hx4
        have HLB4 := hid hb4
        have HV4 := hid hv4
        have HOB4 := hid (hk4 O _ (by have := HLO.out; omega) HOB3.out)
        have HMB4 := hid (hk4 M _ (by have := HLO.out; omega) HMB3.out)
        clear hv4 hb4 hx4 hk4 HX3 HLB3 HOB3 HMB3
        obtain ⟨⟨s0, s1, s2, s3, s4, s5, s6, s7⟩, sf⟩ := blk8 HOB4.out
        have hob5 : (W4.setCell ⟨O, 3, none⟩ (uv a)).heap[O]? = some (.cells #[.int .i64 7, .int .i64 0, .int .u64 0, uv a, .string (str name), .int .u64 0, .int .u64 0, .int .i64 0] 68 (0, 0)) := by simpa using (Go.Joins.block_setCell (i := 3) HOB4.out (uv a))
        have hlb5 : (W4.setCell ⟨O, 3, none⟩ (uv a)).heap[L]? = some (.cells #[u4] 84 (0, 0)) := by rw [heap_setCell_other _ _ _ _ (by dsimp only; have := HLO.out; omega)]; exact HLB4.out
        have hmb5 : (W4.setCell ⟨O, 3, none⟩ (uv a)).heap[M]? = some (.cells #[.int .i64 0, .int .i64 0, .int .u64 0, .int .u64 0, .string ⟨#[]⟩, .int .u64 0, .int .u64 0, .int .i64 0] 68 (0, 0)) := by rw [heap_setCell_other _ _ _ _ (by dsimp only; have := HLO.out; omega)]; exact HMB4.out
        have hx5 : Ext w (W4.setCell ⟨O, 3, none⟩ (uv a)) := (Below.setCell HX4.out HLW.out.2 (uv a))
        obtain ⟨W5, hW5⟩ : ∃ W, (W4.setCell ⟨O, 3, none⟩ (uv a)) = W := ⟨_, rfl⟩
        rw [hW5] at hob5 hlb5 hmb5 hx5
        have HOB5 := hid hob5
        have HLB5 := hid hlb5
        have HMB5 := hid hmb5
        have HX5 := hid hx5
        obtain ⟨⟨y0, y1, y2, y3, y4, y5, y6, y7⟩, yf⟩ := blk8 hob5
        go_wp2_with fail
        try rw [hW5]
        clear hW5 hob5 hlb5 hmb5 hx5 s0 s1 s2 s3 s4 s5 s6 s7 sf y0 y1 y2 y3 y4 y5 y6 y7 yf HOB4 HLB4 HMB4 HX4
        obtain ⟨R, hR⟩ : ∃ R, opRight ⟨7, 0, 0, a, name, 0, 0, 0⟩ = R := ⟨_, rfl⟩
        have HOF : Hid (opOf ⟨7, [a], name⟩ = if R = true then (⟨7, 0, 0, a, name, 0, 0, 0⟩, 0) else (o0, 2)) := hid (by
          have hc : cand ⟨7, [a], name⟩ = ⟨7, 0, 0, a, name, 0, 0, 0⟩ := by simp [cand, hasId]
          unfold opOf
          rw [HRB.out, hc, hR]; rfl)
        have hC := oright_any ⟨7, 0, 0, a, name, 0, 0, 0⟩ W5
        rw [hR] at hC
        have HC := hid hC
        clear hC hR
        refine HC.out.mono ?_
        rintro e W9 ⟨rfl, hx9⟩
        have hob9 := hx9.obj HOB5.out
        have hmb9 := hx9.obj HMB5.out
        have HMB9 := hid hmb9
        have HX9 := hid (HX5.out.trans hx9)
        obtain ⟨⟨s0, s1, s2, s3, s4, s5, s6, s7⟩, sf⟩ := blk8 hob9
        obtain ⟨⟨m0, m1, m2, m3, m4, m5, m6, m7⟩, mf⟩ := blk8 hmb9
        clear hob9 hmb9 hx9 HC
        cases R with
        | false =>
          go_wp2
          refine bodyPost_ret (oof_results _ _ M _ _ _ _ _ _ _ _ rfl (eight HMB9.out (.int .i64 0) (.int .i64 0) (.int .u64 0) (.int .u64 0) (.string ⟨#[]⟩) (.int .u64 0) (.int .u64 0) (.int .i64 0))) rfl ?_
          rw [HOF.out]
          exact ⟨rfl, ext8 HX9.out HM.out _ _ _ _ _ _ _ _⟩
        | true =>
          go_wp2
          refine bodyPost_ret (oof_results _ _ M _ _ _ _ _ _ _ _ rfl (eight HMB9.out (.int .i64 7) (.int .i64 0) (.int .u64 0) (uv a) (.string (str name)) (.int .u64 0) (.int .u64 0) (.int .i64 0))) rfl ?_
          rw [HOF.out]
          exact ⟨rfl, ext8 HX9.out HM.out _ _ _ _ _ _ _ _⟩
      · skip
        have hlen : ln = 1 := by
          have h := HRB.out
          simp only [rightB, Bool.and_eq_true, decide_eq_true_eq] at h
          rw [← HLN.out, h.1.2]; rfl
        subst hlen
        obtain ⟨a, rfl⟩ := (len_of.2.1 HLN.out)
        clear hk hkn
        go_wp2_with fail
        have hx3 := Ext.alloc W2 (.cells #[.int .i64 8, .int .i64 0, .int .u64 0, .int .u64 0, .string (str name), .int .u64 0, .int .u64 0, .int .i64 0] 68 (0, 0))
        have hl3 := heap_alloc_new W2 (.cells #[.int .i64 8, .int .i64 0, .int .u64 0, .int .u64 0, .string (str name), .int .u64 0, .int .u64 0, .int .i64 0] 68 (0, 0))
        obtain ⟨W3, hW3⟩ : ∃ W, W2.alloc (.cells #[.int .i64 8, .int .i64 0, .int .u64 0, .int .u64 0, .string (str name), .int .u64 0, .int .u64 0, .int .i64 0] 68 (0, 0)) = W := ⟨_, rfl⟩
        rw [hW3] at hx3 hl3
        try rw [hW3]
        have HX3 := hid (HX2.out.trans hx3)
        have HOB3 := hid hl3
        have HLB3 := hid (hx3.obj HLB2.out)
        have HMB3 := hid (hx3.obj HMB2.out)
        clear hW3 hW2 hx3 hl3 c0 c1 c2 d0 d2 e0 HX2 HLB2 HMB2
        obtain ⟨L, hL⟩ : ∃ L, w1.heap.size = L := ⟨_, rfl⟩
        obtain ⟨O, hO⟩ : ∃ O, W2.heap.size = O := ⟨_, rfl⟩
        rw [hL] at HLB3 HLO
        rw [hO] at HOB3 HLO
        try rw [hL]
        try rw [hO]
        clear hL hO
        have HLW : Hid (w.heap.size ≤ L ∧ w.heap.size ≤ O) := hid (by have := HLO.out; have := HM.out; omega)
        refine (onext_any HX3.out L HLW.out.1 a [] (.slice ao 1 cap) HV.out HLB3.out).mono ?_
        rintro e W4 ⟨rfl, u4, hv4, hb4, hx4, -, hk4⟩
        have HX4 := hid hx4
        have HLB4 := hid hb4
        have HV4 := hid hv4
        have HOB4 := hid (hk4 O _ (by have := HLO.out; omega) HOB3.out)
        have HMB4 := hid (hk4 M _ (by have := HLO.out; omega) HMB3.out)
        clear hv4 hb4 hx4 hk4 HX3 HLB3 HOB3 HMB3
        obtain ⟨⟨s0, s1, s2, s3, s4, s5, s6, s7⟩, sf⟩ := blk8 HOB4.out
        have hob5 : (W4.setCell ⟨O, 2, none⟩ (uv a)).heap[O]? = some (.cells #[.int .i64 8, .int .i64 0, uv a, .int .u64 0, .string (str name), .int .u64 0, .int .u64 0, .int .i64 0] 68 (0, 0)) := by simpa using (Go.Joins.block_setCell (i := 2) HOB4.out (uv a))
        have hlb5 : (W4.setCell ⟨O, 2, none⟩ (uv a)).heap[L]? = some (.cells #[u4] 84 (0, 0)) := by rw [heap_setCell_other _ _ _ _ (by dsimp only; have := HLO.out; omega)]; exact HLB4.out
        have hmb5 : (W4.setCell ⟨O, 2, none⟩ (uv a)).heap[M]? = some (.cells #[.int .i64 0, .int .i64 0, .int .u64 0, .int .u64 0, .string ⟨#[]⟩, .int .u64 0, .int .u64 0, .int .i64 0] 68 (0, 0)) := by rw [heap_setCell_other _ _ _ _ (by dsimp only; have := HLO.out; omega)]; exact HMB4.out
        have hx5 : Ext w (W4.setCell ⟨O, 2, none⟩ (uv a)) := (Below.setCell HX4.out HLW.out.2 (uv a))
        obtain ⟨W5, hW5⟩ : ∃ W, (W4.setCell ⟨O, 2, none⟩ (uv a)) = W := ⟨_, rfl⟩
        rw [hW5] at hob5 hlb5 hmb5 hx5
        have HOB5 := hid hob5
        have HLB5 := hid hlb5
        have HMB5 := hid hmb5
        have HX5 := hid hx5
        obtain ⟨⟨y0, y1, y2, y3, y4, y5, y6, y7⟩, yf⟩ := blk8 hob5
        go_wp2_with fail
        try rw [hW5]
        clear hW5 hob5 hlb5 hmb5 hx5 s0 s1 s2 s3 s4 s5 s6 s7 sf y0 y1 y2 y3 y4 y5 y6 y7 yf HOB4 HLB4 HMB4 HX4
        obtain ⟨R, hR⟩ : ∃ R, opRight ⟨8, 0, a, 0, name, 0, 0, 0⟩ = R := ⟨_, rfl⟩
        have HOF : Hid (opOf ⟨8, [a], name⟩ = if R = true then (⟨8, 0, a, 0, name, 0, 0, 0⟩, 0) else (o0, 2)) := hid (by
          have hc : cand ⟨8, [a], name⟩ = ⟨8, 0, a, 0, name, 0, 0, 0⟩ := by simp [cand, hasId]
          unfold opOf
          rw [HRB.out, hc, hR]; rfl)
        have hC := oright_any ⟨8, 0, a, 0, name, 0, 0, 0⟩ W5
        rw [hR] at hC
        have HC := hid hC
        clear hC hR
        refine HC.out.mono ?_
        rintro e W9 ⟨rfl, hx9⟩
        have hob9 := hx9.obj HOB5.out
        have hmb9 := hx9.obj HMB5.out
        have HMB9 := hid hmb9
        have HX9 := hid (HX5.out.trans hx9)
        obtain ⟨⟨s0, s1, s2, s3, s4, s5, s6, s7⟩, sf⟩ := blk8 hob9
        obtain ⟨⟨m0, m1, m2, m3, m4, m5, m6, m7⟩, mf⟩ := blk8 hmb9
        clear hob9 hmb9 hx9 HC
        cases R with
        | false =>
          go_wp2
          refine bodyPost_ret (oof_results _ _ M _ _ _ _ _ _ _ _ rfl (eight HMB9.out (.int .i64 0) (.int .i64 0) (.int .u64 0) (.int .u64 0) (.string ⟨#[]⟩) (.int .u64 0) (.int .u64 0) (.int .i64 0))) rfl ?_
          rw [HOF.out]
          exact ⟨rfl, ext8 HX9.out HM.out _ _ _ _ _ _ _ _⟩
        | true =>
          go_wp2
          refine bodyPost_ret (oof_results _ _ M _ _ _ _ _ _ _ _ rfl (eight HMB9.out (.int .i64 8) (.int .i64 0) (uv a) (.int .u64 0) (.string (str name)) (.int .u64 0) (.int .u64 0) (.int .i64 0))) rfl ?_
          rw [HOF.out]
          exact ⟨rfl, ext8 HX9.out HM.out _ _ _ _ _ _ _ _⟩
      · skip
        have hlen : ln = 1 := by
          have h := HRB.out
          simp only [rightB, Bool.and_eq_true, decide_eq_true_eq] at h
          rw [← HLN.out, h.1.2]; rfl
        subst hlen
        obtain ⟨a, rfl⟩ := (len_of.2.1 HLN.out)
        clear hk hkn
        go_wp2_with fail
        have hx3 := Ext.alloc W2 (.cells #[.int .i64 9, .int .i64 0, .int .u64 0, .int .u64 0, .string (str name), .int .u64 0, .int .u64 0, .int .i64 0] 68 (0, 0))
        have hl3 := heap_alloc_new W2 (.cells #[.int .i64 9, .int .i64 0, .int .u64 0, .int .u64 0, .string (str name), .int .u64 0, .int .u64 0, .int .i64 0] 68 (0, 0))
        obtain ⟨W3, hW3⟩ : ∃ W, W2.alloc (.cells #[.int .i64 9, .int .i64 0, .int .u64 0, .int .u64 0, .string (str name), .int .u64 0, .int .u64 0, .int .i64 0] 68 (0, 0)) = W := ⟨_, rfl⟩
        rw [hW3] at hx3 hl3
        try rw [hW3]
        have HX3 := hid (HX2.out.trans hx3)
        have HOB3 := hid hl3
        have HLB3 := hid (hx3.obj HLB2.out)
        have HMB3 := hid (hx3.obj HMB2.out)
        clear hW3 hW2 hx3 hl3 c0 c1 c2 d0 d2 e0 HX2 HLB2 HMB2
        obtain ⟨L, hL⟩ : ∃ L, w1.heap.size = L := ⟨_, rfl⟩
        obtain ⟨O, hO⟩ : ∃ O, W2.heap.size = O := ⟨_, rfl⟩
        rw [hL] at HLB3 HLO
        rw [hO] at HOB3 HLO
        try rw [hL]
        try rw [hO]
        clear hL hO
        have HLW : Hid (w.heap.size ≤ L ∧ w.heap.size ≤ O) := hid (by have := HLO.out; have := HM.out; omega)
        refine (onext_any HX3.out L HLW.out.1 a [] (.slice ao 1 cap) HV.out HLB3.out).mono ?_
        rintro e W4 ⟨rfl, u4, hv4, hb4, hx4, -, hk4⟩
        have HX4 := hid hx4
        have HLB4 := hid hb4
        have HV4 := hid hv4
        have HOB4 := hid (hk4 O _ (by have := HLO.out; omega) HOB3.out)
        have HMB4 := hid (hk4 M _ (by have := HLO.out; omega) HMB3.out)
        clear hv4 hb4 hx4 hk4 HX3 HLB3 HOB3 HMB3
        obtain ⟨⟨s0, s1, s2, s3, s4, s5, s6, s7⟩, sf⟩ := blk8 HOB4.out
        have hob5 : (W4.setCell ⟨O, 2, none⟩ (uv a)).heap[O]? = some (.cells #[.int .i64 9, .int .i64 0, uv a, .int .u64 0, .string (str name), .int .u64 0, .int .u64 0, .int .i64 0] 68 (0, 0)) := by simpa using (Go.Joins.block_setCell (i := 2) HOB4.out (uv a))
        have hlb5 : (W4.setCell ⟨O, 2, none⟩ (uv a)).heap[L]? = some (.cells #[u4] 84 (0, 0)) := by rw [heap_setCell_other _ _ _ _ (by dsimp only; have := HLO.out; omega)]; exact HLB4.out
        have hmb5 : (W4.setCell ⟨O, 2, none⟩ (uv a)).heap[M]? = some (.cells #[.int .i64 0, .int .i64 0, .int .u64 0, .int .u64 0, .string ⟨#[]⟩, .int .u64 0, .int .u64 0, .int .i64 0] 68 (0, 0)) := by rw [heap_setCell_other _ _ _ _ (by dsimp only; have := HLO.out; omega)]; exact HMB4.out
        have hx5 : Ext w (W4.setCell ⟨O, 2, none⟩ (uv a)) := (Below.setCell HX4.out HLW.out.2 (uv a))
        obtain ⟨W5, hW5⟩ : ∃ W, (W4.setCell ⟨O, 2, none⟩ (uv a)) = W := ⟨_, rfl⟩
        rw [hW5] at hob5 hlb5 hmb5 hx5
        have HOB5 := hid hob5
        have HLB5 := hid hlb5
        have HMB5 := hid hmb5
        have HX5 := hid hx5
        obtain ⟨⟨y0, y1, y2, y3, y4, y5, y6, y7⟩, yf⟩ := blk8 hob5
        go_wp2_with fail
        try rw [hW5]
        clear hW5 hob5 hlb5 hmb5 hx5 s0 s1 s2 s3 s4 s5 s6 s7 sf y0 y1 y2 y3 y4 y5 y6 y7 yf HOB4 HLB4 HMB4 HX4
        obtain ⟨R, hR⟩ : ∃ R, opRight ⟨9, 0, a, 0, name, 0, 0, 0⟩ = R := ⟨_, rfl⟩
        have HOF : Hid (opOf ⟨9, [a], name⟩ = if R = true then (⟨9, 0, a, 0, name, 0, 0, 0⟩, 0) else (o0, 2)) := hid (by
          have hc : cand ⟨9, [a], name⟩ = ⟨9, 0, a, 0, name, 0, 0, 0⟩ := by simp [cand, hasId]
          unfold opOf
          rw [HRB.out, hc, hR]; rfl)
        have hC := oright_any ⟨9, 0, a, 0, name, 0, 0, 0⟩ W5
        rw [hR] at hC
        have HC := hid hC
        clear hC hR
        refine HC.out.mono ?_
        rintro e W9 ⟨rfl, hx9⟩
        have hob9 := hx9.obj HOB5.out
        have hmb9 := hx9.obj HMB5.out
        have HMB9 := hid hmb9
        have HX9 := hid (HX5.out.trans hx9)
        obtain ⟨⟨s0, s1, s2, s3, s4, s5, s6, s7⟩, sf⟩ := blk8 hob9
        obtain ⟨⟨m0, m1, m2, m3, m4, m5, m6, m7⟩, mf⟩ := blk8 hmb9
        clear hob9 hmb9 hx9 HC
        cases R with
        | false =>
          go_wp2
          refine bodyPost_ret (oof_results _ _ M _ _ _ _ _ _ _ _ rfl (eight HMB9.out (.int .i64 0) (.int .i64 0) (.int .u64 0) (.int .u64 0) (.string ⟨#[]⟩) (.int .u64 0) (.int .u64 0) (.int .i64 0))) rfl ?_
          rw [HOF.out]
          exact ⟨rfl, ext8 HX9.out HM.out _ _ _ _ _ _ _ _⟩
        | true =>
          go_wp2
          refine bodyPost_ret (oof_results _ _ M _ _ _ _ _ _ _ _ rfl (eight HMB9.out (.int .i64 9) (.int .i64 0) (uv a) (.int .u64 0) (.string (str name)) (.int .u64 0) (.int .u64 0) (.int .i64 0))) rfl ?_
          rw [HOF.out]
          exact ⟨rfl, ext8 HX9.out HM.out _ _ _ _ _ _ _ _⟩
      · skip
        have hlen : ln = 1 := by
          have h := HRB.out
          simp only [rightB, Bool.and_eq_true, decide_eq_true_eq] at h
          rw [← HLN.out, h.1.2]; rfl
        subst hlen
        obtain ⟨a, rfl⟩ := (len_of.2.1 HLN.out)
        clear hk hkn
        go_wp2_with fail
        have hx3 := Ext.alloc W2 (.cells #[.int .i64 10, .int .i64 0, .int .u64 0, .int .u64 0, .string (str name), .int .u64 0, .int .u64 0, .int .i64 0] 68 (0, 0))
        have hl3 := heap_alloc_new W2 (.cells #[.int .i64 10, .int .i64 0, .int .u64 0, .int .u64 0, .string (str name), .int .u64 0, .int .u64 0, .int .i64 0] 68 (0, 0))
        obtain ⟨W3, hW3⟩ : ∃ W, W2.alloc (.cells #[.int .i64 10, .int .i64 0, .int .u64 0, .int .u64 0, .string (str name), .int .u64 0, .int .u64 0, .int .i64 0] 68 (0, 0)) = W := ⟨_, rfl⟩
        rw [hW3] at hx3 hl3
        try rw [hW3]
        have HX3 := hid (HX2.out.trans hx3)
        have HOB3 := hid hl3
        have HLB3 := hid (hx3.obj HLB2.out)
        have HMB3 := hid (hx3.obj HMB2.out)
        clear hW3 hW2 hx3 hl3 c0 c1 c2 d0 d2 e0 HX2 HLB2 HMB2
        obtain ⟨L, hL⟩ : ∃ L, w1.heap.size = L := ⟨_, rfl⟩
        obtain ⟨O, hO⟩ : ∃ O, W2.heap.size = O := ⟨_, rfl⟩
        rw [hL] at HLB3 HLO
        rw [hO] at HOB3 HLO
        try rw [hL]
        try rw [hO]
        clear hL hO
        have HLW : Hid (w.heap.size ≤ L ∧ w.heap.size ≤ O) := hid (by have := HLO.out; have := HM.out; omega)
        refine (onext_any HX3.out L HLW.out.1 a [] (.slice ao 1 cap) HV.out HLB3.out).mono ?_
        rintro e W4 ⟨rfl, u4, hv4, hb4, hx4, -, hk4⟩
        have HX4 := hid hx4
        have HLB4 := hid hb4
        have HV4 := hid hv4
        have HOB4 := hid (hk4 O _ (by have := HLO.out; omega) HOB3.out)
        have HMB4 := hid (hk4 M _ (by have := HLO.out; omega) HMB3.out)
        clear hv4 hb4 hx4 hk4 HX3 HLB3 HOB3 HMB3
        obtain ⟨⟨s0, s1, s2, s3, s4, s5, s6, s7⟩, sf⟩ := blk8 HOB4.out
        have hob5 : (W4.setCell ⟨O, 3, none⟩ (uv a)).heap[O]? = some (.cells #[.int .i64 10, .int .i64 0, .int .u64 0, uv a, .string (str name), .int .u64 0, .int .u64 0, .int .i64 0] 68 (0, 0)) := by simpa using (Go.Joins.block_setCell (i := 3) HOB4.out (uv a))
        have hlb5 : (W4.setCell ⟨O, 3, none⟩ (uv a)).heap[L]? = some (.cells #[u4] 84 (0, 0)) := by rw [heap_setCell_other _ _ _ _ (by dsimp only; have := HLO.out; omega)]; exact HLB4.out
        have hmb5 : (W4.setCell ⟨O, 3, none⟩ (uv a)).heap[M]? = some (.cells #[.int .i64 0, .int .i64 0, .int .u64 0, .int .u64 0, .string ⟨#[]⟩, .int .u64 0, .int .u64 0, .int .i64 0] 68 (0, 0)) := by rw [heap_setCell_other _ _ _ _ (by dsimp only; have := HLO.out; omega)]; exact HMB4.out
        have hx5 : Ext w (W4.setCell ⟨O, 3, none⟩ (uv a)) := (Below.setCell HX4.out HLW.out.2 (uv a))
        obtain ⟨W5, hW5⟩ : ∃ W, (W4.setCell ⟨O, 3, none⟩ (uv a)) = W := ⟨_, rfl⟩
        rw [hW5] at hob5 hlb5 hmb5 hx5
        have HOB5 := hid hob5
        have HLB5 := hid hlb5
        have HMB5 := hid hmb5
        have HX5 := hid hx5
        obtain ⟨⟨y0, y1, y2, y3, y4, y5, y6, y7⟩, yf⟩ := blk8 hob5
        go_wp2_with fail
        try rw [hW5]
        clear hW5 hob5 hlb5 hmb5 hx5 s0 s1 s2 s3 s4 s5 s6 s7 sf y0 y1 y2 y3 y4 y5 y6 y7 yf HOB4 HLB4 HMB4 HX4
        obtain ⟨R, hR⟩ : ∃ R, opRight ⟨10, 0, 0, a, name, 0, 0, 0⟩ = R := ⟨_, rfl⟩
        have HOF : Hid (opOf ⟨10, [a], name⟩ = if R = true then (⟨10, 0, 0, a, name, 0, 0, 0⟩, 0) else (o0, 2)) := hid (by
          have hc : cand ⟨10, [a], name⟩ = ⟨10, 0, 0, a, name, 0, 0, 0⟩ := by simp [cand, hasId]
          unfold opOf
          rw [HRB.out, hc, hR]; rfl)
        have hC := oright_any ⟨10, 0, 0, a, name, 0, 0, 0⟩ W5
        rw [hR] at hC
        have HC := hid hC
        clear hC hR
        refine HC.out.mono ?_
        rintro e W9 ⟨rfl, hx9⟩
        have hob9 := hx9.obj HOB5.out
        have hmb9 := hx9.obj HMB5.out
        have HMB9 := hid hmb9
        have HX9 := hid (HX5.out.trans hx9)
        obtain ⟨⟨s0, s1, s2, s3, s4, s5, s6, s7⟩, sf⟩ := blk8 hob9
        obtain ⟨⟨m0, m1, m2, m3, m4, m5, m6, m7⟩, mf⟩ := blk8 hmb9
        clear hob9 hmb9 hx9 HC
        cases R with
        | false =>
          go_wp2
          refine bodyPost_ret (oof_results _ _ M _ _ _ _ _ _ _ _ rfl (eight HMB9.out (.int .i64 0) (.int .i64 0) (.int .u64 0) (.int .u64 0) (.string ⟨#[]⟩) (.int .u64 0) (.int .u64 0) (.int .i64 0))) rfl ?_
          rw [HOF.out]
          exact ⟨rfl, ext8 HX9.out HM.out _ _ _ _ _ _ _ _⟩
        | true =>
          go_wp2
          refine bodyPost_ret (oof_results _ _ M _ _ _ _ _ _ _ _ rfl (eight HMB9.out (.int .i64 10) (.int .i64 0) (.int .u64 0) (uv a) (.string (str name)) (.int .u64 0) (.int .u64 0) (.int .i64 0))) rfl ?_
          rw [HOF.out]
          exact ⟨rfl, ext8 HX9.out HM.out _ _ _ _ _ _ _ _⟩
    · skip
      have f1 : (k == 1) = false := by rw [beq_eq_false_iff_ne]; intro e; exact hk (by omega)
      have f2 : (k == 2) = false := by rw [beq_eq_false_iff_ne]; intro e; exact hk (by omega)
      have f3 : (k == 3) = false := by rw [beq_eq_false_iff_ne]; intro e; exact hk (by omega)
      have f4 : (k == 4) = false := by rw [beq_eq_false_iff_ne]; intro e; exact hk (by omega)
      have f5 : (k == 5) = false := by rw [beq_eq_false_iff_ne]; intro e; exact hk (by omega)
      have f6 : (k == 6) = false := by rw [beq_eq_false_iff_ne]; intro e; exact hk (by omega)
      have f7 : (k == 7) = false := by rw [beq_eq_false_iff_ne]; intro e; exact hk (by omega)
      have f8 : (k == 8) = false := by rw [beq_eq_false_iff_ne]; intro e; exact hk (by omega)
      have f9 : (k == 9) = false := by rw [beq_eq_false_iff_ne]; intro e; exact hk (by omega)
      have f10 : (k == 10) = false := by rw [beq_eq_false_iff_ne]; intro e; exact hk (by omega)
      have hbad : ∀ a b c d e f g, opRight ⟨k, a, b, c, d, e, f, g⟩ = false := fun a b c d e f g => opRight_no hk
      have HOF0 : Hid (opOf ⟨k, n, name⟩ = (o0, 2)) := hid (by unfold opOf cand; rw [hbad]; simp)
      clear hk hkn
      go_wp2_with fail
      have hx3 := Ext.alloc W2 (.cells #[.int .i64 k, .int .i64 0, .int .u64 0, .int .u64 0, .string (str name), .int .u64 0, .int .u64 0, .int .i64 0] 68 (0, 0))
      have hl3 := heap_alloc_new W2 (.cells #[.int .i64 k, .int .i64 0, .int .u64 0, .int .u64 0, .string (str name), .int .u64 0, .int .u64 0, .int .i64 0] 68 (0, 0))
      obtain ⟨W3, hW3⟩ : ∃ W, W2.alloc (.cells #[.int .i64 k, .int .i64 0, .int .u64 0, .int .u64 0, .string (str name), .int .u64 0, .int .u64 0, .int .i64 0] 68 (0, 0)) = W := ⟨_, rfl⟩
      rw [hW3] at hx3 hl3
      try rw [hW3]
      have HX3 := hid (HX2.out.trans hx3)
      have HOB3 := hid hl3
      have HLB3 := hid (hx3.obj HLB2.out)
      have HMB3 := hid (hx3.obj HMB2.out)
      clear hW3 hW2 hx3 hl3 c0 c1 c2 d0 d2 e0 HX2 HLB2 HMB2
      obtain ⟨L, hL⟩ : ∃ L, w1.heap.size = L := ⟨_, rfl⟩
      obtain ⟨O, hO⟩ : ∃ O, W2.heap.size = O := ⟨_, rfl⟩
      rw [hL] at HLB3 HLO
      rw [hO] at HOB3 HLO
      try rw [hL]
      try rw [hO]
      clear hL hO
      have HLW : Hid (w.heap.size ≤ L ∧ w.heap.size ≤ O) := hid (by have := HLO.out; have := HM.out; omega)
      clear f1 f2 f3 f4 f5 f6 f7 f8 f9 f10
      have hC := oright_any ⟨k, 0, 0, 0, name, 0, 0, 0⟩ W3
      rw [hbad] at hC
      have HC := hid hC
      clear hC hbad
      refine HC.out.mono ?_
      rintro e W9 ⟨rfl, hx9⟩
      have hmb9 := hx9.obj HMB3.out
      have HMB9 := hid hmb9
      have HX9 := hid (HX3.out.trans hx9)
      obtain ⟨⟨m0, m1, m2, m3, m4, m5, m6, m7⟩, mf⟩ := blk8 hmb9
      clear hmb9 hx9 HC
      go_wp2
      refine bodyPost_ret (oof_results _ _ M _ _ _ _ _ _ _ _ rfl (eight HMB9.out (.int .i64 0) (.int .i64 0) (.int .u64 0) (.int .u64 0) (.string ⟨#[]⟩) (.int .u64 0) (.int .u64 0) (.int .i64 0))) rfl ?_
      rw [HOF0.out]
      exact ⟨rfl, ext8 HX9.out HM.out _ _ _ _ _ _ _ _⟩
end Go.Proofs.YtinancnlangkjaaGreatDoor

