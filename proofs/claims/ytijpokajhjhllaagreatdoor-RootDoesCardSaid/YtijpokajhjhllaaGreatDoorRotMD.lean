/- The root: Read, where there is none, and where there is a right one. -/
import Derived.Test.YtijpokajhjhllaaGreatDoorDskMK
import Derived.Test.YtijpokajhjhllaaGreatDoorRgC
set_option linter.unusedSimpArgs false
set_option linter.unusedVariables false
set_option maxRecDepth 100000
namespace Go.Proofs.YtijpokajhjhllaaGreatDoor
open Go Go.RowKit Go.Tum Go.ChangeMaps Go.Tum.Crc
open Go.ParB (upd Lof)
open Go.ParE (putS slotsR slots Closed)

theorem rread_results (tmps : Array Value) (w : World) (B : Nat) (v0 v1 v2 v3 v4 : Value) (h2 : tmps.getD 2 undef = .pointer (some ⟨B, 0, none⟩)) (m : w.heap[B]? = some (.cells #[v0, v1, v2, v3, v4] 35 (0, 0))) :
    (results Tryz.f10 tmps).run Tryz.prog w = .ok (.tuple #[.agg #[v0, v1, v2, v3, v4], tmps.getD 3 undef]) w := by
  have h2' : tmps[2]?.getD undef = .pointer (some ⟨B, 0, none⟩) := by simpa using h2
  have m0 : w.cell? ⟨B, 0, none⟩ = some v0 := by rw [cell_of_row _ _ _ _ _ _ m]; rfl
  have m1 : w.cell? ⟨B, 1, none⟩ = some v1 := by rw [cell_of_row _ _ _ _ _ _ m]; rfl
  have m2 : w.cell? ⟨B, 2, none⟩ = some v2 := by rw [cell_of_row _ _ _ _ _ _ m]; rfl
  have m3 : w.cell? ⟨B, 3, none⟩ = some v3 := by rw [cell_of_row _ _ _ _ _ _ m]; rfl
  have m4 : w.cell? ⟨B, 4, none⟩ = some v4 := by rw [cell_of_row _ _ _ _ _ _ m]; rfl
  simp [results, Tryz.results10, go_sem, h2', m0, m1, m2, m3, m4]
theorem blk5 {w : World} {b : Nat} {v0 v1 v2 v3 v4 : Value} {ty : TypeId} (h : w.heap[b]? = some (.cells #[v0, v1, v2, v3, v4] ty (0, 0))) :
    w.cell? ⟨b, 0, none⟩ = some v0 ∧ w.cell? ⟨b, 1, none⟩ = some v1 ∧ w.cell? ⟨b, 2, none⟩ = some v2 ∧ w.cell? ⟨b, 3, none⟩ = some v3 ∧ w.cell? ⟨b, 4, none⟩ = some v4 ∧ ∀ i, w.frozen? ⟨b, i, none⟩ = false := by
  refine ⟨by rw [cell_of_row _ _ _ _ _ _ h]; rfl, by rw [cell_of_row _ _ _ _ _ _ h]; rfl, by rw [cell_of_row _ _ _ _ _ _ h]; rfl, by rw [cell_of_row _ _ _ _ _ _ h]; rfl, by rw [cell_of_row _ _ _ _ _ _ h]; rfl, fun i => by simp [World.frozen?, h]⟩
/-- Five cells set, one by one. -/
theorem set5 {w : World} {b : Nat} {v0 v1 v2 v3 v4 : Value} {ty : TypeId} (h : w.heap[b]? = some (.cells #[v0, v1, v2, v3, v4] ty (0, 0))) (u0 u1 u2 u3 u4 : Value) :
    (((((w.setCell ⟨b, 0, none⟩ u0).setCell ⟨b, 1, none⟩ u1).setCell ⟨b, 2, none⟩ u2).setCell ⟨b, 3, none⟩ u3).setCell ⟨b, 4, none⟩ u4).heap[b]? = some (.cells #[u0, u1, u2, u3, u4] ty (0, 0)) := by
  have h1 := Go.Joins.block_setCell (i := 4) (Go.Joins.block_setCell (i := 3) (Go.Joins.block_setCell (i := 2) (Go.Joins.block_setCell (i := 1) (Go.Joins.block_setCell (i := 0) h u0) u1) u2) u3) u4
  simpa using h1
theorem ext5 {w0 w : World} {b : Nat} (u0 u1 u2 u3 u4 : Value) (h : Ext w0 w) (hb : w0.heap.size ≤ b) :
    Ext w0 (((((w.setCell ⟨b, 0, none⟩ u0).setCell ⟨b, 1, none⟩ u1).setCell ⟨b, 2, none⟩ u2).setCell ⟨b, 3, none⟩ u3).setCell ⟨b, 4, none⟩ u4) := by
  have f : ∀ (w : World) (i : Nat) (u : Value), Fr [b] w (w.setCell ⟨b, i, none⟩ u) := fun w i u => fr_setCell _ _ _ (by simp)
  exact Below.trans h (((((f _ 0 u0).trans (f _ 1 u1)).trans (f _ 2 u2)).trans (f _ 3 u3)).trans (f _ 4 u4) |>.below (by simpa using hb) h.size)
abbrev zr : Obj := .cells #[.int .u64 0, .int .i64 0, .int .i64 0, .int .i64 0, .int .i64 0] 35 (0, 0)
set_option maxHeartbeats 2000000 in
theorem readN_any {B : Nat} {w : World} {p : Nat} {x : DX} {s : PS} (h : Dk B w p x s) (hr : rdE s nRoot = 5) :
    Calls Tryz.prog 10 #[pv p] w fun e w' => e = .returned (.tuple #[rtV rt0, .int .i64 5]) ∧ Ext w w' := by
  have hc := dread_any nRoot nl.2 (h.ext (Ext.alloc w zr))
  unfold ReadP at hc
  rw [hr] at hc
  have HC := hid hc
  have hE := Ext.alloc w zr
  have HB := hid (heap_alloc_new w zr)
  have HE := hid hE
  clear h hr hc hE
  go_enter Tryz.func10, Tryz.ntmps10
  go_wp2_with fail
  refine HC.out.mono ?_
  rintro e w2 ⟨⟨v, rfl, -⟩, hx⟩
  have hB2 := hx.obj HB.out
  have HB2 := hid hB2
  have HE2 := hid (HE.out.trans hx)
  obtain ⟨k0, k1, k2, k3, k4, kf⟩ := blk5 hB2
  clear hx hB2
  go_wp2
  refine bodyPost_ret (rread_results _ _ _ _ _ _ _ _ rfl (set5 HB2.out _ _ _ _ _)) rfl ?_
  exact ⟨rfl, ext5 _ _ _ _ _ HE2.out (Nat.le_refl _)⟩
/-- The root that is read, made of its numbers. -/
def RdQ (W : World) (r : Rt) (i : Nat) (σ : Nat → Value) (w' : World) : Prop := Ext W w' ∧ match i with
  | 1 => ∃ g, σ 9 = pv g ∧ w'.heap[g]? = some zr ∧ W.heap.size ≤ g
  | 2 => ∃ g, σ 9 = pv g ∧ w'.heap[g]? = some (rtO r) ∧ W.heap.size ≤ g
  | _ => True
set_option maxHeartbeats 4000000 in
theorem readR_any {B : Nat} {w : World} {p : Nat} {x : DX} {s : PS} (r : Rt) (h : Dk B w p x s) (hr : rdE s nRoot = 0) (hb : rdB s nRoot = rtBytes r) (hrt : rtB r = true) (ht : Tab w) :
    Calls Tryz.prog 10 #[pv p] w fun e w' => e = .returned (.tuple #[rtV r, .int .i64 0]) ∧ Ext w w' := by
  have hc := dread_any nRoot nl.2 (h.ext (Ext.alloc w zr))
  unfold ReadP at hc
  rw [hr, hb] at hc
  have HC := hid hc
  have hE := Ext.alloc w zr
  have HB := hid (heap_alloc_new w zr)
  have HE := hid hE
  have HT := hid ht
  have HRT := hid hrt
  have HBL := hid (rt_len r)
  obtain ⟨es, hes⟩ := rt_all r
  have HAL := hid hes
  clear h hr hc hE hb ht hes
  obtain ⟨gen, l, pa, de, se⟩ := r
  have hbd : (0 ≤ l ∧ l ≤ 1000000) ∧ (0 ≤ pa ∧ pa ≤ 1000000) ∧ (0 ≤ de ∧ de ≤ 1000000) ∧ (0 ≤ se ∧ se ≤ 1000000) := by
    unfold rtB cfgB at hrt
    simp only [Bool.and_eq_true, decide_eq_true_eq] at hrt
    omega
  have hu1 := u64_int hbd.1.1 hbd.1.2
  have hu2 := u64_int hbd.2.1.1 hbd.2.1.2
  have hu3 := u64_int hbd.2.2.1.1 hbd.2.2.1.2
  have hu4 := u64_int hbd.2.2.2.1 hbd.2.2.2.2
  obtain ⟨u1, hq1⟩ : ∃ u, UInt64.ofNat l.toNat = u := ⟨_, rfl⟩
  obtain ⟨u2, hq2⟩ : ∃ u, UInt64.ofNat pa.toNat = u := ⟨_, rfl⟩
  obtain ⟨u3, hq3⟩ : ∃ u, UInt64.ofNat de.toNat = u := ⟨_, rfl⟩
  obtain ⟨u4, hq4⟩ : ∃ u, UInt64.ofNat se.toNat = u := ⟨_, rfl⟩
  rw [hq1] at hu1
  rw [hq2] at hu2
  rw [hq3] at hu3
  rw [hq4] at hu4
  have HRC : Hid (rtRec ⟨gen, l, pa, de, se⟩ = ⟨12, [gen, u1, u2, u3, u4], []⟩) := hid (by unfold rtRec; rw [hq1, hq2, hq3, hq4])
  have HW : Hid (IntKind.i64.wrap (u1.toNat : Int) = l ∧ IntKind.i64.wrap (u2.toNat : Int) = pa ∧ IntKind.i64.wrap (u3.toNat : Int) = de ∧ IntKind.i64.wrap (u4.toNat : Int) = se) := hid (by
    rw [hu1, hu2, hu3, hu4]
    exact ⟨IntWalk.i64_in _ (by omega), IntWalk.i64_in _ (by omega), IntWalk.i64_in _ (by omega), IntWalk.i64_in _ (by omega)⟩)
  clear hbd hq1 hq2 hq3 hq4 hu1 hu2 hu3 hu4 hrt
  go_enter Tryz.func10, Tryz.ntmps10
  go_wp2_with fail
  refine HC.out.mono ?_
  rintro e w2 ⟨⟨v, rfl, ho⟩, hx⟩
  have HB2 := hid (hx.obj HB.out)
  have HE2 := hid (HE.out.trans hx)
  have HO := hid ho
  obtain ⟨vo, vc, hve⟩ := ho.owv.shape
  obtain ⟨nb, hnb⟩ : ∃ n, (rtBytes ⟨gen, l, pa, de, se⟩).length = n := ⟨_, rfl⟩
  rw [hnb] at hve
  subst hve
  clear hx ho hnb HB HE
  go_wp2_with fail
  have hc := all5_any _ _ w2 HO.out.byt (by have := HBL.out; omega) (HT.out.ext HE2.out)
  unfold AllR5 at hc
  rw [HAL.out, HRC.out] at hc
  refine hc.mono ?_
  clear hc
  rintro e w3 ⟨v1, v2, rfl, hrc, hiv, hx⟩
  obtain ⟨io, ic, rfl⟩ := hiv.shape
  obtain ⟨m, hm, hrow, hns⟩ := hrc
  obtain ⟨nv, rfl⟩ : ∃ nv, m = [((⟨12, [gen, u1, u2, u3, u4], []⟩ : Rc), nv)] := by
    match m, hm with
    | [(a, b)], hm => simp at hm; exact ⟨b, by rw [hm]⟩
  have hn5 := hns _ (List.mem_singleton.2 rfl)
  have hrow2 : w3.ownsRow w2.heap.size 77 3 v1 1 [.int .i64 12, nv, .string (str [])] := hrow
  obtain ⟨g, rc, rfl, hg1, hg2, hgl⟩ : ∃ g cap, v1 = .slice (some ⟨g, 0, none⟩) 1 cap ∧ 1 ≤ cap ∧ cap ≤ 9223372036854775807 ∧ w2.heap.size ≤ g := by
    rcases hrow2.2 with ⟨hv, h0⟩ | ⟨g, c, cur, hv, hb, hgg, h1, h2, -⟩
    · omega
    · exact ⟨g, c, hv, h1, by simpa [maxLen] using h2, hb⟩
  have r0 := World.ownsRow.cellAt hrow2 0 (by simp)
  have r1 := World.ownsRow.cellAt hrow2 1 (by simp)
  obtain ⟨gn, nc, rfl, hn1, hn2, hnl⟩ : ∃ g cap, nv = .slice (some ⟨g, 0, none⟩) 5 cap ∧ 5 ≤ cap ∧ cap ≤ 9223372036854775807 ∧ w2.heap.size ≤ g := by
    have h9 : w3.ownsRow w2.heap.size 31 1 nv 5 ([gen, u1, u2, u3, u4].map uv) := hn5
    rcases h9.2 with ⟨hv, h0⟩ | ⟨g, c, cur, hv, hb, hgg, h1, h2, -⟩
    · omega
    · exact ⟨g, c, hv, h1, by simpa [maxLen] using h2, hb⟩
  have HN := hid (fun (j : Nat) (hj : j < 5) => hn5.cell j (by simpa using hj))
  have HB3 := hid (hx.obj HB2.out)
  have HE3 := hid (HE2.out.trans hx)
  clear hrow hrow2 hns hn5 hiv hm hgl hnl hx HO HC HAL
  go_wp2
  clear r0 r1
  refine ParE.wp_region_e (l := [_, _, _, _, _, _, _, _, _, _, _, _, _, _, _, _, _, _, _, _, _, _, _]) rfl (Rg.Ch [21, 22] [9] (RdQ w3 ⟨gen, l, pa, de, se⟩)) (ParC.VC [ParC.EQ (Value.slice (some ⟨gn, 0, none⟩) 5 nc), ParC.EQ (Value.pointer (some ⟨gn, 0, none⟩)), ParC.EQ (uv gen), ParC.EQ (Value.slice (some ⟨gn, 0, none⟩) 5 nc), ParC.EQ (Value.pointer (some ⟨gn, 1, none⟩)), ParC.EQ (uv u1), ParC.EQ (Value.int IntKind.i64 l), ParC.EQ (Value.slice (some ⟨gn, 0, none⟩) 5 nc), ParC.EQ (Value.pointer (some ⟨gn, 2, none⟩)), ParC.EQ (uv u2), ParC.EQ (Value.int IntKind.i64 pa), ParC.EQ (Value.slice (some ⟨gn, 0, none⟩) 5 nc), ParC.EQ (Value.pointer (some ⟨gn, 3, none⟩)), ParC.EQ (uv u3), ParC.EQ (Value.int IntKind.i64 de), ParC.EQ (Value.agg #[Value.int IntKind.i64 l, Value.int IntKind.i64 pa, Value.int IntKind.i64 de]), ParC.EQ (Value.slice (some ⟨gn, 0, none⟩) 5 nc), ParC.EQ (Value.pointer (some ⟨gn, 4, none⟩)), ParC.EQ (uv u4), ParC.EQ (Value.int IntKind.i64 se), ParC.EQ (Value.agg #[uv gen, Value.int IntKind.i64 l, Value.int IntKind.i64 pa, Value.int IntKind.i64 de, Value.int IntKind.i64 se]), (fun _ => True), fun _ => True]) (by kernel_rfl) (by kernel_rfl) (Rg.Ch.start ⟨Ext.draw _, trivial⟩) ?_ ?_
  · refine ⟨fun L ρ w' hR hC hL hd hk => ?_, ?_⟩
    · exact Par.val_of_run rfl ⟨hR.other (by decide), hk.1⟩
    refine ⟨fun L ρ w' hR hC hL hd hk => ?_, ?_⟩
    · obtain ⟨k0, k1, -⟩ := hk
      have e0 : ρ (.tmp 44) = Value.slice (some ⟨gn, 0, none⟩) 5 nc := k0
      have e1 : ρ (Operand.const (Value.int IntKind.i64 0)) = (Value.int IntKind.i64 0) := k1
      clear k0 k1
      refine Par.val_k fun K hK => ?_
      unfold Par.val
      (go_simp; exact hK _ _ ⟨hR.other (by decide), rfl⟩)
    refine ⟨fun L ρ w' hR hC hL hd hk => ?_, ?_⟩
    · obtain ⟨k0, -⟩ := hk
      have e0 : ρ (.tmp 45) = Value.pointer (some ⟨gn, 0, none⟩) := k0
      clear k0
      refine Par.val_k fun K hK => ?_
      unfold Par.val
      (obtain ⟨i, hi, hq⟩ := hR.some 1 rfl (hC.notyet 22 2 hL (by kernel_rfl)); have cc := hq.1.cell (HN.out 0 (by omega)); go_simp; exact hK _ _ ⟨hR.other (by decide), rfl⟩)
    refine ⟨fun L ρ w' hR hC hL hd hk => ?_, ?_⟩
    · exact Par.val_of_run rfl ⟨hR.other (by decide), hk.1⟩
    refine ⟨fun L ρ w' hR hC hL hd hk => ?_, ?_⟩
    · obtain ⟨k0, k1, -⟩ := hk
      have e0 : ρ (.tmp 47) = Value.slice (some ⟨gn, 0, none⟩) 5 nc := k0
      have e1 : ρ (Operand.const (Value.int IntKind.i64 1)) = (Value.int IntKind.i64 1) := k1
      clear k0 k1
      refine Par.val_k fun K hK => ?_
      unfold Par.val
      (go_simp; exact hK _ _ ⟨hR.other (by decide), rfl⟩)
    refine ⟨fun L ρ w' hR hC hL hd hk => ?_, ?_⟩
    · obtain ⟨k0, -⟩ := hk
      have e0 : ρ (.tmp 48) = Value.pointer (some ⟨gn, 1, none⟩) := k0
      clear k0
      refine Par.val_k fun K hK => ?_
      unfold Par.val
      (obtain ⟨i, hi, hq⟩ := hR.some 1 rfl (hC.notyet 22 5 hL (by kernel_rfl)); have cc := hq.1.cell (HN.out 1 (by omega)); go_simp; exact hK _ _ ⟨hR.other (by decide), rfl⟩)
    refine ⟨fun L ρ w' hR hC hL hd hk => ?_, ?_⟩
    · obtain ⟨k0, -⟩ := hk
      have e0 : ρ (.tmp 49) = uv u1 := k0
      clear k0
      refine Par.val_k fun K hK => ?_
      unfold Par.val
      (have hwr := HW.out.1; go_simp; exact hK _ _ ⟨hR.other (by decide), rfl⟩)
    refine ⟨fun L ρ w' hR hC hL hd hk => ?_, ?_⟩
    · exact Par.val_of_run rfl ⟨hR.other (by decide), hk.1⟩
    refine ⟨fun L ρ w' hR hC hL hd hk => ?_, ?_⟩
    · obtain ⟨k0, k1, -⟩ := hk
      have e0 : ρ (.tmp 51) = Value.slice (some ⟨gn, 0, none⟩) 5 nc := k0
      have e1 : ρ (Operand.const (Value.int IntKind.i64 2)) = (Value.int IntKind.i64 2) := k1
      clear k0 k1
      refine Par.val_k fun K hK => ?_
      unfold Par.val
      (go_simp; exact hK _ _ ⟨hR.other (by decide), rfl⟩)
    refine ⟨fun L ρ w' hR hC hL hd hk => ?_, ?_⟩
    · obtain ⟨k0, -⟩ := hk
      have e0 : ρ (.tmp 52) = Value.pointer (some ⟨gn, 2, none⟩) := k0
      clear k0
      refine Par.val_k fun K hK => ?_
      unfold Par.val
      (obtain ⟨i, hi, hq⟩ := hR.some 1 rfl (hC.notyet 22 9 hL (by kernel_rfl)); have cc := hq.1.cell (HN.out 2 (by omega)); go_simp; exact hK _ _ ⟨hR.other (by decide), rfl⟩)
    refine ⟨fun L ρ w' hR hC hL hd hk => ?_, ?_⟩
    · obtain ⟨k0, -⟩ := hk
      have e0 : ρ (.tmp 53) = uv u2 := k0
      clear k0
      refine Par.val_k fun K hK => ?_
      unfold Par.val
      (have hwr := HW.out.2.1; go_simp; exact hK _ _ ⟨hR.other (by decide), rfl⟩)
    refine ⟨fun L ρ w' hR hC hL hd hk => ?_, ?_⟩
    · exact Par.val_of_run rfl ⟨hR.other (by decide), hk.1⟩
    refine ⟨fun L ρ w' hR hC hL hd hk => ?_, ?_⟩
    · obtain ⟨k0, k1, -⟩ := hk
      have e0 : ρ (.tmp 55) = Value.slice (some ⟨gn, 0, none⟩) 5 nc := k0
      have e1 : ρ (Operand.const (Value.int IntKind.i64 3)) = (Value.int IntKind.i64 3) := k1
      clear k0 k1
      refine Par.val_k fun K hK => ?_
      unfold Par.val
      (go_simp; exact hK _ _ ⟨hR.other (by decide), rfl⟩)
    refine ⟨fun L ρ w' hR hC hL hd hk => ?_, ?_⟩
    · obtain ⟨k0, -⟩ := hk
      have e0 : ρ (.tmp 56) = Value.pointer (some ⟨gn, 3, none⟩) := k0
      clear k0
      refine Par.val_k fun K hK => ?_
      unfold Par.val
      (obtain ⟨i, hi, hq⟩ := hR.some 1 rfl (hC.notyet 22 13 hL (by kernel_rfl)); have cc := hq.1.cell (HN.out 3 (by omega)); go_simp; exact hK _ _ ⟨hR.other (by decide), rfl⟩)
    refine ⟨fun L ρ w' hR hC hL hd hk => ?_, ?_⟩
    · obtain ⟨k0, -⟩ := hk
      have e0 : ρ (.tmp 57) = uv u3 := k0
      clear k0
      refine Par.val_k fun K hK => ?_
      unfold Par.val
      (have hwr := HW.out.2.2.1; go_simp; exact hK _ _ ⟨hR.other (by decide), rfl⟩)
    refine ⟨fun L ρ w' hR hC hL hd hk => ?_, ?_⟩
    · obtain ⟨k0, k1, k2, -⟩ := hk
      have e0 : ρ (.tmp 50) = Value.int IntKind.i64 l := k0
      have e1 : ρ (.tmp 54) = Value.int IntKind.i64 pa := k1
      have e2 : ρ (.tmp 58) = Value.int IntKind.i64 de := k2
      clear k0 k1 k2
      refine Par.val_k fun K hK => ?_
      unfold Par.val
      (go_simp; exact hK _ _ ⟨hR.other (by decide), rfl⟩)
    refine ⟨fun L ρ w' hR hC hL hd hk => ?_, ?_⟩
    · exact Par.val_of_run rfl ⟨hR.other (by decide), hk.1⟩
    refine ⟨fun L ρ w' hR hC hL hd hk => ?_, ?_⟩
    · obtain ⟨k0, k1, -⟩ := hk
      have e0 : ρ (.tmp 60) = Value.slice (some ⟨gn, 0, none⟩) 5 nc := k0
      have e1 : ρ (Operand.const (Value.int IntKind.i64 4)) = (Value.int IntKind.i64 4) := k1
      clear k0 k1
      refine Par.val_k fun K hK => ?_
      unfold Par.val
      (go_simp; exact hK _ _ ⟨hR.other (by decide), rfl⟩)
    refine ⟨fun L ρ w' hR hC hL hd hk => ?_, ?_⟩
    · obtain ⟨k0, -⟩ := hk
      have e0 : ρ (.tmp 61) = Value.pointer (some ⟨gn, 4, none⟩) := k0
      clear k0
      refine Par.val_k fun K hK => ?_
      unfold Par.val
      (obtain ⟨i, hi, hq⟩ := hR.some 1 rfl (hC.notyet 22 18 hL (by kernel_rfl)); have cc := hq.1.cell (HN.out 4 (by omega)); go_simp; exact hK _ _ ⟨hR.other (by decide), rfl⟩)
    refine ⟨fun L ρ w' hR hC hL hd hk => ?_, ?_⟩
    · obtain ⟨k0, -⟩ := hk
      have e0 : ρ (.tmp 62) = uv u4 := k0
      clear k0
      refine Par.val_k fun K hK => ?_
      unfold Par.val
      (have hwr := HW.out.2.2.2; go_simp; exact hK _ _ ⟨hR.other (by decide), rfl⟩)
    refine ⟨fun L ρ w' hR hC hL hd hk => ?_, ?_⟩
    · obtain ⟨k0, k1, k2, -⟩ := hk
      have e0 : ρ (.tmp 46) = uv gen := k0
      have e1 : ρ (.tmp 59) = Value.agg #[Value.int IntKind.i64 l, Value.int IntKind.i64 pa, Value.int IntKind.i64 de] := k1
      have e2 : ρ (.tmp 63) = Value.int IntKind.i64 se := k2
      clear k0 k1 k2
      refine Par.val_k fun K hK => ?_
      unfold Par.val
      (go_simp; exact hK _ _ ⟨hR.other (by decide), rfl⟩)
    refine ⟨fun L ρ w' hR hC hL hd hk => ?_, ?_⟩
    · obtain ⟨-⟩ := hk
      skip
      refine Par.val_k fun K hK => ?_
      unfold Par.val
      (obtain ⟨hq, hs⟩ := hR.go 0 rfl hL (.inl rfl) (by decide); have hx := hq.1; go_simp; exact hK _ _ ⟨hs _ _ _ ⟨hx.trans (Ext.alloc _ _), w'.heap.size, rfl, heap_alloc_new _ _, hx.size⟩, trivial⟩)
    refine ⟨fun L ρ w' hR hC hL hd hk => ?_, ?_⟩
    · obtain ⟨k0, k1, -⟩ := hk
      have e0 : (fun _ => True) (ρ (.tmp 9))  := k0
      have e1 : ρ (.tmp 64) = Value.agg #[uv gen, Value.int IntKind.i64 l, Value.int IntKind.i64 pa, Value.int IntKind.i64 de, Value.int IntKind.i64 se] := k1
      clear k0 k1
      refine Par.val_k fun K hK => ?_
      unfold Par.val
      (obtain ⟨hq, hs⟩ := hR.go 1 rfl hL (.inr ⟨21, rfl, hC.before 21 (i := 22) rfl hd (by kernel_rfl)⟩) (by decide); obtain ⟨g9, hg9, hgb, hgs⟩ := hq.2; have e9 : ρ (.tmp 9) = pv g9 := hg9; obtain ⟨k0, k1, k2, k3, k4, kf⟩ := blk5 hgb; have hset := set5 hgb (uv gen) (.int .i64 l) (.int .i64 pa) (.int .i64 de) (.int .i64 se); have hext := ext5 (uv gen) (.int .i64 l) (.int .i64 pa) (.int .i64 de) (.int .i64 se) hq.1 hgs; have HSET := hid hset; have HEXT := hid hext; clear hset hext hgb hq hg9; go_simp; exact hK _ _ ⟨hs none _ _ ⟨HEXT.out, g9, e9, HSET.out, hgs⟩, trivial⟩)
    trivial
  intro a' w' inv hR
  have q44 : a'.tmps.getD 44 undef = Value.slice (some ⟨gn, 0, none⟩) 5 nc := inv.done 0 _ 44 rfl rfl rfl
  have q45 : a'.tmps.getD 45 undef = Value.pointer (some ⟨gn, 0, none⟩) := inv.done 1 _ 45 rfl rfl rfl
  have q46 : a'.tmps.getD 46 undef = uv gen := inv.done 2 _ 46 rfl rfl rfl
  have q47 : a'.tmps.getD 47 undef = Value.slice (some ⟨gn, 0, none⟩) 5 nc := inv.done 3 _ 47 rfl rfl rfl
  have q48 : a'.tmps.getD 48 undef = Value.pointer (some ⟨gn, 1, none⟩) := inv.done 4 _ 48 rfl rfl rfl
  have q49 : a'.tmps.getD 49 undef = uv u1 := inv.done 5 _ 49 rfl rfl rfl
  have q50 : a'.tmps.getD 50 undef = Value.int IntKind.i64 l := inv.done 6 _ 50 rfl rfl rfl
  have q51 : a'.tmps.getD 51 undef = Value.slice (some ⟨gn, 0, none⟩) 5 nc := inv.done 7 _ 51 rfl rfl rfl
  have q52 : a'.tmps.getD 52 undef = Value.pointer (some ⟨gn, 2, none⟩) := inv.done 8 _ 52 rfl rfl rfl
  have q53 : a'.tmps.getD 53 undef = uv u2 := inv.done 9 _ 53 rfl rfl rfl
  have q54 : a'.tmps.getD 54 undef = Value.int IntKind.i64 pa := inv.done 10 _ 54 rfl rfl rfl
  have q55 : a'.tmps.getD 55 undef = Value.slice (some ⟨gn, 0, none⟩) 5 nc := inv.done 11 _ 55 rfl rfl rfl
  have q56 : a'.tmps.getD 56 undef = Value.pointer (some ⟨gn, 3, none⟩) := inv.done 12 _ 56 rfl rfl rfl
  have q57 : a'.tmps.getD 57 undef = uv u3 := inv.done 13 _ 57 rfl rfl rfl
  have q58 : a'.tmps.getD 58 undef = Value.int IntKind.i64 de := inv.done 14 _ 58 rfl rfl rfl
  have q59 : a'.tmps.getD 59 undef = Value.agg #[Value.int IntKind.i64 l, Value.int IntKind.i64 pa, Value.int IntKind.i64 de] := inv.done 15 _ 59 rfl rfl rfl
  have q60 : a'.tmps.getD 60 undef = Value.slice (some ⟨gn, 0, none⟩) 5 nc := inv.done 16 _ 60 rfl rfl rfl
  have q61 : a'.tmps.getD 61 undef = Value.pointer (some ⟨gn, 4, none⟩) := inv.done 17 _ 61 rfl rfl rfl
  have q62 : a'.tmps.getD 62 undef = uv u4 := inv.done 18 _ 62 rfl rfl rfl
  have q63 : a'.tmps.getD 63 undef = Value.int IntKind.i64 se := inv.done 19 _ 63 rfl rfl rfl
  have q64 : a'.tmps.getD 64 undef = Value.agg #[uv gen, Value.int IntKind.i64 l, Value.int IntKind.i64 pa, Value.int IntKind.i64 de, Value.int IntKind.i64 se] := inv.done 20 _ 64 rfl rfl rfl
  have q9 : (fun _ => True) (a'.tmps.getD 9 undef)  := inv.done 21 _ 9 rfl rfl rfl
  clear inv
  simp only [List.filterMap_cons, List.filterMap_nil, Par.putAll, Act.put, List.setIfInBounds_toArray, List.set_cons_succ, List.set_cons_zero, q44, q45, q46, q47, q48, q49, q50, q51, q52, q53, q54, q55, q56, q57, q58, q59, q60, q61, q62, q63, q64]
  clear q44 q45 q46 q47 q48 q49 q50 q51 q52 q53 q54 q55 q56 q57 q58 q59 q60 q61 q62 q63 q64
  obtain ⟨hx, g9, hg9, hgb, hgs⟩ := Rg.Ch.fin hR (by decide) 2 rfl; have HX9 := hid hx; have HG9 := hid hgb; have hg99 : a'.tmps.getD 9 undef = pv g9 := hg9; rw [hg99]; clear hx hgb hg9 hR
  generalize a'.tmps.getD 9 undef = u9 at *
  try clear a'
  have hg := HG9.out
  obtain ⟨k0, k1, k2, k3, k4, kf⟩ := blk5 hg
  clear hg
  go_wp2_with fail
  refine (rt_any ⟨gen, l, pa, de, se⟩ _).mono ?_
  rintro e w6 ⟨rfl, hx⟩
  rw [HRT.out]
  have hg6 := hx.obj HG9.out
  have HG6 := hid hg6
  have hb6 := hx.obj (HX9.out.obj HB3.out)
  have HB6 := hid hb6
  have HE6 := hid (HE3.out.trans (HX9.out.trans hx))
  obtain ⟨j0, j1, j2, j3, j4, jf⟩ := blk5 hg6
  obtain ⟨b0, b1, b2, b3, b4, bf⟩ := blk5 hb6
  clear hg6 hb6 hx k0 k1 k2 k3 k4 kf
  go_wp2
  refine bodyPost_ret (rread_results _ _ _ _ _ _ _ _ rfl (set5 HB6.out _ _ _ _ _)) rfl ?_
  exact ⟨rfl, ext5 _ _ _ _ _ HE6.out (Nat.le_refl _)⟩
end Go.Proofs.YtijpokajhjhllaaGreatDoor

