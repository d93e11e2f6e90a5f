/- The document's frames: Read. -/
import Derived.Test.YtafdandnbbbdfaaDoorFrmD
import Derived.Handy
import Derived.Lib.SmallJoins
namespace Go.Proofs.YtafdandnbbbdfaaDoor
open Go.RowKit Go.Tum Go.Tum.Crc

theorem rread_results (tmps : Array Value) (w : World) (B : Nat) (p q : Value) (h2 : tmps.getD 2 undef = .pointer (some ⟨B, 0, none⟩)) (m0 : w.cell? ⟨B, 0, none⟩ = some p) (m1 : w.cell? ⟨B, 1, none⟩ = some q) :
    (results Tryd.f45 tmps).run Tryd.prog w = .ok (.tuple #[.agg #[p, q], tmps.getD 3 undef, tmps.getD 4 undef]) w := by
  have h2' : tmps[2]?.getD undef = .pointer (some ⟨B, 0, none⟩) := by simpa using h2
  simp [results, Tryd.results45, go_sem, h2', m0, m1]

set_option maxRecDepth 100000 in
set_option maxHeartbeats 1000000 in
theorem rread_any (v : Value) (b : List UInt8) (w : World) (hb : Byt w v b) (hl : b.length ≤ 1048576) :
    Calls Tryd.prog 45 #[v] w (ReadR 5 w b) := by
  obtain ⟨ao, cap, rfl, hle, hm, hnn, hcell⟩ := hb.open
  have HN := hid hnn
  clear hcell hnn
  have HB := hid hb
  clear hb
  by_cases h7 : b.length < 7
  · have hdec : decide ((b.length : Int) < 7) = true := by simp; omega
    have hR : fread b = (f0, 0, 3) := by unfold fread; rw [if_pos h7]
    have HR := hid hR
    clear hR
    go_enter Tryd.func45, Tryd.ntmps45
    go_wp2
    go_returns
    unfold ReadR
    rw [HR.out]
    exact ⟨.slice none 0 0, rfl, Own.nil _ _ _, by (repeat' (first | (with_reducible exact Below.refl _ _) | (with_reducible assumption) | (with_reducible refine Below.alloc ?_ ?_ _) | (with_reducible refine Below.drew ?_) | (with_reducible refine Below.setCell ?_ ?_ _) | (refine Go.Tum.Ext.trans ?_ (by with_reducible assumption)) | go_size))⟩
  have hdec : decide ((b.length : Int) < 7) = false := by simp; omega
  have hp1 : Byt w (.slice ao 7 cap) (b.take 7) := by
    have := Byt.part HB.out 0 7 (by omega) (by omega) ao (by split <;> simp [Addr.add])
    simpa using this
  have HP1 := hid hp1
  clear hp1
  by_cases h1 : isPut (b.take 7) = false
  · have hR : fread b = (f0, 0, 8) := by unfold fread; rw [if_neg h7, if_pos h1]
    have HR := hid hR
    have H1 := hid h1
    clear hR h1
    go_enter Tryd.func45, Tryd.ntmps45
    go_wp2_with fail
    refine (rcut_any _ (b.take 7) _ (HP1.out.ext (Ext.alloc _ _)) (by simp; omega)).mono ?_
    rintro e w1 ⟨r, rfl, hr, hw1⟩
    rw [H1.out]
    have hE : Ext w w1 := (Ext.alloc _ _).trans hw1
    have hB := hw1.obj (heap_alloc_new w _)
    have HSZ := hid hw1.size
    have hsz : w.heap.size < w1.heap.size := by have := hw1.size; simp at this; omega
    clear hw1
    clear hr
    obtain ⟨k0, k1, k2, k3⟩ := blk2 hB
    have hB2 := Go.Joins.block_setCell (i := 1) (Go.Joins.block_setCell (i := 0) hB (.int .u8 0)) (.slice none 0 0)
    clear hB
    go_wp2
    obtain ⟨m0, m1, -, -⟩ := blk2 hB2
    refine bodyPost_ret (rread_results _ _ _ _ _ rfl m0 m1) rfl ?_
    unfold ReadR
    rw [HR.out]
    exact ⟨.slice none 0 0, rfl, Own.nil _ _ _, by (repeat' (first | (with_reducible exact Below.refl _ _) | (with_reducible assumption) | (with_reducible refine Below.alloc ?_ ?_ _) | (with_reducible refine Below.drew ?_) | (with_reducible refine Below.setCell ?_ ?_ _) | (refine Go.Tum.Ext.trans ?_ (by with_reducible assumption)) | go_size))⟩
  have h1' : isPut (b.take 7) = true := by simpa using h1
  have H1 := hid h1'
  have hcut := cut_isPut h1'
  rw [take3 b (by omega)] at hcut
  obtain ⟨x0, hx0⟩ : ∃ x, b.getD 0 0 = x := ⟨_, rfl⟩
  obtain ⟨x1, hx1⟩ : ∃ x, b.getD 1 0 = x := ⟨_, rfl⟩
  obtain ⟨x2, hx2⟩ : ∃ x, b.getD 2 0 = x := ⟨_, rfl⟩
  rw [hx0, hx1, hx2] at hcut
  have hfl : ((x1.toNat + 256 * x2.toNat : Nat) : Int) = (flen b : Int) := by rw [← hx1, ← hx2]; rfl
  have HFL := hid hfl
  have HX0 := hid hx0
  have HCUT := hid hcut
  have hn2 : flen b ≤ 65535 := by unfold flen; have := (b.getD 1 0).toNat_lt; have := (b.getD 2 0).toNat_lt; omega
  clear h1' hcut hx0 hx1 hx2 hfl
  by_cases h4 : 400 < flen b
  · have hR : fread b = (f0, 0, 2) := by unfold fread; rw [if_neg h7, if_neg h1, if_pos h4]
    have HR := hid hR
    have hd4 : decide (400 < (flen b : Int)) = true := by simp; omega
    clear hR h1
    go_enter Tryd.func45, Tryd.ntmps45
    go_wp2_with fail
    refine (rcut_any _ (b.take 7) _ (HP1.out.ext (Ext.alloc _ _)) (by simp; omega)).mono ?_
    rintro e w1 ⟨r, rfl, hr, hw1⟩
    rw [H1.out]
    have hE : Ext w w1 := (Ext.alloc _ _).trans hw1
    have hB := hw1.obj (heap_alloc_new w _)
    have HSZ := hid hw1.size
    have hsz : w.heap.size < w1.heap.size := by have := hw1.size; simp at this; omega
    clear hw1
    rw [HCUT.out] at hr
    obtain ⟨ro, rc, rfl, hrl, hrm, hrn, hrcell⟩ := hr.byt.open
    have c0 : ∀ a, ro = some a → w1.cell? a = some (.int .u8 (x0.toNat : Int)) := fun a ha => hrcell a ha 0 (by simp)
    obtain ⟨ra, rfl⟩ := hrn (by simp at hrl; omega)
    replace c0 := c0 ra rfl
    simp only [List.length_cons, List.length_nil] at hrl
    have hrl' : 3 ≤ rc := by omega
    have C1 := hid (show w1.cell? ⟨ra.block, ra.off + 1, none⟩ = some (.int .u8 (x1.toNat : Int)) from hrcell ra rfl 1 (by simp))
    have C2 := hid (show w1.cell? ⟨ra.block, ra.off + 2, none⟩ = some (.int .u8 (x2.toNat : Int)) from hrcell ra rfl 2 (by simp))
    have HRO := hid hr
    clear hrcell hrn hr hrl
    have c1 : w1.cell? ⟨ra.block, ra.off + 1, none⟩ = some (.int .u8 (x1.toNat : Int)) := C1.out
    have c2 : w1.cell? ⟨ra.block, ra.off + 2, none⟩ = some (.int .u8 (x2.toNat : Int)) := C2.out
    have hx1 := x1.toNat_lt
    have hx2 := x2.toNat_lt
    go_wp2_with fail
    go_quiet (fail)
    have hfl : ((x1.toNat : Int) + 256 * (x2.toNat : Int)) = (flen b : Int) := by have := HFL.out; omega
    rw [hfl]
    clear hx1 hx2 hfl c1 c2
    obtain ⟨W, hW⟩ : ∃ W, W = w1.drewN nq := ⟨_, rfl⟩
    rw [← hW]
    have hEq : Ext w1 W := hW ▸ Ext.drewN w1 nq
    clear hW
    replace hE := hE.trans hEq
    replace hB := hEq.obj hB
    replace c0 := hEq.cell c0
    replace hsz : w.heap.size < W.heap.size := by have := hEq.size; omega
    clear hEq
    obtain ⟨k0, k1, k2, k3⟩ := blk2 hB
    have hB2 := Go.Joins.block_setCell (i := 1) (Go.Joins.block_setCell (i := 0) hB (.int .u8 0)) (.slice none 0 0)
    clear hB
    go_wp2
    obtain ⟨m0, m1, -, -⟩ := blk2 hB2
    refine bodyPost_ret (rread_results _ _ _ _ _ rfl m0 m1) rfl ?_
    unfold ReadR
    rw [HR.out]
    exact ⟨.slice none 0 0, rfl, Own.nil _ _ _, by (repeat' (first | (with_reducible exact Below.refl _ _) | (with_reducible assumption) | (with_reducible refine Below.alloc ?_ ?_ _) | (with_reducible refine Below.drew ?_) | (with_reducible refine Below.setCell ?_ ?_ _) | (refine Go.Tum.Ext.trans ?_ (by with_reducible assumption)) | go_size))⟩
  have hd4 : decide (400 < (flen b : Int)) = false := by simp; omega
  by_cases h5 : b.length < flen b + 11
  · have hR : fread b = (f0, 0, 3) := by unfold fread; rw [if_neg h7, if_neg h1, if_neg h4, if_pos h5]
    have HR := hid hR
    have hd5 : decide ((b.length : Int) < (flen b : Int) + 11) = true := by simp; omega
    clear hR h1
    go_enter Tryd.func45, Tryd.ntmps45
    go_wp2_with fail
    refine (rcut_any _ (b.take 7) _ (HP1.out.ext (Ext.alloc _ _)) (by simp; omega)).mono ?_
    rintro e w1 ⟨r, rfl, hr, hw1⟩
    rw [H1.out]
    have hE : Ext w w1 := (Ext.alloc _ _).trans hw1
    have hB := hw1.obj (heap_alloc_new w _)
    have HSZ := hid hw1.size
    have hsz : w.heap.size < w1.heap.size := by have := hw1.size; simp at this; omega
    clear hw1
    rw [HCUT.out] at hr
    obtain ⟨ro, rc, rfl, hrl, hrm, hrn, hrcell⟩ := hr.byt.open
    have c0 : ∀ a, ro = some a → w1.cell? a = some (.int .u8 (x0.toNat : Int)) := fun a ha => hrcell a ha 0 (by simp)
    obtain ⟨ra, rfl⟩ := hrn (by simp at hrl; omega)
    replace c0 := c0 ra rfl
    simp only [List.length_cons, List.length_nil] at hrl
    have hrl' : 3 ≤ rc := by omega
    have C1 := hid (show w1.cell? ⟨ra.block, ra.off + 1, none⟩ = some (.int .u8 (x1.toNat : Int)) from hrcell ra rfl 1 (by simp))
    have C2 := hid (show w1.cell? ⟨ra.block, ra.off + 2, none⟩ = some (.int .u8 (x2.toNat : Int)) from hrcell ra rfl 2 (by simp))
    have HRO := hid hr
    clear hrcell hrn hr hrl
    have c1 : w1.cell? ⟨ra.block, ra.off + 1, none⟩ = some (.int .u8 (x1.toNat : Int)) := C1.out
    have c2 : w1.cell? ⟨ra.block, ra.off + 2, none⟩ = some (.int .u8 (x2.toNat : Int)) := C2.out
    have hx1 := x1.toNat_lt
    have hx2 := x2.toNat_lt
    go_wp2_with fail
    go_quiet (fail)
    have hfl : ((x1.toNat : Int) + 256 * (x2.toNat : Int)) = (flen b : Int) := by have := HFL.out; omega
    rw [hfl]
    clear hx1 hx2 hfl c1 c2
    obtain ⟨W, hW⟩ : ∃ W, W = w1.drewN nq := ⟨_, rfl⟩
    rw [← hW]
    have hEq : Ext w1 W := hW ▸ Ext.drewN w1 nq
    clear hW
    replace hE := hE.trans hEq
    replace hB := hEq.obj hB
    replace c0 := hEq.cell c0
    replace hsz : w.heap.size < W.heap.size := by have := hEq.size; omega
    clear hEq
    obtain ⟨k0, k1, k2, k3⟩ := blk2 hB
    have hB2 := Go.Joins.block_setCell (i := 1) (Go.Joins.block_setCell (i := 0) hB (.int .u8 0)) (.slice none 0 0)
    clear hB
    go_wp2
    obtain ⟨m0, m1, -, -⟩ := blk2 hB2
    refine bodyPost_ret (rread_results _ _ _ _ _ rfl m0 m1) rfl ?_
    unfold ReadR
    rw [HR.out]
    exact ⟨.slice none 0 0, rfl, Own.nil _ _ _, by (repeat' (first | (with_reducible exact Below.refl _ _) | (with_reducible assumption) | (with_reducible refine Below.alloc ?_ ?_ _) | (with_reducible refine Below.drew ?_) | (with_reducible refine Below.setCell ?_ ?_ _) | (refine Go.Tum.Ext.trans ?_ (by with_reducible assumption)) | go_size))⟩
  have hd5 : decide ((b.length : Int) < (flen b : Int) + 11) = false := by simp; omega
  obtain ⟨ap, rfl⟩ := HN.out (by omega)
  have hp2 : Byt w (.slice (some ⟨ap.block, ap.off + 7, none⟩) (flen b + 4) (cap - 7)) ((b.drop 7).take (flen b + 4)) := by
    have h := Byt.part HB.out 7 (flen b + 11) (by omega) (by omega) (some ⟨ap.block, ap.off + 7, none⟩) (by rw [if_neg (by omega)]; simp [Addr.add])
    rw [show flen b + 11 - 7 = flen b + 4 by omega] at h
    exact h
  have HP2 := hid hp2
  clear hp2
  cases h6 : isPut ((b.drop 7).take (flen b + 4)) with
  | false =>
    have hR : fread b = (f0, 0, 8) := by unfold fread; rw [if_neg h7, if_neg h1, if_neg h4, if_neg h5, if_pos h6]
    have HR := hid hR
    have H6 := hid h6
    clear hR h1 h6
    go_enter Tryd.func45, Tryd.ntmps45
    go_wp2_with fail
    refine (rcut_any _ (b.take 7) _ (HP1.out.ext (Ext.alloc _ _)) (by simp; omega)).mono ?_
    rintro e w1 ⟨r, rfl, hr, hw1⟩
    rw [H1.out]
    have hE : Ext w w1 := (Ext.alloc _ _).trans hw1
    have hB := hw1.obj (heap_alloc_new w _)
    have HSZ := hid hw1.size
    have hsz : w.heap.size < w1.heap.size := by have := hw1.size; simp at this; omega
    clear hw1
    rw [HCUT.out] at hr
    obtain ⟨ro, rc, rfl, hrl, hrm, hrn, hrcell⟩ := hr.byt.open
    have c0 : ∀ a, ro = some a → w1.cell? a = some (.int .u8 (x0.toNat : Int)) := fun a ha => hrcell a ha 0 (by simp)
    obtain ⟨ra, rfl⟩ := hrn (by simp at hrl; omega)
    replace c0 := c0 ra rfl
    simp only [List.length_cons, List.length_nil] at hrl
    have hrl' : 3 ≤ rc := by omega
    have C1 := hid (show w1.cell? ⟨ra.block, ra.off + 1, none⟩ = some (.int .u8 (x1.toNat : Int)) from hrcell ra rfl 1 (by simp))
    have C2 := hid (show w1.cell? ⟨ra.block, ra.off + 2, none⟩ = some (.int .u8 (x2.toNat : Int)) from hrcell ra rfl 2 (by simp))
    have HRO := hid hr
    clear hrcell hrn hr hrl
    have c1 : w1.cell? ⟨ra.block, ra.off + 1, none⟩ = some (.int .u8 (x1.toNat : Int)) := C1.out
    have c2 : w1.cell? ⟨ra.block, ra.off + 2, none⟩ = some (.int .u8 (x2.toNat : Int)) := C2.out
    have hx1 := x1.toNat_lt
    have hx2 := x2.toNat_lt
    go_wp2_with fail
    go_quiet (fail)
    have hfl : ((x1.toNat : Int) + 256 * (x2.toNat : Int)) = (flen b : Int) := by have := HFL.out; omega
    rw [hfl]
    clear hx1 hx2 hfl c1 c2
    obtain ⟨W, hW⟩ : ∃ W, W = w1.drewN nq := ⟨_, rfl⟩
    rw [← hW]
    have hEq : Ext w1 W := hW ▸ Ext.drewN w1 nq
    clear hW
    replace hE := hE.trans hEq
    replace hB := hEq.obj hB
    replace c0 := hEq.cell c0
    replace hsz : w.heap.size < W.heap.size := by have := hEq.size; omega
    clear hEq
    have hI : (flen b : Int) + 11 ≤ b.length := by omega
    have hI2 : (flen b : Int) + 11 ≤ cap := by omega
    have hI3 : 7 + (flen b : Int) + 4 ≤ b.length := by omega
    go_wp2_with fail
    refine (rcut_any _ _ _ (HP2.out.ext hE) (by simp; omega)).mono ?_
    rintro e w2 ⟨r2, rfl, hr2, hw2⟩
    rw [H6.out]
    replace hB := hw2.obj hB
    obtain ⟨k0, k1, k2, k3⟩ := blk2 hB
    have hE2 := hE.trans hw2
    have hsz2 := hw2.size
    have hB2 := Go.Joins.block_setCell (i := 1) (Go.Joins.block_setCell (i := 0) hB (.int .u8 0)) (.slice none 0 0)
    clear hB
    go_wp2
    obtain ⟨m0, m1, -, -⟩ := blk2 hB2
    refine bodyPost_ret (rread_results _ _ _ _ _ rfl m0 m1) rfl ?_
    unfold ReadR
    rw [HR.out]
    exact ⟨.slice none 0 0, rfl, Own.nil _ _ _, by (repeat' (first | (with_reducible exact Below.refl _ _) | (with_reducible assumption) | (with_reducible refine Below.alloc ?_ ?_ _) | (with_reducible refine Below.drew ?_) | (with_reducible refine Below.setCell ?_ ?_ _) | (refine Go.Tum.Ext.trans ?_ (by with_reducible assumption)) | go_size))⟩
  | true =>
    have hR : fread b = (⟨x0, (b.drop 7).take (flen b)⟩, flen b + 11, 0) := by unfold fread; rw [if_neg h7, if_neg h1, if_neg h4, if_neg h5, if_neg (by rw [h6]; decide), HX0.out]
    have hcut2 : Crc.cut ((b.drop 7).take (flen b + 4)) = (b.drop 7).take (flen b) := by
      rw [cut_isPut h6, List.take_take]
      congr 1
      simp; omega
    obtain ⟨bd, hbd⟩ : ∃ x, (b.drop 7).take (flen b) = x := ⟨_, rfl⟩
    rw [hbd] at hcut2 hR
    have HCUT2 := hid hcut2
    clear hcut2 hbd
    have HR := hid hR
    have H6 := hid h6
    clear hR h1 h6
    go_enter Tryd.func45, Tryd.ntmps45
    go_wp2_with fail
    refine (rcut_any _ (b.take 7) _ (HP1.out.ext (Ext.alloc _ _)) (by simp; omega)).mono ?_
    rintro e w1 ⟨r, rfl, hr, hw1⟩
    rw [H1.out]
    have hE : Ext w w1 := (Ext.alloc _ _).trans hw1
    have hB := hw1.obj (heap_alloc_new w _)
    have HSZ := hid hw1.size
    have hsz : w.heap.size < w1.heap.size := by have := hw1.size; simp at this; omega
    clear hw1
    rw [HCUT.out] at hr
    obtain ⟨ro, rc, rfl, hrl, hrm, hrn, hrcell⟩ := hr.byt.open
    have c0 : ∀ a, ro = some a → w1.cell? a = some (.int .u8 (x0.toNat : Int)) := fun a ha => hrcell a ha 0 (by simp)
    obtain ⟨ra, rfl⟩ := hrn (by simp at hrl; omega)
    replace c0 := c0 ra rfl
    simp only [List.length_cons, List.length_nil] at hrl
    have hrl' : 3 ≤ rc := by omega
    have C1 := hid (show w1.cell? ⟨ra.block, ra.off + 1, none⟩ = some (.int .u8 (x1.toNat : Int)) from hrcell ra rfl 1 (by simp))
    have C2 := hid (show w1.cell? ⟨ra.block, ra.off + 2, none⟩ = some (.int .u8 (x2.toNat : Int)) from hrcell ra rfl 2 (by simp))
    have HRO := hid hr
    clear hrcell hrn hr hrl
    have c1 : w1.cell? ⟨ra.block, ra.off + 1, none⟩ = some (.int .u8 (x1.toNat : Int)) := C1.out
    have c2 : w1.cell? ⟨ra.block, ra.off + 2, none⟩ = some (.int .u8 (x2.toNat : Int)) := C2.out
    have hx1 := x1.toNat_lt
    have hx2 := x2.toNat_lt
    go_wp2_with fail
    go_quiet (fail)
    have hfl : ((x1.toNat : Int) + 256 * (x2.toNat : Int)) = (flen b : Int) := by have := HFL.out; omega
    rw [hfl]
    clear hx1 hx2 hfl c1 c2
    obtain ⟨W, hW⟩ : ∃ W, W = w1.drewN nq := ⟨_, rfl⟩
    rw [← hW]
    have hEq : Ext w1 W := hW ▸ Ext.drewN w1 nq
    clear hW
    replace hE := hE.trans hEq
    replace hB := hEq.obj hB
    replace c0 := hEq.cell c0
    replace hsz : w.heap.size < W.heap.size := by have := hEq.size; omega
    clear hEq
    have hI : (flen b : Int) + 11 ≤ b.length := by omega
    have hI2 : (flen b : Int) + 11 ≤ cap := by omega
    have hI3 : 7 + (flen b : Int) + 4 ≤ b.length := by omega
    go_wp2_with fail
    refine (rcut_any _ _ _ (HP2.out.ext hE) (by simp; omega)).mono ?_
    rintro e w2 ⟨r2, rfl, hr2, hw2⟩
    rw [H6.out]
    replace hB := hw2.obj hB
    obtain ⟨k0, k1, k2, k3⟩ := blk2 hB
    have hE2 := hE.trans hw2
    have hsz2 := hw2.size
    rw [HCUT2.out] at hr2
    obtain ⟨so, sc, rfl, -, -, -, -⟩ := hr2.byt.open
    replace c0 := hw2.cell c0
    have hr3 := own_setLow (own_setLow hr2 ⟨w.heap.size, 0, none⟩ (.int .u8 (x0.toNat : Int)) hsz) ⟨w.heap.size, 1, none⟩ (.slice so bd.length sc) hsz
    have hB2 := Go.Joins.block_setCell (i := 1) (Go.Joins.block_setCell (i := 0) hB (.int .u8 (x0.toNat : Int))) (.slice so bd.length sc)
    clear hB
    go_wp2
    obtain ⟨m0, m1, -, -⟩ := blk2 hB2
    refine bodyPost_ret (rread_results _ _ _ _ _ rfl m0 m1) rfl ?_
    unfold ReadR
    rw [HR.out]
    exact ⟨_, ret_fr (by show (flen b : Int) + 11 = ((flen b + 11 : Nat) : Int); omega), hr3.mono (Nat.le_of_lt hsz), by (repeat' (first | (with_reducible exact Below.refl _ _) | (with_reducible assumption) | (with_reducible refine Below.alloc ?_ ?_ _) | (with_reducible refine Below.drew ?_) | (with_reducible refine Below.setCell ?_ ?_ _) | (refine Go.Tum.Ext.trans ?_ (by with_reducible assumption)) | go_size))⟩

end Go.Proofs.YtafdandnbbbdfaaDoor
