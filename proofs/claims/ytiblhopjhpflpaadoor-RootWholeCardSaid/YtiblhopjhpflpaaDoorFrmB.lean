/- Package frame: Read. -/
import Derived.Test.YtiblhopjhpflpaaDoorFrmA
import Derived.Handy
import Derived.Lib.SmallJoins
set_option maxRecDepth 100000
namespace Go.Proofs.YtiblhopjhpflpaaDoor
open Go.RowKit Go.Tum Go.Tum.Crc

theorem i64_or_nat (a b : Nat) (ha : a < 9223372036854775808) (hb : b < 9223372036854775808) : bits .or .i64 (a : Int) (b : Int) = ((a ||| b : Nat) : Int) := by
  have hx : a ||| b < 2 ^ 63 := Nat.or_lt_two_pow (by omega) (by omega)
  show IntKind.i64.wrap ((BitVec.ofInt 64 (a : Int) ||| BitVec.ofInt 64 (b : Int)).toNat : Int) = _
  have e : ∀ a : Nat, a < 9223372036854775808 → (BitVec.ofInt 64 (a : Int)).toNat = a := fun a ha => by
    rw [BitVec.ofInt_natCast, BitVec.toNat_ofNat]; exact Nat.mod_eq_of_lt (by omega)
  rw [BitVec.toNat_or, e a ha, e b hb, IntKind.wrap_i64]
  omega
theorem or_two (a b : UInt8) : bits .or .i64 (bits .or .i64 0 (a.toNat : Int)) ((b.toNat : Int) * 256) = ((a.toNat + 256 * b.toNat : Nat) : Int) := by
  have ha := a.toNat_lt
  have hb := b.toNat_lt
  have e1 := i64_or_nat 0 a.toNat (by omega) (by omega)
  rw [Nat.zero_or] at e1
  have e2 : ((b.toNat : Int) * 256) = ((256 * b.toNat : Nat) : Int) := by omega
  rw [show ((0 : Int)) = ((0 : Nat) : Int) from rfl, e1, e2, i64_or_nat _ _ (by omega) (by omega), Nat.or_comm, nat_join 8 _ _ (by omega) ha, Nat.add_comm]

theorem ret_val {k : IntKind} {a b : Int} (h : a = b) : Ending.returned (.int k a) = .returned (.int k b) := by rw [h]

set_option maxRecDepth 100000 in
theorem number_any (v : Value) (a b : UInt8) (w : World) (hb : Byt w v [a, b]) :
    Calls Tryd.prog 73 #[v] w fun e w' => e = .returned (.int .i64 ((a.toNat + 256 * b.toNat : Nat) : Int)) ∧ w = w' := by
  obtain ⟨ao, cap, rfl, hle, hm, hnn, hcell⟩ := hb.open
  obtain ⟨p, rfl⟩ := hnn (by simp at hle; omega)
  have c0 : w.cell? p = some (.int .u8 (a.toNat : Int)) := hcell p rfl 0 (by simp)
  have c1 : w.cell? ⟨p.block, p.off + 1, none⟩ = some (.int .u8 (b.toNat : Int)) := hcell p rfl 1 (by simp)
  have ha := a.toNat_lt
  have hb' := b.toNat_lt
  clear hcell hnn hb
  go_enter Tryd.func73, Tryd.ntmps73
  go_wp2
  refine wp_loop_rounds 3 ?_
  rw [rounds_succ]
  go_wp2
  rw [rounds_succ]
  go_wp2
  rw [rounds_succ]
  go_wp2
  go_ret
  exact ⟨ret_val (or_two a b), rfl⟩

theorem cut_isPut {l : List UInt8} (h : isPut l = true) : Crc.cut l = l.take (l.length - 4) := by unfold Crc.cut; rw [if_pos h]
theorem cut_not {l : List UInt8} (h : isPut l = false) : Crc.cut l = [] := by unfold Crc.cut; rw [h]; rfl
theorem take3 (b : List UInt8) (h : 7 ≤ b.length) : (b.take 7).take ((b.take 7).length - 4) = [b.getD 0 0, b.getD 1 0, b.getD 2 0] := by
  match b, h with
  | x :: y :: z :: _ :: _ :: _ :: _ :: r, _ => simp

theorem blk2 {w : World} {b : Nat} {p q : Value} {ty : TypeId} (h : w.heap[b]? = some (.cells #[p, q] ty (0, 0))) :
    w.cell? ⟨b, 0, none⟩ = some p ∧ w.cell? ⟨b, 1, none⟩ = some q ∧ w.frozen? ⟨b, 0, none⟩ = false ∧ w.frozen? ⟨b, 1, none⟩ = false := by
  refine ⟨by rw [cell_of_row _ _ _ _ _ _ h]; rfl, by rw [cell_of_row _ _ _ _ _ _ h]; rfl, by simp [World.frozen?, h], by simp [World.frozen?, h]⟩
theorem own_setLow {w : World} {b e : Nat} {v : Value} {l : List UInt8} (h : Own w b e v l) (a : Addr) (u : Value) (ha : a.block < b) : Own (w.setCell a u) b e v l := by
  refine ⟨h.1, ?_⟩
  rcases h.2 with hn | ⟨g', cap', cur, hv, hb, hgg, rest⟩
  · exact .inl hn
  · exact .inr ⟨g', cap', cur, hv, hb, by rw [heap_setCell_other _ _ _ _ (by omega)]; exact hgg, rest⟩

theorem ret_fr {x : Value} {n m e : Int} (h : n = m) : Ending.returned (.tuple #[x, .int .i64 n, .int .i64 e]) = .returned (.tuple #[x, .int .i64 m, .int .i64 e]) := by rw [h]

theorem read_results (tmps : Array Value) (w : World) (B : Nat) (p q : Value) (h2 : tmps.getD 2 undef = .pointer (some ⟨B, 0, none⟩)) (m0 : w.cell? ⟨B, 0, none⟩ = some p) (m1 : w.cell? ⟨B, 1, none⟩ = some q) :
    (results Tryd.f60 tmps).run Tryd.prog w = .ok (.tuple #[.agg #[p, q], tmps.getD 3 undef, tmps.getD 4 undef]) w := by
  have h2' : tmps[2]?.getD undef = .pointer (some ⟨B, 0, none⟩) := by simpa using h2
  simp [results, Tryd.results60, go_sem, h2', m0, m1]

/-- What Read answers. -/
def ReadR (T : Nat) (w : World) (b : List UInt8) (e : Ending) (w' : World) : Prop :=
  ∃ r, e = .returned (.tuple #[fv (fread b).1 r, .int .i64 ((fread b).2.1 : Nat), .int .i64 (fread b).2.2]) ∧ Own w' w.heap.size T r (fread b).1.body ∧ Ext w w'

set_option maxRecDepth 100000 in
set_option maxHeartbeats 1000000 in
theorem read_any (v : Value) (b : List UInt8) (w : World) (hb : Byt w v b) (hl : b.length ≤ 1048576) :
    Calls Tryd.prog 60 #[v] w (ReadR 5 w b) := by
  obtain ⟨ao, cap, rfl, hle, hm, hnn, hcell⟩ := hb.open
  have HN := hid hnn
  clear hcell hnn
  have HB := hid hb
  clear hb
  by_cases h7 : b.length < 7
  · have hdec : decide ((b.length : Int) < 7) = true := by simp; omega
    have hR : fread b = (f0, 0, 3) := by unfold fread; rw [if_pos h7]
    have HR := hid hR
    clear hR
    go_enter Tryd.func60, Tryd.ntmps60
    go_wp2
    go_returns
    unfold ReadR
    rw [HR.out]
    exact ⟨.slice none 0 0, rfl, Own.nil _ _ _, by (repeat' (first | (with_reducible exact Below.refl _ _) | (with_reducible assumption) | (with_reducible refine Below.alloc ?_ ?_ _) | (with_reducible refine Below.drew ?_) | (with_reducible refine Below.setCell ?_ ?_ _) | (refine Go.Tum.Ext.trans ?_ (by with_reducible assumption)) | go_size))⟩
  have hdec : decide ((b.length : Int) < 7) = false := by simp; omega
  have hp1 : Byt w (.slice ao 7 cap) (b.take 7) := by
    have := Byt.part HB.out 0 7 (by omega) (by omega) ao (by split <;> simp [Addr.add])
    simpa using this
  have HP1 := hid hp1
  clear hp1
  by_cases h1 : isPut (b.take 7) = false
  · have hR : fread b = (f0, 0, 8) := by unfold fread; rw [if_neg h7, if_pos h1]
    have HR := hid hR
    have H1 := hid h1
    clear hR h1
    go_enter Tryd.func60, Tryd.ntmps60
    go_wp2_with fail
    refine (cut_any _ (b.take 7) _ (HP1.out.ext (Ext.alloc _ _)) (by simp; omega)).mono ?_
    rintro e w1 ⟨r, rfl, hr, hw1⟩
    rw [H1.out]
    have hE : Ext w w1 := (Ext.alloc _ _).trans hw1
    have hB := hw1.obj (heap_alloc_new w _)
    have HSZ := hid hw1.size
    have hsz : w.heap.size < w1.heap.size := by have := hw1.size; simp at this; omega
    clear hw1
    clear hr
    obtain ⟨k0, k1, k2, k3⟩ := blk2 hB
    have hB2 := Go.Joins.block_setCell (i := 1) (Go.Joins.block_setCell (i := 0) hB (.int .u8 0)) (.slice none 0 0)
    clear hB
    go_wp2
    obtain ⟨m0, m1, -, -⟩ := blk2 hB2
    refine bodyPost_ret (read_results _ _ _ _ _ rfl m0 m1) rfl ?_
    unfold ReadR
    rw [HR.out]
    exact ⟨.slice none 0 0, rfl, Own.nil _ _ _, by (repeat' (first | (with_reducible exact Below.refl _ _) | (with_reducible assumption) | (with_reducible refine Below.alloc ?_ ?_ _) | (with_reducible refine Below.drew ?_) | (with_reducible refine Below.setCell ?_ ?_ _) | (refine Go.Tum.Ext.trans ?_ (by with_reducible assumption)) | go_size))⟩
  have h1' : isPut (b.take 7) = true := by simpa using h1
  have H1 := hid h1'
  have hcut := cut_isPut h1'
  rw [take3 b (by omega)] at hcut
  obtain ⟨x0, hx0⟩ : ∃ x, b.getD 0 0 = x := ⟨_, rfl⟩
  obtain ⟨x1, hx1⟩ : ∃ x, b.getD 1 0 = x := ⟨_, rfl⟩
  obtain ⟨x2, hx2⟩ : ∃ x, b.getD 2 0 = x := ⟨_, rfl⟩
  rw [hx0, hx1, hx2] at hcut
  have hfl : ((x1.toNat + 256 * x2.toNat : Nat) : Int) = (flen b : Int) := by rw [← hx1, ← hx2]; rfl
  have HFL := hid hfl
  have HX0 := hid hx0
  have HCUT := hid hcut
  have hn2 : flen b ≤ 65535 := by unfold flen; have := (b.getD 1 0).toNat_lt; have := (b.getD 2 0).toNat_lt; omega
  clear h1' hcut hx0 hx1 hx2 hfl
  by_cases h4 : 400 < flen b
  · have hR : fread b = (f0, 0, 2) := by unfold fread; rw [if_neg h7, if_neg h1, if_pos h4]
    have HR := hid hR
    have hd4 : decide (400 < (flen b : Int)) = true := by simp; omega
    clear hR h1
    go_enter Tryd.func60, Tryd.ntmps60
    go_wp2_with fail
    refine (cut_any _ (b.take 7) _ (HP1.out.ext (Ext.alloc _ _)) (by simp; omega)).mono ?_
    rintro e w1 ⟨r, rfl, hr, hw1⟩
    rw [H1.out]
    have hE : Ext w w1 := (Ext.alloc _ _).trans hw1
    have hB := hw1.obj (heap_alloc_new w _)
    have HSZ := hid hw1.size
    have hsz : w.heap.size < w1.heap.size := by have := hw1.size; simp at this; omega
    clear hw1
    rw [HCUT.out] at hr
    obtain ⟨ro, rc, rfl, hrl, hrm, hrn, hrcell⟩ := hr.byt.open
    have c0 : ∀ a, ro = some a → w1.cell? a = some (.int .u8 (x0.toNat : Int)) := fun a ha => hrcell a ha 0 (by simp)
    obtain ⟨ra, rfl⟩ := hrn (by simp at hrl; omega)
    replace c0 := c0 ra rfl
    simp only [List.length_cons, List.length_nil] at hrl
    have hrl' : 3 ≤ rc := by omega
    have hpn : Byt w1 (.slice (some ⟨ra.block, ra.off + 1, none⟩) 2 (rc - 1)) [x1, x2] := by
      have := Byt.part hr.byt 1 3 (by omega) (by simp) (some ⟨ra.block, ra.off + 1, none⟩) (by rw [if_neg (by omega)]; simp [Addr.add])
      exact this
    have HRO := hid hr
    have HPN := hid hpn
    clear hrcell hrn hpn hr hrl
    go_wp2_with fail
    refine (number_any _ x1 x2 _ HPN.out).mono ?_
    rintro e w9 ⟨rfl, rfl⟩
    rw [HFL.out]
    obtain ⟨k0, k1, k2, k3⟩ := blk2 hB
    have hB2 := Go.Joins.block_setCell (i := 1) (Go.Joins.block_setCell (i := 0) hB (.int .u8 0)) (.slice none 0 0)
    clear hB
    go_wp2
    obtain ⟨m0, m1, -, -⟩ := blk2 hB2
    refine bodyPost_ret (read_results _ _ _ _ _ rfl m0 m1) rfl ?_
    unfold ReadR
    rw [HR.out]
    exact ⟨.slice none 0 0, rfl, Own.nil _ _ _, by (repeat' (first | (with_reducible exact Below.refl _ _) | (with_reducible assumption) | (with_reducible refine Below.alloc ?_ ?_ _) | (with_reducible refine Below.drew ?_) | (with_reducible refine Below.setCell ?_ ?_ _) | (refine Go.Tum.Ext.trans ?_ (by with_reducible assumption)) | go_size))⟩
  have hd4 : decide (400 < (flen b : Int)) = false := by simp; omega
  by_cases h5 : b.length < flen b + 11
  · have hR : fread b = (f0, 0, 3) := by unfold fread; rw [if_neg h7, if_neg h1, if_neg h4, if_pos h5]
    have HR := hid hR
    have hd5 : decide ((b.length : Int) < 7 + (flen b : Int) + 4) = true := by simp; omega
    clear hR h1
    go_enter Tryd.func60, Tryd.ntmps60
    go_wp2_with fail
    refine (cut_any _ (b.take 7) _ (HP1.out.ext (Ext.alloc _ _)) (by simp; omega)).mono ?_
    rintro e w1 ⟨r, rfl, hr, hw1⟩
    rw [H1.out]
    have hE : Ext w w1 := (Ext.alloc _ _).trans hw1
    have hB := hw1.obj (heap_alloc_new w _)
    have HSZ := hid hw1.size
    have hsz : w.heap.size < w1.heap.size := by have := hw1.size; simp at this; omega
    clear hw1
    rw [HCUT.out] at hr
    obtain ⟨ro, rc, rfl, hrl, hrm, hrn, hrcell⟩ := hr.byt.open
    have c0 : ∀ a, ro = some a → w1.cell? a = some (.int .u8 (x0.toNat : Int)) := fun a ha => hrcell a ha 0 (by simp)
    obtain ⟨ra, rfl⟩ := hrn (by simp at hrl; omega)
    replace c0 := c0 ra rfl
    simp only [List.length_cons, List.length_nil] at hrl
    have hrl' : 3 ≤ rc := by omega
    have hpn : Byt w1 (.slice (some ⟨ra.block, ra.off + 1, none⟩) 2 (rc - 1)) [x1, x2] := by
      have := Byt.part hr.byt 1 3 (by omega) (by simp) (some ⟨ra.block, ra.off + 1, none⟩) (by rw [if_neg (by omega)]; simp [Addr.add])
      exact this
    have HRO := hid hr
    have HPN := hid hpn
    clear hrcell hrn hpn hr hrl
    go_wp2_with fail
    refine (number_any _ x1 x2 _ HPN.out).mono ?_
    rintro e w9 ⟨rfl, rfl⟩
    rw [HFL.out]
    obtain ⟨k0, k1, k2, k3⟩ := blk2 hB
    have hB2 := Go.Joins.block_setCell (i := 1) (Go.Joins.block_setCell (i := 0) hB (.int .u8 0)) (.slice none 0 0)
    clear hB
    go_wp2
    obtain ⟨m0, m1, -, -⟩ := blk2 hB2
    refine bodyPost_ret (read_results _ _ _ _ _ rfl m0 m1) rfl ?_
    unfold ReadR
    rw [HR.out]
    exact ⟨.slice none 0 0, rfl, Own.nil _ _ _, by (repeat' (first | (with_reducible exact Below.refl _ _) | (with_reducible assumption) | (with_reducible refine Below.alloc ?_ ?_ _) | (with_reducible refine Below.drew ?_) | (with_reducible refine Below.setCell ?_ ?_ _) | (refine Go.Tum.Ext.trans ?_ (by with_reducible assumption)) | go_size))⟩
  have hd5 : decide ((b.length : Int) < 7 + (flen b : Int) + 4) = false := by simp; omega
  obtain ⟨ap, rfl⟩ := HN.out (by omega)
  have hp2 : Byt w (.slice (some ⟨ap.block, ap.off + 7, none⟩) (7 + flen b - 3) (cap - 7)) ((b.drop 7).take (flen b + 4)) := by
    have h := Byt.part HB.out 7 (flen b + 11) (by omega) (by omega) (some ⟨ap.block, ap.off + 7, none⟩) (by rw [if_neg (by omega)]; simp [Addr.add])
    rw [show flen b + 11 - 7 = flen b + 4 by omega] at h
    rw [show 7 + flen b - 3 = flen b + 4 by omega]
    exact h
  have HP2 := hid hp2
  clear hp2
  cases h6 : isPut ((b.drop 7).take (flen b + 4)) with
  | false =>
    have hR : fread b = (f0, 0, 8) := by unfold fread; rw [if_neg h7, if_neg h1, if_neg h4, if_neg h5, if_pos h6]
    have HR := hid hR
    have H6 := hid h6
    clear hR h1 h6
    go_enter Tryd.func60, Tryd.ntmps60
    go_wp2_with fail
    refine (cut_any _ (b.take 7) _ (HP1.out.ext (Ext.alloc _ _)) (by simp; omega)).mono ?_
    rintro e w1 ⟨r, rfl, hr, hw1⟩
    rw [H1.out]
    have hE : Ext w w1 := (Ext.alloc _ _).trans hw1
    have hB := hw1.obj (heap_alloc_new w _)
    have HSZ := hid hw1.size
    have hsz : w.heap.size < w1.heap.size := by have := hw1.size; simp at this; omega
    clear hw1
    rw [HCUT.out] at hr
    obtain ⟨ro, rc, rfl, hrl, hrm, hrn, hrcell⟩ := hr.byt.open
    have c0 : ∀ a, ro = some a → w1.cell? a = some (.int .u8 (x0.toNat : Int)) := fun a ha => hrcell a ha 0 (by simp)
    obtain ⟨ra, rfl⟩ := hrn (by simp at hrl; omega)
    replace c0 := c0 ra rfl
    simp only [List.length_cons, List.length_nil] at hrl
    have hrl' : 3 ≤ rc := by omega
    have hpn : Byt w1 (.slice (some ⟨ra.block, ra.off + 1, none⟩) 2 (rc - 1)) [x1, x2] := by
      have := Byt.part hr.byt 1 3 (by omega) (by simp) (some ⟨ra.block, ra.off + 1, none⟩) (by rw [if_neg (by omega)]; simp [Addr.add])
      exact this
    have HRO := hid hr
    have HPN := hid hpn
    clear hrcell hrn hpn hr hrl
    go_wp2_with fail
    refine (number_any _ x1 x2 _ HPN.out).mono ?_
    rintro e w9 ⟨rfl, rfl⟩
    rw [HFL.out]
    have hI : (flen b : Int) + 11 ≤ b.length := by omega
    have hI2 : (flen b : Int) + 11 ≤ cap := by omega
    have hI3 : 7 + (flen b : Int) + 4 ≤ b.length := by omega
    go_wp2_with fail
    refine (cut_any _ _ _ (HP2.out.ext hE) (by simp; omega)).mono ?_
    rintro e w2 ⟨r2, rfl, hr2, hw2⟩
    rw [H6.out]
    replace hB := hw2.obj hB
    obtain ⟨k0, k1, k2, k3⟩ := blk2 hB
    have hE2 := hE.trans hw2
    have hsz2 := hw2.size
    have hB2 := Go.Joins.block_setCell (i := 1) (Go.Joins.block_setCell (i := 0) hB (.int .u8 0)) (.slice none 0 0)
    clear hB
    go_wp2
    obtain ⟨m0, m1, -, -⟩ := blk2 hB2
    refine bodyPost_ret (read_results _ _ _ _ _ rfl m0 m1) rfl ?_
    unfold ReadR
    rw [HR.out]
    exact ⟨.slice none 0 0, rfl, Own.nil _ _ _, by (repeat' (first | (with_reducible exact Below.refl _ _) | (with_reducible assumption) | (with_reducible refine Below.alloc ?_ ?_ _) | (with_reducible refine Below.drew ?_) | (with_reducible refine Below.setCell ?_ ?_ _) | (refine Go.Tum.Ext.trans ?_ (by with_reducible assumption)) | go_size))⟩
  | true =>
    have hR : fread b = (⟨x0, (b.drop 7).take (flen b)⟩, flen b + 11, 0) := by unfold fread; rw [if_neg h7, if_neg h1, if_neg h4, if_neg h5, if_neg (by rw [h6]; decide), HX0.out]
    have hcut2 : Crc.cut ((b.drop 7).take (flen b + 4)) = (b.drop 7).take (flen b) := by
      rw [cut_isPut h6, List.take_take]
      congr 1
      simp; omega
    obtain ⟨bd, hbd⟩ : ∃ x, (b.drop 7).take (flen b) = x := ⟨_, rfl⟩
    rw [hbd] at hcut2 hR
    have HCUT2 := hid hcut2
    clear hcut2 hbd
    have HR := hid hR
    have H6 := hid h6
    clear hR h1 h6
    go_enter Tryd.func60, Tryd.ntmps60
    go_wp2_with fail
    refine (cut_any _ (b.take 7) _ (HP1.out.ext (Ext.alloc _ _)) (by simp; omega)).mono ?_
    rintro e w1 ⟨r, rfl, hr, hw1⟩
    rw [H1.out]
    have hE : Ext w w1 := (Ext.alloc _ _).trans hw1
    have hB := hw1.obj (heap_alloc_new w _)
    have HSZ := hid hw1.size
    have hsz : w.heap.size < w1.heap.size := by have := hw1.size; simp at this; omega
    clear hw1
    rw [HCUT.out] at hr
    obtain ⟨ro, rc, rfl, hrl, hrm, hrn, hrcell⟩ := hr.byt.open
    have c0 : ∀ a, ro = some a → w1.cell? a = some (.int .u8 (x0.toNat : Int)) := fun a ha => hrcell a ha 0 (by simp)
    obtain ⟨ra, rfl⟩ := hrn (by simp at hrl; omega)
    replace c0 := c0 ra rfl
    simp only [List.length_cons, List.length_nil] at hrl
    have hrl' : 3 ≤ rc := by omega
    have hpn : Byt w1 (.slice (some ⟨ra.block, ra.off + 1, none⟩) 2 (rc - 1)) [x1, x2] := by
      have := Byt.part hr.byt 1 3 (by omega) (by simp) (some ⟨ra.block, ra.off + 1, none⟩) (by rw [if_neg (by omega)]; simp [Addr.add])
      exact this
    have HRO := hid hr
    have HPN := hid hpn
    clear hrcell hrn hpn hr hrl
    go_wp2_with fail
    refine (number_any _ x1 x2 _ HPN.out).mono ?_
    rintro e w9 ⟨rfl, rfl⟩
    rw [HFL.out]
    have hI : (flen b : Int) + 11 ≤ b.length := by omega
    have hI2 : (flen b : Int) + 11 ≤ cap := by omega
    have hI3 : 7 + (flen b : Int) + 4 ≤ b.length := by omega
    go_wp2_with fail
    refine (cut_any _ _ _ (HP2.out.ext hE) (by simp; omega)).mono ?_
    rintro e w2 ⟨r2, rfl, hr2, hw2⟩
    rw [H6.out]
    replace hB := hw2.obj hB
    obtain ⟨k0, k1, k2, k3⟩ := blk2 hB
    have hE2 := hE.trans hw2
    have hsz2 := hw2.size
    rw [HCUT2.out] at hr2
    obtain ⟨so, sc, rfl, -, -, -, -⟩ := hr2.byt.open
    replace c0 := hw2.cell c0
    have hr3 := own_setLow (own_setLow hr2 ⟨w.heap.size, 0, none⟩ (.int .u8 (x0.toNat : Int)) hsz) ⟨w.heap.size, 1, none⟩ (.slice so bd.length sc) hsz
    have hB2 := Go.Joins.block_setCell (i := 1) (Go.Joins.block_setCell (i := 0) hB (.int .u8 (x0.toNat : Int))) (.slice so bd.length sc)
    clear hB
    go_wp2
    obtain ⟨m0, m1, -, -⟩ := blk2 hB2
    refine bodyPost_ret (read_results _ _ _ _ _ rfl m0 m1) rfl ?_
    unfold ReadR
    rw [HR.out]
    exact ⟨_, ret_fr (by show 7 + (flen b : Int) + 4 = ((flen b + 11 : Nat) : Int); omega), hr3.mono (Nat.le_of_lt hsz), by (repeat' (first | (with_reducible exact Below.refl _ _) | (with_reducible assumption) | (with_reducible refine Below.alloc ?_ ?_ _) | (with_reducible refine Below.drew ?_) | (with_reducible refine Below.setCell ?_ ?_ _) | (refine Go.Tum.Ext.trans ?_ (by with_reducible assumption)) | go_size))⟩

end Go.Proofs.YtiblhopjhpflpaaDoor
