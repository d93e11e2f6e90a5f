/- SnapSegs, with awake.
Messages and a snapshot as arguments.
The document's records: Read.
The document's records: Same; the statement's own.
Snap's laws: awake.
SnapSegs. -/
import Derived.Test.YtpbmbjdiilnaeaaDoorSnpD
import Derived.Test.YtpbmbjdiilnaeaaDoorOpenV
import Derived.Test.YtpbmbjdiilnaeaaDoorRecE
import Derived.Test.YtpbmbjdiilnaeaaDoorRecC
import Derived.Test.YtpbmbjdiilnaeaaDoorRecL
import Derived.Test.YtpbmbjdiilnaeaaDoorSnpMA
set_option linter.unusedSimpArgs false
set_option linter.unusedVariables false
set_option maxRecDepth 100000
namespace Go.Proofs.YtpbmbjdiilnaeaaDoor
open Go Go.RowKit Go.Tum Go.ChangeMaps Go.Sort Go.Tum.Vint Go.Tum.Crc Go.WideShapes Go.ChangeShapes Go.Deep

theorem sl_shape {w : World} {sz n : Nat} {v : Value} {l : List Value} (h : Sl w sz v n l) : ∃ o c, v = .slice o n c := by
  obtain ⟨-, o, c, e, -⟩ := h
  exact ⟨o, c, e⟩
def tabZ : List Int := [0, 0, 5, 2, 1, 2, 2, 1, 1, 1, 1, 1, 5, 7, 10, 2, 1, 1]
theorem tabZ_at : ∀ i : Fin 18, tabZ.getD i.val 0 = ((manyT.getD i.val 0 : Nat) : Int) := by decide
theorem cellsIx : Tryd.prog.cellsOf 3 = 1 := by kernel_rfl
theorem cellsUx : Tryd.prog.cellsOf 22 = 1 := by kernel_rfl
theorem cellsSx : Tryd.prog.cellsOf 9 = 1 := by kernel_rfl
theorem cellsWh : Tryd.prog.cellsOf 67 = 3 := by kernel_rfl
theorem nmI_of (s : ByteArray) : s = str s.data.toList := by
  apply ByteArray.ext
  simp [str]
theorem nmI_len {s : ByteArray} (h : s.size ≤ maxLen) : s.data.toList.length ≤ maxLen := by
  have : s.data.toList.length = s.size := Array.length_toList
  rw [this]; exact h
theorem cellsItS : Tryd.prog.cellsOf 69 = 10 := by kernel_rfl
theorem cellsLfS : Tryd.prog.cellsOf 65 = 4 := by kernel_rfl
theorem cellsRwS : Tryd.prog.cellsOf 75 = 2 := by kernel_rfl
theorem cellsCrS : Tryd.prog.cellsOf 77 = 2 := by kernel_rfl
theorem cellsStS : Tryd.prog.cellsOf 27 = 8 := by kernel_rfl
theorem cellsSlI : Tryd.prog.cellsOf 23 = 1 := by kernel_rfl
theorem cellsSlR : Tryd.prog.cellsOf 24 = 1 := by kernel_rfl
theorem cellsSlC : Tryd.prog.cellsOf 25 = 1 := by kernel_rfl
theorem list10 {α : Type} {l : List α} (h : l.length = 10) : ∃ a b c d e f g i j k, l = [a, b, c, d, e, f, g, i, j, k] := by
  match l, h with
  | [a, b, c, d, e, f, g, i, j, k], _ => exact ⟨a, b, c, d, e, f, g, i, j, k, rfl⟩
theorem list2 {α : Type} {l : List α} (h : l.length = 2) : ∃ a b, l = [a, b] := by
  match l, h with
  | [a, b], _ => exact ⟨a, b, rfl⟩
section
variable {H : Type} {enc : TypeId × Value → H} {w : World} {base : Nat} {held : Bool}
theorem open_where {fuel : Nat} {c0 c1 c2 : Value} {x : DataW H × List MemPlace} (hf : DataW.trod enc Tryd.prog w base (fun _ => true) held fuel 67 [c0, c1, c2] = some x) :
    ∃ (sg ps : UInt64) (sz : Int), [c0, c1, c2] = [uv sg, uv ps, .int .i64 sz] := by
  obtain ⟨y0, y1, y2, n, -, -, h0, h1, h2⟩ := trod_struct3 Tryd.underlying67 hf
  simp only [cellsUx, cellsIx, List.drop_zero, List.drop_succ_cons, List.take_succ_cons, List.take_zero] at h0 h1 h2
  obtain ⟨a0, e0, -, w0⟩ := DataW.trod_int Tryd.underlying22 h0
  obtain ⟨a1, e1, -, w1⟩ := DataW.trod_int Tryd.underlying22 h1
  obtain ⟨a2, e2, -, w2⟩ := DataW.trod_int Tryd.underlying3 h2
  obtain ⟨u, rfl⟩ := u64_of w0
  obtain ⟨u', rfl⟩ := u64_of w1
  simp only [List.cons.injEq, and_true] at e0 e1 e2
  subst e0 e1 e2
  exact ⟨u, u', a2, rfl⟩
theorem open_lifeS {fuel : Nat} {c0 c1 c2 c3 : Value} {x : DataW H × List MemPlace} (hf : DataW.trod enc Tryd.prog w base (fun _ => true) held fuel 65 [c0, c1, c2, c3] = some x) :
    ∃ (st ct : Int) (du tk : UInt64), [c0, c1, c2, c3] = [.int .i64 st, .int .i64 ct, uv du, uv tk] := by
  obtain ⟨ys, n', -, -, -, hyl, hfj⟩ := DataW.trod_struct Tryd.underlying65 hf
  have t0 : DataW.trod enc Tryd.prog w base (fun _ => true) held n' 3 (([c0, c1, c2, c3].drop 0).take (Tryd.prog.cellsOf 3)) = ys[0]? := hfj 0 _ rfl
  have t1 : DataW.trod enc Tryd.prog w base (fun _ => true) held n' 3 (([c0, c1, c2, c3].drop 1).take (Tryd.prog.cellsOf 3)) = ys[1]? := hfj 1 _ rfl
  have t2 : DataW.trod enc Tryd.prog w base (fun _ => true) held n' 22 (([c0, c1, c2, c3].drop 2).take (Tryd.prog.cellsOf 22)) = ys[2]? := hfj 2 _ rfl
  have t3 : DataW.trod enc Tryd.prog w base (fun _ => true) held n' 22 (([c0, c1, c2, c3].drop 3).take (Tryd.prog.cellsOf 22)) = ys[3]? := hfj 3 _ rfl
  have hyl : ys.length = 4 := hyl
  rw [cellsIx] at t0 t1
  rw [cellsUx] at t2 t3
  have g0 : DataW.trod enc Tryd.prog w base (fun _ => true) held n' 3 [c0] = _ := t0.trans (List.getElem?_eq_getElem (show 0 < ys.length by omega))
  have g1 : DataW.trod enc Tryd.prog w base (fun _ => true) held n' 3 [c1] = _ := t1.trans (List.getElem?_eq_getElem (show 1 < ys.length by omega))
  have g2 : DataW.trod enc Tryd.prog w base (fun _ => true) held n' 22 [c2] = _ := t2.trans (List.getElem?_eq_getElem (show 2 < ys.length by omega))
  have g3 : DataW.trod enc Tryd.prog w base (fun _ => true) held n' 22 [c3] = _ := t3.trans (List.getElem?_eq_getElem (show 3 < ys.length by omega))
  obtain ⟨z0, e0, -, w0⟩ := DataW.trod_int Tryd.underlying3 g0
  obtain ⟨z1, e1, -, w1⟩ := DataW.trod_int Tryd.underlying3 g1
  obtain ⟨z2, e2, -, w2⟩ := DataW.trod_int Tryd.underlying22 g2
  obtain ⟨z3, e3, -, w3⟩ := DataW.trod_int Tryd.underlying22 g3
  obtain ⟨u2, rfl⟩ := u64_of w2
  obtain ⟨u3, rfl⟩ := u64_of w3
  simp only [List.cons.injEq, and_true] at e0 e1 e2 e3
  subst e0 e1 e2 e3
  exact ⟨z0, z1, u2, u3, rfl⟩
theorem open_itemsS {fuel : Nat} {v : Value} {x : DataW H × List MemPlace} (hf : DataW.trod enc Tryd.prog w base (fun _ => true) held fuel 23 [v] = some x) : ∃ m : List Itm, Sl w 10 v m.length (m.flatMap itcells) := by
  rcases open_slice Tryd.underlying23 hf with ⟨h0, _⟩ | ⟨a, len, cap, m, n0, D, Pl, hcs, hb, hl, hm, hmm, hx, hi⟩
  · simp at h0
    subst h0
    exact ⟨[], Sl.nil _ _⟩
  · simp at hcs
    subst hcs
    simp at hmm
    subst hmm
    have hrow : ∀ i, i < len → ∃ q : Itm, ∀ j u, (itcells q)[j]? = some u → w.cell? (a.add (i * 10 + j)) = some u := by
      intro i hil
      obtain ⟨cs', hc, htr⟩ := hi i (by omega)
      rw [cellsItS] at hc
      obtain ⟨_, hcl, hat⟩ := World.cells?_some hc
      obtain ⟨ys, n', -, -, -, hyl, hfj⟩ := DataW.trod_struct Tryd.underlying69 htr
      obtain ⟨c0, c1, c2, c3, c4, c5, c6, c7, c8, c9, rfl⟩ := list10 hcl
      have hcell : ∀ j u, [c0, c1, c2, c3, c4, c5, c6, c7, c8, c9][j]? = some u → w.cell? (a.add (i * 10 + j)) = some u := by
        intro j u hu
        have hj : j < 10 := (List.getElem?_eq_some_iff.1 hu).1
        have h1 := hat j hj
        rw [Go.Deep.add_add] at h1
        rw [h1, hu]
      have t0 : DataW.trod enc Tryd.prog w base (fun _ => true) held n' 22 (([c0, c1, c2, c3, c4, c5, c6, c7, c8, c9].drop 0).take (Tryd.prog.cellsOf 22)) = ys[0]? := hfj 0 _ rfl
      have t1 : DataW.trod enc Tryd.prog w base (fun _ => true) held n' 3 (([c0, c1, c2, c3, c4, c5, c6, c7, c8, c9].drop 1).take (Tryd.prog.cellsOf 3)) = ys[1]? := hfj 1 _ rfl
      have t2 : DataW.trod enc Tryd.prog w base (fun _ => true) held n' 65 (([c0, c1, c2, c3, c4, c5, c6, c7, c8, c9].drop 2).take (Tryd.prog.cellsOf 65)) = ys[2]? := hfj 2 _ rfl
      have t3 : DataW.trod enc Tryd.prog w base (fun _ => true) held n' 22 (([c0, c1, c2, c3, c4, c5, c6, c7, c8, c9].drop 6).take (Tryd.prog.cellsOf 22)) = ys[3]? := hfj 3 _ rfl
      have t4 : DataW.trod enc Tryd.prog w base (fun _ => true) held n' 67 (([c0, c1, c2, c3, c4, c5, c6, c7, c8, c9].drop 7).take (Tryd.prog.cellsOf 67)) = ys[4]? := hfj 4 _ rfl
      have hyl : ys.length = 5 := hyl
      rw [cellsUx] at t0 t3
      rw [cellsIx] at t1
      rw [cellsLfS] at t2
      rw [cellsWh] at t4
      have g0 : DataW.trod enc Tryd.prog w base (fun _ => true) held n' 22 [c0] = _ := t0.trans (List.getElem?_eq_getElem (show 0 < ys.length by omega))
      have g1 : DataW.trod enc Tryd.prog w base (fun _ => true) held n' 3 [c1] = _ := t1.trans (List.getElem?_eq_getElem (show 1 < ys.length by omega))
      have g2 : DataW.trod enc Tryd.prog w base (fun _ => true) held n' 65 [c2, c3, c4, c5] = _ := t2.trans (List.getElem?_eq_getElem (show 2 < ys.length by omega))
      have g3 : DataW.trod enc Tryd.prog w base (fun _ => true) held n' 22 [c6] = _ := t3.trans (List.getElem?_eq_getElem (show 3 < ys.length by omega))
      have g4 : DataW.trod enc Tryd.prog w base (fun _ => true) held n' 67 [c7, c8, c9] = _ := t4.trans (List.getElem?_eq_getElem (show 4 < ys.length by omega))
      obtain ⟨z0, e0, -, w0⟩ := DataW.trod_int Tryd.underlying22 g0
      obtain ⟨z1, e1, -, w1⟩ := DataW.trod_int Tryd.underlying3 g1
      obtain ⟨st, ct, du, tk, e2⟩ := open_lifeS g2
      obtain ⟨z3, e3, -, w3⟩ := DataW.trod_int Tryd.underlying22 g3
      obtain ⟨sg, ps, sz, e4⟩ := open_where g4
      obtain ⟨u0, rfl⟩ := u64_of w0
      obtain ⟨u3, rfl⟩ := u64_of w3
      simp only [List.cons.injEq, and_true] at e0 e1 e2 e3 e4
      obtain ⟨rfl, rfl, rfl, rfl⟩ := e2
      obtain ⟨rfl, rfl, rfl⟩ := e4
      subst e0 e1 e3
      exact ⟨⟨u0, z1, st, ct, du, tk, u3, sg, ps, sz⟩, fun j u hu => hcell j u hu⟩
    obtain ⟨q, hq, hQ⟩ := list_of len hrow
    exact ⟨q, (RowsOf.mk' (c := itcells) hq hl hm (by decide) (fun _ _ => rfl) (fun i h j u hu => hQ i h j u hu)).2⟩
theorem open_rowsS {fuel : Nat} {v : Value} {x : DataW H × List MemPlace} (hf : DataW.trod enc Tryd.prog w base (fun _ => true) held fuel 24 [v] = some x) : ∃ m : List (UInt64 × UInt64), Sl w 2 v m.length (m.flatMap ddcells) := by
  rcases open_slice Tryd.underlying24 hf with ⟨h0, _⟩ | ⟨a, len, cap, m, n0, D, Pl, hcs, hb, hl, hm, hmm, hx, hi⟩
  · simp at h0
    subst h0
    exact ⟨[], Sl.nil _ _⟩
  · simp at hcs
    subst hcs
    simp at hmm
    subst hmm
    have hrow : ∀ i, i < len → ∃ q : UInt64 × UInt64, ∀ j u, (ddcells q)[j]? = some u → w.cell? (a.add (i * 2 + j)) = some u := by
      intro i hil
      obtain ⟨cs', hc, htr⟩ := hi i (by omega)
      rw [cellsRwS] at hc
      obtain ⟨_, hcl, hat⟩ := World.cells?_some hc
      obtain ⟨ys, n', -, -, -, hyl, hfj⟩ := DataW.trod_struct Tryd.underlying75 htr
      obtain ⟨c0, c1, rfl⟩ := list2 hcl
      have hcell : ∀ j u, [c0, c1][j]? = some u → w.cell? (a.add (i * 2 + j)) = some u := by
        intro j u hu
        have hj : j < 2 := (List.getElem?_eq_some_iff.1 hu).1
        have h1 := hat j hj
        rw [Go.Deep.add_add] at h1
        rw [h1, hu]
      have k0 := hcell 0 c0 rfl
      have k1 := hcell 1 c1 rfl
      have t0 : DataW.trod enc Tryd.prog w base (fun _ => true) held n' 22 (([c0, c1].drop 0).take (Tryd.prog.cellsOf 22)) = ys[0]? := hfj 0 _ rfl
      have t1 : DataW.trod enc Tryd.prog w base (fun _ => true) held n' 22 (([c0, c1].drop 1).take (Tryd.prog.cellsOf 22)) = ys[1]? := hfj 1 _ rfl
      have hyl : ys.length = 2 := hyl
      rw [cellsUx] at t0
      rw [cellsUx] at t1
      replace t0 : DataW.trod enc Tryd.prog w base (fun _ => true) held n' 22 [c0] = _ := t0.trans (List.getElem?_eq_getElem (show 0 < ys.length by omega))
      replace t1 : DataW.trod enc Tryd.prog w base (fun _ => true) held n' 22 [c1] = _ := t1.trans (List.getElem?_eq_getElem (show 1 < ys.length by omega))
      obtain ⟨z0, e, -, hw0⟩ := DataW.trod_int Tryd.underlying22 t0
      simp at e; subst e
      obtain ⟨x0, rfl⟩ := u64_of hw0
      obtain ⟨z1, e, -, hw1⟩ := DataW.trod_int Tryd.underlying22 t1
      simp at e; subst e
      obtain ⟨x1, rfl⟩ := u64_of hw1
      refine ⟨(x0, x1), fun j u hu => ?_⟩
      match j, hu with
      | 0, hu => simp [ddcells, cucells] at hu; subst hu; exact k0
      | 1, hu => simp [ddcells, cucells] at hu; subst hu; exact k1
    obtain ⟨q, hq, hQ⟩ := list_of len hrow
    exact ⟨q, (RowsOf.mk' (c := ddcells) hq hl hm (by decide) (fun _ _ => rfl) (fun i h j u hu => hQ i h j u hu)).2⟩
theorem open_cursS {fuel : Nat} {v : Value} {x : DataW H × List MemPlace} (hf : DataW.trod enc Tryd.prog w base (fun _ => true) held fuel 25 [v] = some x) : ∃ m : List (List UInt8 × UInt64), Sl w 2 v m.length (m.flatMap cucells) ∧ ∀ q ∈ m, q.1.length ≤ maxLen := by
  rcases open_slice Tryd.underlying25 hf with ⟨h0, _⟩ | ⟨a, len, cap, m, n0, D, Pl, hcs, hb, hl, hm, hmm, hx, hi⟩
  · simp at h0
    subst h0
    exact ⟨[], Sl.nil _ _, fun p h => absurd h (by simp)⟩
  · simp at hcs
    subst hcs
    simp at hmm
    subst hmm
    have hrow : ∀ i, i < len → ∃ q : List UInt8 × UInt64, q.1.length ≤ maxLen ∧ ∀ j u, (cucells q)[j]? = some u → w.cell? (a.add (i * 2 + j)) = some u := by
      intro i hil
      obtain ⟨cs', hc, htr⟩ := hi i (by omega)
      rw [cellsCrS] at hc
      obtain ⟨_, hcl, hat⟩ := World.cells?_some hc
      obtain ⟨ys, n', -, -, -, hyl, hfj⟩ := DataW.trod_struct Tryd.underlying77 htr
      obtain ⟨c0, c1, rfl⟩ := list2 hcl
      have hcell : ∀ j u, [c0, c1][j]? = some u → w.cell? (a.add (i * 2 + j)) = some u := by
        intro j u hu
        have hj : j < 2 := (List.getElem?_eq_some_iff.1 hu).1
        have h1 := hat j hj
        rw [Go.Deep.add_add] at h1
        rw [h1, hu]
      have k0 := hcell 0 c0 rfl
      have k1 := hcell 1 c1 rfl
      have t0 : DataW.trod enc Tryd.prog w base (fun _ => true) held n' 9 (([c0, c1].drop 0).take (Tryd.prog.cellsOf 9)) = ys[0]? := hfj 0 _ rfl
      have t1 : DataW.trod enc Tryd.prog w base (fun _ => true) held n' 22 (([c0, c1].drop 1).take (Tryd.prog.cellsOf 22)) = ys[1]? := hfj 1 _ rfl
      have hyl : ys.length = 2 := hyl
      rw [cellsSx] at t0
      rw [cellsUx] at t1
      replace t0 : DataW.trod enc Tryd.prog w base (fun _ => true) held n' 9 [c0] = _ := t0.trans (List.getElem?_eq_getElem (show 0 < ys.length by omega))
      replace t1 : DataW.trod enc Tryd.prog w base (fun _ => true) held n' 22 [c1] = _ := t1.trans (List.getElem?_eq_getElem (show 1 < ys.length by omega))
      obtain ⟨s0, e, -, hs0⟩ := DataW.trod_string Tryd.underlying9 t0
      simp at e; subst e
      obtain ⟨z1, e, -, hw1⟩ := DataW.trod_int Tryd.underlying22 t1
      simp at e; subst e
      obtain ⟨x1, rfl⟩ := u64_of hw1
      refine ⟨(s0.data.toList, x1), nmI_len hs0, fun j u hu => ?_⟩
      match j, hu with
      | 0, hu => simp [ddcells, cucells] at hu; subst hu; rw [nmI_of s0] at k0; exact k0
      | 1, hu => simp [ddcells, cucells] at hu; subst hu; exact k1
    obtain ⟨q, hq, hQ⟩ := list_of len hrow
    refine ⟨q, (RowsOf.mk' (c := cucells) hq hl hm (by decide) (fun _ _ => rfl) (fun i h j u hu => (hQ i h).2 j u hu)).2, fun z hz => ?_⟩
    obtain ⟨i, hil, rfl⟩ := List.mem_iff_getElem.1 hz
    exact (hQ i hil).1
theorem open_stateC {fuel : Nat} {c0 c1 c2 c3 c4 c5 c6 c7 : Value} {x : DataW H × List MemPlace} (hf : DataW.trod enc Tryd.prog w base (fun _ => true) held fuel 27 [c0, c1, c2, c3, c4, c5, c6, c7] = some x) :
    ∃ (n0 n1 n2 n3 n4 : UInt64) (it : List Itm) (dd : List (UInt64 × UInt64)) (cu : List (List UInt8 × UInt64)), [c0, c1, c2, c3, c4] = [uv n0, uv n1, uv n2, uv n3, uv n4] ∧ RowsOf w 10 c5 itcells it ∧ RowsOf w 2 c6 ddcells dd ∧ RowsOf w 2 c7 cucells cu := by
  obtain ⟨ys, n', -, -, -, hyl, hfj⟩ := DataW.trod_struct Tryd.underlying27 hf
  have hu : ∀ (j : Nat) (hj : j < 5), DataW.trod enc Tryd.prog w base (fun _ => true) held n' 22 (([c0, c1, c2, c3, c4, c5, c6, c7].drop j).take 1) = ys[j]? := by
    intro j hj
    rw [← cellsUx]
    match j, hj with
    | 0, _ => exact hfj 0 _ rfl
    | 1, _ => exact hfj 1 _ rfl
    | 2, _ => exact hfj 2 _ rfl
    | 3, _ => exact hfj 3 _ rfl
    | 4, _ => exact hfj 4 _ rfl
  have t5 : DataW.trod enc Tryd.prog w base (fun _ => true) held n' 23 (([c0, c1, c2, c3, c4, c5, c6, c7].drop 5).take (Tryd.prog.cellsOf 23)) = ys[5]? := hfj 5 _ rfl
  have t6 : DataW.trod enc Tryd.prog w base (fun _ => true) held n' 24 (([c0, c1, c2, c3, c4, c5, c6, c7].drop 6).take (Tryd.prog.cellsOf 24)) = ys[6]? := hfj 6 _ rfl
  have t7 : DataW.trod enc Tryd.prog w base (fun _ => true) held n' 25 (([c0, c1, c2, c3, c4, c5, c6, c7].drop 7).take (Tryd.prog.cellsOf 25)) = ys[7]? := hfj 7 _ rfl
  have hyl : ys.length = 8 := hyl
  rw [cellsSlI] at t5
  rw [cellsSlR] at t6
  rw [cellsSlC] at t7
  have g0 : DataW.trod enc Tryd.prog w base (fun _ => true) held n' 22 [c0] = _ := (hu 0 (by decide)).trans (List.getElem?_eq_getElem (show 0 < ys.length by omega))
  have g1 : DataW.trod enc Tryd.prog w base (fun _ => true) held n' 22 [c1] = _ := (hu 1 (by decide)).trans (List.getElem?_eq_getElem (show 1 < ys.length by omega))
  have g2 : DataW.trod enc Tryd.prog w base (fun _ => true) held n' 22 [c2] = _ := (hu 2 (by decide)).trans (List.getElem?_eq_getElem (show 2 < ys.length by omega))
  have g3 : DataW.trod enc Tryd.prog w base (fun _ => true) held n' 22 [c3] = _ := (hu 3 (by decide)).trans (List.getElem?_eq_getElem (show 3 < ys.length by omega))
  have g4 : DataW.trod enc Tryd.prog w base (fun _ => true) held n' 22 [c4] = _ := (hu 4 (by decide)).trans (List.getElem?_eq_getElem (show 4 < ys.length by omega))
  have g5 : DataW.trod enc Tryd.prog w base (fun _ => true) held n' 23 [c5] = _ := t5.trans (List.getElem?_eq_getElem (show 5 < ys.length by omega))
  have g6 : DataW.trod enc Tryd.prog w base (fun _ => true) held n' 24 [c6] = _ := t6.trans (List.getElem?_eq_getElem (show 6 < ys.length by omega))
  have g7 : DataW.trod enc Tryd.prog w base (fun _ => true) held n' 25 [c7] = _ := t7.trans (List.getElem?_eq_getElem (show 7 < ys.length by omega))
  obtain ⟨z0, e0, -, w0⟩ := DataW.trod_int Tryd.underlying22 g0
  obtain ⟨z1, e1, -, w1⟩ := DataW.trod_int Tryd.underlying22 g1
  obtain ⟨z2, e2, -, w2⟩ := DataW.trod_int Tryd.underlying22 g2
  obtain ⟨z3, e3, -, w3⟩ := DataW.trod_int Tryd.underlying22 g3
  obtain ⟨z4, e4, -, w4⟩ := DataW.trod_int Tryd.underlying22 g4
  obtain ⟨u0, rfl⟩ := u64_of w0
  obtain ⟨u1, rfl⟩ := u64_of w1
  obtain ⟨u2, rfl⟩ := u64_of w2
  obtain ⟨u3, rfl⟩ := u64_of w3
  obtain ⟨u4, rfl⟩ := u64_of w4
  simp only [List.cons.injEq, and_true] at e0 e1 e2 e3 e4
  subst e0 e1 e2 e3 e4
  obtain ⟨m5, h5⟩ := open_itemsS g5
  obtain ⟨m6, h6⟩ := open_rowsS g6
  obtain ⟨m7, h7, h8⟩ := open_cursS g7
  exact ⟨u0, u1, u2, u3, u4, m5, m6, m7, rfl, ⟨fun _ _ => rfl, h5⟩, ⟨fun _ _ => rfl, h6⟩, ⟨fun _ _ => rfl, h7⟩⟩
theorem cellsSnp : Tryd.prog.cellsOf 29 = 10 := by kernel_rfl
theorem open_snap {v : Value} {d : DataW H} {p : List MemPlace} {r : Reach} {b0 : Nat} (hval : Value.okWide Tryd.prog w r b0 29 v) (h : DataW.Trod enc Tryd.prog w base (fun _ => true) held 29 v d p) :
    ∃ (s : Snp) (vi vd vc : Value), v = .agg (snpC s vi vd vc) ∧ SnpIn w s vi vd vc := by
  obtain ⟨cs, rfl, hsz⟩ := okWide_struct Tryd.underlying29 hval
  have hsz := hsz.trans cellsSnp
  obtain ⟨c0, c1, c2, c3, c4, c5, c6, c7, c8, c9, rfl⟩ : ∃ a b c d e f g i j k, cs = #[a, b, c, d, e, f, g, i, j, k] := by
    obtain ⟨l⟩ := cs
    match l, hsz with
    | [a, b, c, d, e, f, g, i, j, k], _ => exact ⟨a, b, c, d, e, f, g, i, j, k, rfl⟩
  obtain ⟨fuel, hf⟩ := h
  replace hf : DataW.trod enc Tryd.prog w base (fun _ => true) held fuel 29 [c0, c1, c2, c3, c4, c5, c6, c7, c8, c9] = some (d, p) := hf
  obtain ⟨ys, n', -, -, -, hyl, hfj⟩ := DataW.trod_struct Tryd.underlying29 hf
  have t0 : DataW.trod enc Tryd.prog w base (fun _ => true) held n' 27 (([c0, c1, c2, c3, c4, c5, c6, c7, c8, c9].drop 0).take (Tryd.prog.cellsOf 27)) = ys[0]? := hfj 0 _ rfl
  have t1 : DataW.trod enc Tryd.prog w base (fun _ => true) held n' 22 (([c0, c1, c2, c3, c4, c5, c6, c7, c8, c9].drop 8).take (Tryd.prog.cellsOf 22)) = ys[1]? := hfj 1 _ rfl
  have t2 : DataW.trod enc Tryd.prog w base (fun _ => true) held n' 22 (([c0, c1, c2, c3, c4, c5, c6, c7, c8, c9].drop 9).take (Tryd.prog.cellsOf 22)) = ys[2]? := hfj 2 _ rfl
  have hyl : ys.length = 3 := hyl
  rw [cellsStS] at t0
  rw [cellsUx] at t1 t2
  have g0 : DataW.trod enc Tryd.prog w base (fun _ => true) held n' 27 [c0, c1, c2, c3, c4, c5, c6, c7] = _ := t0.trans (List.getElem?_eq_getElem (show 0 < ys.length by omega))
  have g1 : DataW.trod enc Tryd.prog w base (fun _ => true) held n' 22 [c8] = _ := t1.trans (List.getElem?_eq_getElem (show 1 < ys.length by omega))
  have g2 : DataW.trod enc Tryd.prog w base (fun _ => true) held n' 22 [c9] = _ := t2.trans (List.getElem?_eq_getElem (show 2 < ys.length by omega))
  obtain ⟨n0, n1, n2, n3, n4, it, dd, cu, e0, hi, hd, hc⟩ := open_stateC g0
  obtain ⟨z1, e1, -, w1⟩ := DataW.trod_int Tryd.underlying22 g1
  obtain ⟨z2, e2, -, w2⟩ := DataW.trod_int Tryd.underlying22 g2
  obtain ⟨u1, rfl⟩ := u64_of w1
  obtain ⟨u2, rfl⟩ := u64_of w2
  simp only [List.cons.injEq, and_true] at e0 e1 e2
  obtain ⟨rfl, rfl, rfl, rfl, rfl⟩ := e0
  subst e1 e2
  exact ⟨⟨n0, n1, n2, n3, n4, it, dd, cu, u1, u2⟩, c5, c6, c7, rfl, hi, hd, hc⟩
theorem open_items13 {v : Value} {d : DataW H} {p : List MemPlace} {r : Reach} {b0 : Nat} (hval : Value.okWide Tryd.prog w r b0 23 v) (h : DataW.Trod enc Tryd.prog w base (fun _ => true) held 23 v d p) : ∃ m : List Itm, Its w v m := by
  obtain ⟨fuel, hf⟩ := h
  obtain ⟨a, len, cap, rfl⟩ := okWide_slice Tryd.underlying23 hval
  obtain ⟨m, hm⟩ := open_itemsS (v := .slice a len cap) hf
  exact ⟨m, ⟨fun _ _ => rfl, hm⟩⟩
end
end Go.Proofs.YtpbmbjdiilnaeaaDoor

namespace Go.Proofs.YtpbmbjdiilnaeaaDoor
open Go.RowKit Go.Tum Go.Tum.Crc Go.Tum.Vint

theorem blk2f {w : World} {b : Nat} {p q : Value} {ty : TypeId} (h : w.heap[b]? = some (.cells #[p, q] ty (0, 0))) :
    w.cell? ⟨b, 0, none⟩ = some p ∧ w.cell? ⟨b, 1, none⟩ = some q := ⟨(blk2 h).1, (blk2 h).2.1⟩
theorem rmany_no {k : Int} (h : knownB k = false) : rmany k = -1 := by unfold rmany; rw [h]; rfl
theorem rmany_yes {k : Int} {m : Nat} (h : knownB k = true) (hm : many k = m) : rmany k = (m : Int) := by unfold rmany; rw [h, hm]; rfl

end Go.Proofs.YtpbmbjdiilnaeaaDoor

namespace Go.Proofs.YtpbmbjdiilnaeaaDoor
open Go.RowKit Go.Tum Go.Tum.Crc Go.Tum.Vint

def recsSame (l m : List Rc) : Bool := decide (l = m)
theorem recsame_ne {l m : List Rc} (h : l ≠ m) : recsSame l m = false := by simp [recsSame, h]
theorem recsame_eq {l m : List Rc} (h : l = m) : recsSame l m = true := by simp [recsSame, h]
set_option maxRecDepth 100000 in
set_option maxHeartbeats 1000000 in
theorem rsames5_any (u v : Value) (l m : List Rc) (w : World) (hb : Rcs w u l) (hc : Rcs w v m) (hl : l.length ≤ 1048576) (hm : m.length ≤ 1048576) :
    Calls Tryd.prog 15 #[u, v] w fun e w' => e = .returned (.bool (recsSame l m)) ∧ Ext w w' := by
  obtain ⟨p, rfl, hr, hB⟩ := hb
  obtain ⟨q, rfl, hr2, hB2⟩ := hc
  simp only [List.length_map] at hl hm
  obtain ⟨ao, cap, rfl, hc1, hc2, hc3, hcell⟩ := hr.open
  obtain ⟨bo, cbp, rfl, hd1, hd2, hd3, hcell2⟩ := hr2.open
  have HC := hid hcell
  have HD := hid hcell2
  have HB := hid hB
  have HB2 := hid hB2
  have H3 := hid hc3
  have H4 := hid hd3
  clear hcell hcell2 hB hB2 hr hr2 hc3 hd3
  by_cases hlen : p.length = q.length
  · have hne : ((p.length : Int) != (q.length : Int)) = false := by simp [hlen]
    have HLEN := hid hlen
    clear hlen
    go_enter Tryd.func15, Tryd.ntmps15
    go_wp2
    clear hne
    go_loopw [5] (fun i wr => ∃ k : Nat, k ≤ p.length ∧ i = .int .i64 k ∧ Hid ((p.map (·.1)).take k = (q.map (·.1)).take k) ∧ Hid (Ext w wr)) (fun i _ => p.length - (intOf i).toNat)
    case atStart => exact ⟨0, by omega, rfl, hid (by simp), Ext.refl _⟩
    case round =>
      obtain ⟨k, hk, rfl, HT, HE⟩ := hrel
      by_cases hlt : k < p.length
      · have hlt2 : k < q.length := by rw [← HLEN.out]; exact hlt
        obtain ⟨a, rfl⟩ := H3.out (by omega)
        obtain ⟨b, rfl⟩ := H4.out (by omega)
        have C0 := hid (cell_first (HE.out.cell (HC.out a rfl k hlt 0 _ rfl)))
        have C1 := hid (cell_next (HE.out.cell (HC.out a rfl k hlt 1 _ rfl)) (by decide))
        have C2 := hid (cell_next (HE.out.cell (HC.out a rfl k hlt 2 _ rfl)) (by decide))
        have D0 := hid (cell_first (HE.out.cell (HD.out b rfl k hlt2 0 _ rfl)))
        have D1 := hid (cell_next (HE.out.cell (HD.out b rfl k hlt2 1 _ rfl)) (by decide))
        have D2 := hid (cell_next (HE.out.cell (HD.out b rfl k hlt2 2 _ rfl)) (by decide))
        have B1 := hid ((HB.out p[k] (List.getElem_mem hlt)).ext HE.out)
        have B2 := hid ((HB2.out q[k] (List.getElem_mem hlt2)).ext HE.out)
        have hI : (k : Int) < p.length := by omega
        have hI2 : (k : Int) < q.length := by omega
        have hI0 : (0 : Int) ≤ k := by omega
        obtain ⟨P, hP⟩ : ∃ P, p[k].1.kind = P := ⟨_, rfl⟩
        obtain ⟨Q, hQ⟩ : ∃ Q, q[k].1.kind = Q := ⟨_, rfl⟩
        obtain ⟨S1, hS1⟩ : ∃ S1, p[k].1.text = S1 := ⟨_, rfl⟩
        obtain ⟨S2, hS2⟩ : ∃ S2, q[k].1.text = S2 := ⟨_, rfl⟩
        obtain ⟨X, hX0⟩ : ∃ X, p[k].1.n = X := ⟨_, rfl⟩
        obtain ⟨Y, hY0⟩ : ∃ Y, q[k].1.n = Y := ⟨_, rfl⟩
        obtain ⟨U, hU0⟩ : ∃ U, p[k].2 = U := ⟨_, rfl⟩
        obtain ⟨V, hV0⟩ : ∃ V, q[k].2 = V := ⟨_, rfl⟩
        rw [hP] at C0
        rw [hS1] at C2
        rw [hU0] at C1
        rw [hQ] at D0
        rw [hS2] at D2
        rw [hV0] at D1
        rw [hX0, hU0] at B1
        rw [hY0, hV0] at B2
        have hone : ∃ x n y, U = .slice x n y := by
          obtain ⟨x, y, h, -⟩ := B1.out.open
          exact ⟨x, _, y, h⟩
        have hone2 : ∃ x n y, V = .slice x n y := by
          obtain ⟨x, y, h, -⟩ := B2.out.open
          exact ⟨x, _, y, h⟩
        have HPQ := hid (And.intro hP hQ)
        have HSS := hid (And.intro hS1 hS2)
        have HXY := hid (And.intro hX0 hY0)
        clear hX0 hY0 hU0 hV0 hP hQ hS1 hS2
        by_cases hkk : P = Q
        · have hkn : (P != Q) = false := by simp [hkk]
          by_cases hss : S1 = S2
          · obtain ⟨BB, hBB⟩ : ∃ BB, (X == Y) = BB := ⟨_, rfl⟩
            have HSTEP := hid (show (X = Y) ↔ p[k].1 = q[k].1 by
              have h1 := HPQ.out; have h2 := HSS.out; have h3 := HXY.out
              rw [← h3.1, ← h3.2]
              constructor
              · intro h
                cases hp : p[k].1; cases hq : q[k].1
                rw [hp, hq] at h1 h2 h3 h
                simp only at h1 h2 h3 h
                rw [Rc.mk.injEq]
                exact ⟨by rw [h1.1, h1.2, hkk], h, by rw [h2.1, h2.2, hss]⟩
              · intro h; rw [h])
            have HBB := hid hBB
            subst hss
            clear hkk hBB
            go_wp2_with fail
            refine Par.wp_region_par (l := [_, _, _, _, _, _, _, _, _, _, _, _, _, _, _, _, _, _, _, _, _, _, _, _, _, _, _, _, _, _, _, _, _, _, _, _, _, _]) rfl Ext (Par.VL [Par.EQ (Value.slice (some a) p.length cap), Par.EQ (Value.int IntKind.i64 (k : Int)), Par.EQ (Value.pointer (some (a.add (k * 3)))), Par.EQ (Value.pointer (some (a.add (k * 3)))), Par.EQ (Value.int IntKind.i64 P), Par.EQ (Value.slice (some b) q.length cbp), Par.EQ (Value.int IntKind.i64 (k : Int)), Par.EQ (Value.pointer (some (b.add (k * 3)))), Par.EQ (Value.pointer (some (b.add (k * 3)))), Par.EQ (Value.int IntKind.i64 Q), Par.EQ (Value.bool false), Par.EQ (Value.bool false), Par.EQ (Value.slice (some a) p.length cap), Par.EQ (Value.int IntKind.i64 (k : Int)), Par.EQ (Value.pointer (some (a.add (k * 3)))), Par.EQ (Value.pointer (some ⟨(a.add (k * 3)).block, (a.add (k * 3)).off + 2, none⟩)), Par.EQ (Value.string (str S1)), Par.EQ (Value.slice (some b) q.length cbp), Par.EQ (Value.int IntKind.i64 (k : Int)), Par.EQ (Value.pointer (some (b.add (k * 3)))), Par.EQ (Value.pointer (some ⟨(b.add (k * 3)).block, (b.add (k * 3)).off + 2, none⟩)), Par.EQ (Value.string (str S1)), Par.EQ (Value.bool false), Par.EQ (Value.bool false), Par.EQ (Value.bool false), Par.EQ (Value.slice (some a) p.length cap), Par.EQ (Value.int IntKind.i64 (k : Int)), Par.EQ (Value.pointer (some (a.add (k * 3)))), Par.EQ (Value.pointer (some ⟨(a.add (k * 3)).block, (a.add (k * 3)).off + 1, none⟩)), Par.EQ (U), Par.EQ (Value.slice (some b) q.length cbp), Par.EQ (Value.int IntKind.i64 (k : Int)), Par.EQ (Value.pointer (some (b.add (k * 3)))), Par.EQ (Value.pointer (some ⟨(b.add (k * 3)).block, (b.add (k * 3)).off + 1, none⟩)), Par.EQ (V), Par.EQ (Value.bool BB), Par.EQ (Value.bool (!BB)), Par.EQ (Value.bool (!BB))]) (by kernel_rfl) Ext.refl (fun _ _ _ h1 h2 => Ext.trans h1 h2) (Ext.draw _) (Par.VL_stab ?_) ?_ ?_
            · simp only [List.forall_mem_cons, List.not_mem_nil, false_implies, implies_true, and_true]
              refine ⟨fun _ _ _ _ h => h, fun _ _ _ _ h => h, fun _ _ _ _ h => h, fun _ _ _ _ h => h, fun _ _ _ _ h => h, fun _ _ _ _ h => h, fun _ _ _ _ h => h, fun _ _ _ _ h => h, fun _ _ _ _ h => h, fun _ _ _ _ h => h, fun _ _ _ _ h => h, fun _ _ _ _ h => h, fun _ _ _ _ h => h, fun _ _ _ _ h => h, fun _ _ _ _ h => h, fun _ _ _ _ h => h, fun _ _ _ _ h => h, fun _ _ _ _ h => h, fun _ _ _ _ h => h, fun _ _ _ _ h => h, fun _ _ _ _ h => h, fun _ _ _ _ h => h, fun _ _ _ _ h => h, fun _ _ _ _ h => h, fun _ _ _ _ h => h, fun _ _ _ _ h => h, fun _ _ _ _ h => h, fun _ _ _ _ h => h, fun _ _ _ _ h => h, fun _ _ _ _ h => h, fun _ _ _ _ h => h, fun _ _ _ _ h => h, fun _ _ _ _ h => h, fun _ _ _ _ h => h, fun _ _ _ _ h => h, fun _ _ _ _ h => h, fun _ _ _ _ h => h, fun _ _ _ _ h => h⟩
            · refine ⟨⟨fun _ _ => trivial, fun ρ w' hX hG hk => ?_⟩, ?_⟩
              · exact Par.val_of_run rfl ⟨Ext.refl _, hk.1⟩
              refine ⟨⟨fun _ _ => trivial, fun ρ w' hX hG hk => ?_⟩, ?_⟩
              · exact Par.val_of_run rfl ⟨Ext.refl _, hk.1⟩
              refine ⟨⟨fun _ _ => trivial, fun ρ w' hX hG hk => ?_⟩, ?_⟩
              · obtain ⟨k0, k1, -⟩ := hk
                have e0 : ρ (.tmp 17) = Value.slice (some a) p.length cap := k0
                have e1 : ρ (.tmp 18) = Value.int IntKind.i64 (k : Int) := k1
                clear k0 k1
                refine Par.val_k fun K hK => ?_
                unfold Par.val
                (go_simp; exact hK _ _ ⟨Ext.refl _, rfl⟩)
              refine ⟨⟨fun _ _ => trivial, fun ρ w' hX hG hk => ?_⟩, ?_⟩
              · obtain ⟨k0, -⟩ := hk
                have e0 : ρ (.tmp 19) = Value.pointer (some (a.add (k * 3))) := k0
                clear k0
                refine Par.val_k fun K hK => ?_
                unfold Par.val
                (go_simp; exact hK _ _ ⟨Ext.refl _, rfl⟩)
              refine ⟨⟨fun _ _ => trivial, fun ρ w' hX hG hk => ?_⟩, ?_⟩
              · obtain ⟨k0, -⟩ := hk
                have e0 : ρ (.tmp 20) = Value.pointer (some (a.add (k * 3))) := k0
                clear k0
                refine Par.val_k fun K hK => ?_
                unfold Par.val
                (have c := hX.cell C0.out; go_simp; exact hK _ _ ⟨Ext.refl _, rfl⟩)
              refine ⟨⟨fun _ _ => trivial, fun ρ w' hX hG hk => ?_⟩, ?_⟩
              · exact Par.val_of_run rfl ⟨Ext.refl _, hk.1⟩
              refine ⟨⟨fun _ _ => trivial, fun ρ w' hX hG hk => ?_⟩, ?_⟩
              · exact Par.val_of_run rfl ⟨Ext.refl _, hk.1⟩
              refine ⟨⟨fun _ _ => trivial, fun ρ w' hX hG hk => ?_⟩, ?_⟩
              · obtain ⟨k0, k1, -⟩ := hk
                have e0 : ρ (.tmp 22) = Value.slice (some b) q.length cbp := k0
                have e1 : ρ (.tmp 23) = Value.int IntKind.i64 (k : Int) := k1
                clear k0 k1
                refine Par.val_k fun K hK => ?_
                unfold Par.val
                (go_simp; exact hK _ _ ⟨Ext.refl _, rfl⟩)
              refine ⟨⟨fun _ _ => trivial, fun ρ w' hX hG hk => ?_⟩, ?_⟩
              · obtain ⟨k0, -⟩ := hk
                have e0 : ρ (.tmp 24) = Value.pointer (some (b.add (k * 3))) := k0
                clear k0
                refine Par.val_k fun K hK => ?_
                unfold Par.val
                (go_simp; exact hK _ _ ⟨Ext.refl _, rfl⟩)
              refine ⟨⟨fun _ _ => trivial, fun ρ w' hX hG hk => ?_⟩, ?_⟩
              · obtain ⟨k0, -⟩ := hk
                have e0 : ρ (.tmp 25) = Value.pointer (some (b.add (k * 3))) := k0
                clear k0
                refine Par.val_k fun K hK => ?_
                unfold Par.val
                (have c := hX.cell D0.out; go_simp; exact hK _ _ ⟨Ext.refl _, rfl⟩)
              refine ⟨⟨fun _ _ => trivial, fun ρ w' hX hG hk => ?_⟩, ?_⟩
              · obtain ⟨k0, k1, -⟩ := hk
                have e0 : ρ (.tmp 21) = Value.int IntKind.i64 P := k0
                have e1 : ρ (.tmp 26) = Value.int IntKind.i64 Q := k1
                clear k0 k1
                refine Par.val_k fun K hK => ?_
                unfold Par.val
                (go_simp; exact hK _ _ ⟨Ext.refl _, rfl⟩)
              refine ⟨⟨fun _ _ => trivial, fun ρ w' hX hG hk => ?_⟩, ?_⟩
              · obtain ⟨k0, -⟩ := hk
                have e0 : ρ (.tmp 27) = Value.bool false := k0
                clear k0
                refine Par.val_k fun K hK => ?_
                unfold Par.val
                (go_simp; exact hK _ _ ⟨Ext.refl _, rfl⟩)
              refine ⟨⟨fun _ _ u hu => .inl hu, fun ρ w' hX hG hk => ?_⟩, ?_⟩
              · exact Par.val_of_run rfl ⟨Ext.refl _, hk.1⟩
              refine ⟨⟨fun _ _ u hu => .inl hu, fun ρ w' hX hG hk => ?_⟩, ?_⟩
              · exact Par.val_of_run rfl ⟨Ext.refl _, hk.1⟩
              refine ⟨⟨fun _ _ u hu => .inl hu, fun ρ w' hX hG hk => ?_⟩, ?_⟩
              · obtain ⟨k0, k1, -⟩ := hk
                have e0 : ρ (.tmp 29) = Value.slice (some a) p.length cap := k0
                have e1 : ρ (.tmp 30) = Value.int IntKind.i64 (k : Int) := k1
                clear k0 k1
                refine Par.val_k fun K hK => ?_
                unfold Par.val
                (go_simp; exact hK _ _ ⟨Ext.refl _, rfl⟩)
              refine ⟨⟨fun _ _ u hu => .inl hu, fun ρ w' hX hG hk => ?_⟩, ?_⟩
              · obtain ⟨k0, -⟩ := hk
                have e0 : ρ (.tmp 31) = Value.pointer (some (a.add (k * 3))) := k0
                clear k0
                refine Par.val_k fun K hK => ?_
                unfold Par.val
                (go_simp; exact hK _ _ ⟨Ext.refl _, rfl⟩)
              refine ⟨⟨fun _ _ u hu => .inl hu, fun ρ w' hX hG hk => ?_⟩, ?_⟩
              · obtain ⟨k0, -⟩ := hk
                have e0 : ρ (.tmp 32) = Value.pointer (some ⟨(a.add (k * 3)).block, (a.add (k * 3)).off + 2, none⟩) := k0
                clear k0
                refine Par.val_k fun K hK => ?_
                unfold Par.val
                (have c := hX.cell C2.out; go_simp; exact hK _ _ ⟨Ext.refl _, rfl⟩)
              refine ⟨⟨fun _ _ u hu => .inl hu, fun ρ w' hX hG hk => ?_⟩, ?_⟩
              · exact Par.val_of_run rfl ⟨Ext.refl _, hk.1⟩
              refine ⟨⟨fun _ _ u hu => .inl hu, fun ρ w' hX hG hk => ?_⟩, ?_⟩
              · exact Par.val_of_run rfl ⟨Ext.refl _, hk.1⟩
              refine ⟨⟨fun _ _ u hu => .inl hu, fun ρ w' hX hG hk => ?_⟩, ?_⟩
              · obtain ⟨k0, k1, -⟩ := hk
                have e0 : ρ (.tmp 34) = Value.slice (some b) q.length cbp := k0
                have e1 : ρ (.tmp 35) = Value.int IntKind.i64 (k : Int) := k1
                clear k0 k1
                refine Par.val_k fun K hK => ?_
                unfold Par.val
                (go_simp; exact hK _ _ ⟨Ext.refl _, rfl⟩)
              refine ⟨⟨fun _ _ u hu => .inl hu, fun ρ w' hX hG hk => ?_⟩, ?_⟩
              · obtain ⟨k0, -⟩ := hk
                have e0 : ρ (.tmp 36) = Value.pointer (some (b.add (k * 3))) := k0
                clear k0
                refine Par.val_k fun K hK => ?_
                unfold Par.val
                (go_simp; exact hK _ _ ⟨Ext.refl _, rfl⟩)
              refine ⟨⟨fun _ _ u hu => .inl hu, fun ρ w' hX hG hk => ?_⟩, ?_⟩
              · obtain ⟨k0, -⟩ := hk
                have e0 : ρ (.tmp 37) = Value.pointer (some ⟨(b.add (k * 3)).block, (b.add (k * 3)).off + 2, none⟩) := k0
                clear k0
                refine Par.val_k fun K hK => ?_
                unfold Par.val
                (have c := hX.cell D2.out; go_simp; exact hK _ _ ⟨Ext.refl _, rfl⟩)
              refine ⟨⟨fun _ _ u hu => .inl hu, fun ρ w' hX hG hk => ?_⟩, ?_⟩
              · obtain ⟨k0, k1, -⟩ := hk
                have e0 : ρ (.tmp 33) = Value.string (str S1) := k0
                have e1 : ρ (.tmp 38) = Value.string (str S1) := k1
                clear k0 k1
                refine Par.val_k fun K hK => ?_
                unfold Par.val
                (go_simp; exact hK _ _ ⟨Ext.refl _, rfl⟩)
              refine ⟨⟨fun _ _ => trivial, fun ρ w' hX hG hk => ?_⟩, ?_⟩
              · obtain ⟨k0, k1, k2, -⟩ := hk
                have e0 : ρ (.tmp 28) = Value.bool false := k0
                have e1 : ρ (Operand.const (Value.bool true)) = (Value.bool true) := k1
                have e2 : ρ (.tmp 39) = Value.bool false := k2
                clear k0 k1 k2
                refine Par.val_k fun K hK => ?_
                unfold Par.val
                (go_simp; exact hK _ _ ⟨Ext.refl _, rfl⟩)
              refine ⟨⟨fun _ _ => trivial, fun ρ w' hX hG hk => ?_⟩, ?_⟩
              · obtain ⟨k0, -⟩ := hk
                have e0 : ρ (.tmp 40) = Value.bool false := k0
                clear k0
                refine Par.val_k fun K hK => ?_
                unfold Par.val
                (go_simp; exact hK _ _ ⟨Ext.refl _, rfl⟩)
              refine ⟨⟨fun _ _ u hu => .inl hu, fun ρ w' hX hG hk => ?_⟩, ?_⟩
              · exact Par.val_of_run rfl ⟨Ext.refl _, hk.1⟩
              refine ⟨⟨fun _ _ u hu => .inl hu, fun ρ w' hX hG hk => ?_⟩, ?_⟩
              · exact Par.val_of_run rfl ⟨Ext.refl _, hk.1⟩
              refine ⟨⟨fun _ _ u hu => .inl hu, fun ρ w' hX hG hk => ?_⟩, ?_⟩
              · obtain ⟨k0, k1, -⟩ := hk
                have e0 : ρ (.tmp 42) = Value.slice (some a) p.length cap := k0
                have e1 : ρ (.tmp 43) = Value.int IntKind.i64 (k : Int) := k1
                clear k0 k1
                refine Par.val_k fun K hK => ?_
                unfold Par.val
                (go_simp; exact hK _ _ ⟨Ext.refl _, rfl⟩)
              refine ⟨⟨fun _ _ u hu => .inl hu, fun ρ w' hX hG hk => ?_⟩, ?_⟩
              · obtain ⟨k0, -⟩ := hk
                have e0 : ρ (.tmp 44) = Value.pointer (some (a.add (k * 3))) := k0
                clear k0
                refine Par.val_k fun K hK => ?_
                unfold Par.val
                (go_simp; exact hK _ _ ⟨Ext.refl _, rfl⟩)
              refine ⟨⟨fun _ _ u hu => .inl hu, fun ρ w' hX hG hk => ?_⟩, ?_⟩
              · obtain ⟨k0, -⟩ := hk
                have e0 : ρ (.tmp 45) = Value.pointer (some ⟨(a.add (k * 3)).block, (a.add (k * 3)).off + 1, none⟩) := k0
                clear k0
                refine Par.val_k fun K hK => ?_
                unfold Par.val
                (have c := hX.cell C1.out; go_simp; exact hK _ _ ⟨Ext.refl _, rfl⟩)
              refine ⟨⟨fun _ _ u hu => .inl hu, fun ρ w' hX hG hk => ?_⟩, ?_⟩
              · exact Par.val_of_run rfl ⟨Ext.refl _, hk.1⟩
              refine ⟨⟨fun _ _ u hu => .inl hu, fun ρ w' hX hG hk => ?_⟩, ?_⟩
              · exact Par.val_of_run rfl ⟨Ext.refl _, hk.1⟩
              refine ⟨⟨fun _ _ u hu => .inl hu, fun ρ w' hX hG hk => ?_⟩, ?_⟩
              · obtain ⟨k0, k1, -⟩ := hk
                have e0 : ρ (.tmp 47) = Value.slice (some b) q.length cbp := k0
                have e1 : ρ (.tmp 48) = Value.int IntKind.i64 (k : Int) := k1
                clear k0 k1
                refine Par.val_k fun K hK => ?_
                unfold Par.val
                (go_simp; exact hK _ _ ⟨Ext.refl _, rfl⟩)
              refine ⟨⟨fun _ _ u hu => .inl hu, fun ρ w' hX hG hk => ?_⟩, ?_⟩
              · obtain ⟨k0, -⟩ := hk
                have e0 : ρ (.tmp 49) = Value.pointer (some (b.add (k * 3))) := k0
                clear k0
                refine Par.val_k fun K hK => ?_
                unfold Par.val
                (go_simp; exact hK _ _ ⟨Ext.refl _, rfl⟩)
              refine ⟨⟨fun _ _ u hu => .inl hu, fun ρ w' hX hG hk => ?_⟩, ?_⟩
              · obtain ⟨k0, -⟩ := hk
                have e0 : ρ (.tmp 50) = Value.pointer (some ⟨(b.add (k * 3)).block, (b.add (k * 3)).off + 1, none⟩) := k0
                clear k0
                refine Par.val_k fun K hK => ?_
                unfold Par.val
                (have c := hX.cell D1.out; go_simp; exact hK _ _ ⟨Ext.refl _, rfl⟩)
              refine ⟨⟨fun _ _ u hu => .inl hu, fun ρ w' hX hG hk => ?_⟩, ?_⟩
              · obtain ⟨k0, k1, k2, -⟩ := hk
                have e0 := k0
                have e1 : ρ (.tmp 46) = U := k1
                have e2 : ρ (.tmp 51) = V := k2
                clear k0 k1 k2
                refine Par.val_k fun K hK => ?_
                unfold Par.val
                refine Par.val_call Tryd.func17 (by kernel_rfl) rfl e0 ?_
                simp only [List.map_toArray, List.map_cons, List.map_nil, e1, e2]
                refine (rsame64_any _ _ X Y _ (B1.out.ext hX) (B2.out.ext hX)).mono ?_
                rintro e w2 ⟨rfl, h2⟩
                exact ⟨_, rfl, hK _ _ ⟨h2, (congrArg Value.bool HBB.out)⟩⟩
              refine ⟨⟨fun _ _ u hu => .inl hu, fun ρ w' hX hG hk => ?_⟩, ?_⟩
              · obtain ⟨k0, -⟩ := hk
                have e0 : ρ (.tmp 52) = Value.bool BB := k0
                clear k0
                refine Par.val_k fun K hK => ?_
                unfold Par.val
                (go_simp; exact hK _ _ ⟨Ext.refl _, rfl⟩)
              refine ⟨⟨fun _ _ => trivial, fun ρ w' hX hG hk => ?_⟩, ?_⟩
              · obtain ⟨k0, k1, k2, -⟩ := hk
                have e0 : ρ (.tmp 41) = Value.bool false := k0
                have e1 : ρ (Operand.const (Value.bool true)) = (Value.bool true) := k1
                have e2 : ρ (.tmp 53) = Value.bool (!BB) := k2
                clear k0 k1 k2
                refine Par.val_k fun K hK => ?_
                unfold Par.val
                (go_simp; exact hK _ _ ⟨Ext.refl _, rfl⟩)
              trivial
            intro a' w' inv
            have hX := inv.ext
            have q17 : a'.tmps.getD 17 undef = Value.slice (some a) p.length cap := inv.done 0 _ 17 rfl rfl rfl
            have q18 : a'.tmps.getD 18 undef = Value.int IntKind.i64 (k : Int) := inv.done 1 _ 18 rfl rfl rfl
            have q19 : a'.tmps.getD 19 undef = Value.pointer (some (a.add (k * 3))) := inv.done 2 _ 19 rfl rfl rfl
            have q20 : a'.tmps.getD 20 undef = Value.pointer (some (a.add (k * 3))) := inv.done 3 _ 20 rfl rfl rfl
            have q21 : a'.tmps.getD 21 undef = Value.int IntKind.i64 P := inv.done 4 _ 21 rfl rfl rfl
            have q22 : a'.tmps.getD 22 undef = Value.slice (some b) q.length cbp := inv.done 5 _ 22 rfl rfl rfl
            have q23 : a'.tmps.getD 23 undef = Value.int IntKind.i64 (k : Int) := inv.done 6 _ 23 rfl rfl rfl
            have q24 : a'.tmps.getD 24 undef = Value.pointer (some (b.add (k * 3))) := inv.done 7 _ 24 rfl rfl rfl
            have q25 : a'.tmps.getD 25 undef = Value.pointer (some (b.add (k * 3))) := inv.done 8 _ 25 rfl rfl rfl
            have q26 : a'.tmps.getD 26 undef = Value.int IntKind.i64 Q := inv.done 9 _ 26 rfl rfl rfl
            have q27 : a'.tmps.getD 27 undef = Value.bool false := inv.done 10 _ 27 rfl rfl rfl
            have q28 : a'.tmps.getD 28 undef = Value.bool false := inv.done 11 _ 28 rfl rfl rfl
            have q29 : a'.tmps.getD 29 undef = Value.slice (some a) p.length cap := inv.done 12 _ 29 rfl rfl rfl
            have q30 : a'.tmps.getD 30 undef = Value.int IntKind.i64 (k : Int) := inv.done 13 _ 30 rfl rfl rfl
            have q31 : a'.tmps.getD 31 undef = Value.pointer (some (a.add (k * 3))) := inv.done 14 _ 31 rfl rfl rfl
            have q32 : a'.tmps.getD 32 undef = Value.pointer (some ⟨(a.add (k * 3)).block, (a.add (k * 3)).off + 2, none⟩) := inv.done 15 _ 32 rfl rfl rfl
            have q33 : a'.tmps.getD 33 undef = Value.string (str S1) := inv.done 16 _ 33 rfl rfl rfl
            have q34 : a'.tmps.getD 34 undef = Value.slice (some b) q.length cbp := inv.done 17 _ 34 rfl rfl rfl
            have q35 : a'.tmps.getD 35 undef = Value.int IntKind.i64 (k : Int) := inv.done 18 _ 35 rfl rfl rfl
            have q36 : a'.tmps.getD 36 undef = Value.pointer (some (b.add (k * 3))) := inv.done 19 _ 36 rfl rfl rfl
            have q37 : a'.tmps.getD 37 undef = Value.pointer (some ⟨(b.add (k * 3)).block, (b.add (k * 3)).off + 2, none⟩) := inv.done 20 _ 37 rfl rfl rfl
            have q38 : a'.tmps.getD 38 undef = Value.string (str S1) := inv.done 21 _ 38 rfl rfl rfl
            have q39 : a'.tmps.getD 39 undef = Value.bool false := inv.done 22 _ 39 rfl rfl rfl
            have q40 : a'.tmps.getD 40 undef = Value.bool false := inv.done 23 _ 40 rfl rfl rfl
            have q41 : a'.tmps.getD 41 undef = Value.bool false := inv.done 24 _ 41 rfl rfl rfl
            have q42 : a'.tmps.getD 42 undef = Value.slice (some a) p.length cap := inv.done 25 _ 42 rfl rfl rfl
            have q43 : a'.tmps.getD 43 undef = Value.int IntKind.i64 (k : Int) := inv.done 26 _ 43 rfl rfl rfl
            have q44 : a'.tmps.getD 44 undef = Value.pointer (some (a.add (k * 3))) := inv.done 27 _ 44 rfl rfl rfl
            have q45 : a'.tmps.getD 45 undef = Value.pointer (some ⟨(a.add (k * 3)).block, (a.add (k * 3)).off + 1, none⟩) := inv.done 28 _ 45 rfl rfl rfl
            have q46 : a'.tmps.getD 46 undef = U := inv.done 29 _ 46 rfl rfl rfl
            have q47 : a'.tmps.getD 47 undef = Value.slice (some b) q.length cbp := inv.done 30 _ 47 rfl rfl rfl
            have q48 : a'.tmps.getD 48 undef = Value.int IntKind.i64 (k : Int) := inv.done 31 _ 48 rfl rfl rfl
            have q49 : a'.tmps.getD 49 undef = Value.pointer (some (b.add (k * 3))) := inv.done 32 _ 49 rfl rfl rfl
            have q50 : a'.tmps.getD 50 undef = Value.pointer (some ⟨(b.add (k * 3)).block, (b.add (k * 3)).off + 1, none⟩) := inv.done 33 _ 50 rfl rfl rfl
            have q51 : a'.tmps.getD 51 undef = V := inv.done 34 _ 51 rfl rfl rfl
            have q52 : a'.tmps.getD 52 undef = Value.bool BB := inv.done 35 _ 52 rfl rfl rfl
            have q53 : a'.tmps.getD 53 undef = Value.bool (!BB) := inv.done 36 _ 53 rfl rfl rfl
            have q54 : a'.tmps.getD 54 undef = Value.bool (!BB) := inv.done 37 _ 54 rfl rfl rfl
            clear inv
            simp only [List.filterMap_cons, List.filterMap_nil, Par.putAll, Act.put, List.setIfInBounds_toArray, List.set_cons_succ, List.set_cons_zero, q17, q18, q19, q20, q21, q22, q23, q24, q25, q26, q27, q28, q29, q30, q31, q32, q33, q34, q35, q36, q37, q38, q39, q40, q41, q42, q43, q44, q45, q46, q47, q48, q49, q50, q51, q52, q53, q54]
            clear q17 q18 q19 q20 q21 q22 q23 q24 q25 q26 q27 q28 q29 q30 q31 q32 q33 q34 q35 q36 q37 q38 q39 q40 q41 q42 q43 q44 q45 q46 q47 q48 q49 q50 q51 q52 q53 q54
            clear a'
            cases BB with
            | true =>
              have hxy : p[k].1 = q[k].1 := HSTEP.out.1 (by simpa using HBB.out)
              have HT2 := hid (show (p.map (·.1)).take (k + 1) = (q.map (·.1)).take (k + 1) by
                rw [List.take_succ_eq_append_getElem (by simpa using hlt), List.take_succ_eq_append_getElem (by simpa using hlt2), HT.out]
                simp [hxy])
              have HE2 := HE.out.trans hX
              clear hxy
              go_wp2
              go_roundw
              case rel => exact ⟨k + 1, by omega, by go_num, HT2, HE2⟩
              case measure => simp [intOf]; omega
            | false =>
              have HFIN := hid (recsame_ne (l := p.map (·.1)) (m := q.map (·.1)) (fun e => by
                have h1 : (p.map (·.1))[k]? = (q.map (·.1))[k]? := by rw [e]
                simp [hlt, hlt2] at h1
                have h2 := HSTEP.out.2 h1
                have h3 := HBB.out
                rw [h2] at h3
                simp at h3))
              go_wp2
              go_ret
              exact ⟨by rw [HFIN.out]; rfl, HE.out.trans hX⟩
          · have ht : (S1 == S2) = false := by simp [hss]
            have HFIN := hid (recsame_ne (l := p.map (·.1)) (m := q.map (·.1)) (fun e => hss (by
              have h1 : (p.map (·.1))[k]? = (q.map (·.1))[k]? := by rw [e]
              simp [hlt, hlt2] at h1
              rw [← HSS.out.1, ← HSS.out.2, h1])))
            clear hss hkk
            go_wp2_with fail
            refine Par.wp_region_par (l := [_, _, _, _, _, _, _, _, _, _, _, _, _, _, _, _, _, _, _, _, _, _, _, _, _, _, _, _, _, _, _, _, _, _, _, _, _, _]) rfl Ext (Par.VL [Par.EQ (Value.slice (some a) p.length cap), Par.EQ (Value.int IntKind.i64 (k : Int)), Par.EQ (Value.pointer (some (a.add (k * 3)))), Par.EQ (Value.pointer (some (a.add (k * 3)))), Par.EQ (Value.int IntKind.i64 P), Par.EQ (Value.slice (some b) q.length cbp), Par.EQ (Value.int IntKind.i64 (k : Int)), Par.EQ (Value.pointer (some (b.add (k * 3)))), Par.EQ (Value.pointer (some (b.add (k * 3)))), Par.EQ (Value.int IntKind.i64 Q), Par.EQ (Value.bool false), Par.EQ (Value.bool false), Par.EQ (Value.slice (some a) p.length cap), Par.EQ (Value.int IntKind.i64 (k : Int)), Par.EQ (Value.pointer (some (a.add (k * 3)))), Par.EQ (Value.pointer (some ⟨(a.add (k * 3)).block, (a.add (k * 3)).off + 2, none⟩)), Par.EQ (Value.string (str S1)), Par.EQ (Value.slice (some b) q.length cbp), Par.EQ (Value.int IntKind.i64 (k : Int)), Par.EQ (Value.pointer (some (b.add (k * 3)))), Par.EQ (Value.pointer (some ⟨(b.add (k * 3)).block, (b.add (k * 3)).off + 2, none⟩)), Par.EQ (Value.string (str S2)), Par.EQ (Value.bool true), Par.EQ (Value.bool true), Par.EQ (Value.bool true), Par.EQ (undef), Par.EQ (undef), Par.EQ (undef), Par.EQ (undef), Par.EQ (undef), Par.EQ (undef), Par.EQ (undef), Par.EQ (undef), Par.EQ (undef), Par.EQ (undef), Par.EQ (undef), Par.EQ (undef), Par.EQ (Value.bool true)]) (by kernel_rfl) Ext.refl (fun _ _ _ h1 h2 => Ext.trans h1 h2) (Ext.draw _) (Par.VL_stab ?_) ?_ ?_
            · simp only [List.forall_mem_cons, List.not_mem_nil, false_implies, implies_true, and_true]
              refine ⟨fun _ _ _ _ h => h, fun _ _ _ _ h => h, fun _ _ _ _ h => h, fun _ _ _ _ h => h, fun _ _ _ _ h => h, fun _ _ _ _ h => h, fun _ _ _ _ h => h, fun _ _ _ _ h => h, fun _ _ _ _ h => h, fun _ _ _ _ h => h, fun _ _ _ _ h => h, fun _ _ _ _ h => h, fun _ _ _ _ h => h, fun _ _ _ _ h => h, fun _ _ _ _ h => h, fun _ _ _ _ h => h, fun _ _ _ _ h => h, fun _ _ _ _ h => h, fun _ _ _ _ h => h, fun _ _ _ _ h => h, fun _ _ _ _ h => h, fun _ _ _ _ h => h, fun _ _ _ _ h => h, fun _ _ _ _ h => h, fun _ _ _ _ h => h, fun _ _ _ _ h => h, fun _ _ _ _ h => h, fun _ _ _ _ h => h, fun _ _ _ _ h => h, fun _ _ _ _ h => h, fun _ _ _ _ h => h, fun _ _ _ _ h => h, fun _ _ _ _ h => h, fun _ _ _ _ h => h, fun _ _ _ _ h => h, fun _ _ _ _ h => h, fun _ _ _ _ h => h, fun _ _ _ _ h => h⟩
            · refine ⟨⟨fun _ _ => trivial, fun ρ w' hX hG hk => ?_⟩, ?_⟩
              · exact Par.val_of_run rfl ⟨Ext.refl _, hk.1⟩
              refine ⟨⟨fun _ _ => trivial, fun ρ w' hX hG hk => ?_⟩, ?_⟩
              · exact Par.val_of_run rfl ⟨Ext.refl _, hk.1⟩
              refine ⟨⟨fun _ _ => trivial, fun ρ w' hX hG hk => ?_⟩, ?_⟩
              · obtain ⟨k0, k1, -⟩ := hk
                have e0 : ρ (.tmp 17) = Value.slice (some a) p.length cap := k0
                have e1 : ρ (.tmp 18) = Value.int IntKind.i64 (k : Int) := k1
                clear k0 k1
                refine Par.val_k fun K hK => ?_
                unfold Par.val
                (go_simp; exact hK _ _ ⟨Ext.refl _, rfl⟩)
              refine ⟨⟨fun _ _ => trivial, fun ρ w' hX hG hk => ?_⟩, ?_⟩
              · obtain ⟨k0, -⟩ := hk
                have e0 : ρ (.tmp 19) = Value.pointer (some (a.add (k * 3))) := k0
                clear k0
                refine Par.val_k fun K hK => ?_
                unfold Par.val
                (go_simp; exact hK _ _ ⟨Ext.refl _, rfl⟩)
              refine ⟨⟨fun _ _ => trivial, fun ρ w' hX hG hk => ?_⟩, ?_⟩
              · obtain ⟨k0, -⟩ := hk
                have e0 : ρ (.tmp 20) = Value.pointer (some (a.add (k * 3))) := k0
                clear k0
                refine Par.val_k fun K hK => ?_
                unfold Par.val
                (have c := hX.cell C0.out; go_simp; exact hK _ _ ⟨Ext.refl _, rfl⟩)
              refine ⟨⟨fun _ _ => trivial, fun ρ w' hX hG hk => ?_⟩, ?_⟩
              · exact Par.val_of_run rfl ⟨Ext.refl _, hk.1⟩
              refine ⟨⟨fun _ _ => trivial, fun ρ w' hX hG hk => ?_⟩, ?_⟩
              · exact Par.val_of_run rfl ⟨Ext.refl _, hk.1⟩
              refine ⟨⟨fun _ _ => trivial, fun ρ w' hX hG hk => ?_⟩, ?_⟩
              · obtain ⟨k0, k1, -⟩ := hk
                have e0 : ρ (.tmp 22) = Value.slice (some b) q.length cbp := k0
                have e1 : ρ (.tmp 23) = Value.int IntKind.i64 (k : Int) := k1
                clear k0 k1
                refine Par.val_k fun K hK => ?_
                unfold Par.val
                (go_simp; exact hK _ _ ⟨Ext.refl _, rfl⟩)
              refine ⟨⟨fun _ _ => trivial, fun ρ w' hX hG hk => ?_⟩, ?_⟩
              · obtain ⟨k0, -⟩ := hk
                have e0 : ρ (.tmp 24) = Value.pointer (some (b.add (k * 3))) := k0
                clear k0
                refine Par.val_k fun K hK => ?_
                unfold Par.val
                (go_simp; exact hK _ _ ⟨Ext.refl _, rfl⟩)
              refine ⟨⟨fun _ _ => trivial, fun ρ w' hX hG hk => ?_⟩, ?_⟩
              · obtain ⟨k0, -⟩ := hk
                have e0 : ρ (.tmp 25) = Value.pointer (some (b.add (k * 3))) := k0
                clear k0
                refine Par.val_k fun K hK => ?_
                unfold Par.val
                (have c := hX.cell D0.out; go_simp; exact hK _ _ ⟨Ext.refl _, rfl⟩)
              refine ⟨⟨fun _ _ => trivial, fun ρ w' hX hG hk => ?_⟩, ?_⟩
              · obtain ⟨k0, k1, -⟩ := hk
                have e0 : ρ (.tmp 21) = Value.int IntKind.i64 P := k0
                have e1 : ρ (.tmp 26) = Value.int IntKind.i64 Q := k1
                clear k0 k1
                refine Par.val_k fun K hK => ?_
                unfold Par.val
                (go_simp; exact hK _ _ ⟨Ext.refl _, rfl⟩)
              refine ⟨⟨fun _ _ => trivial, fun ρ w' hX hG hk => ?_⟩, ?_⟩
              · obtain ⟨k0, -⟩ := hk
                have e0 : ρ (.tmp 27) = Value.bool false := k0
                clear k0
                refine Par.val_k fun K hK => ?_
                unfold Par.val
                (go_simp; exact hK _ _ ⟨Ext.refl _, rfl⟩)
              refine ⟨⟨fun _ _ u hu => .inl hu, fun ρ w' hX hG hk => ?_⟩, ?_⟩
              · exact Par.val_of_run rfl ⟨Ext.refl _, hk.1⟩
              refine ⟨⟨fun _ _ u hu => .inl hu, fun ρ w' hX hG hk => ?_⟩, ?_⟩
              · exact Par.val_of_run rfl ⟨Ext.refl _, hk.1⟩
              refine ⟨⟨fun _ _ u hu => .inl hu, fun ρ w' hX hG hk => ?_⟩, ?_⟩
              · obtain ⟨k0, k1, -⟩ := hk
                have e0 : ρ (.tmp 29) = Value.slice (some a) p.length cap := k0
                have e1 : ρ (.tmp 30) = Value.int IntKind.i64 (k : Int) := k1
                clear k0 k1
                refine Par.val_k fun K hK => ?_
                unfold Par.val
                (go_simp; exact hK _ _ ⟨Ext.refl _, rfl⟩)
              refine ⟨⟨fun _ _ u hu => .inl hu, fun ρ w' hX hG hk => ?_⟩, ?_⟩
              · obtain ⟨k0, -⟩ := hk
                have e0 : ρ (.tmp 31) = Value.pointer (some (a.add (k * 3))) := k0
                clear k0
                refine Par.val_k fun K hK => ?_
                unfold Par.val
                (go_simp; exact hK _ _ ⟨Ext.refl _, rfl⟩)
              refine ⟨⟨fun _ _ u hu => .inl hu, fun ρ w' hX hG hk => ?_⟩, ?_⟩
              · obtain ⟨k0, -⟩ := hk
                have e0 : ρ (.tmp 32) = Value.pointer (some ⟨(a.add (k * 3)).block, (a.add (k * 3)).off + 2, none⟩) := k0
                clear k0
                refine Par.val_k fun K hK => ?_
                unfold Par.val
                (have c := hX.cell C2.out; go_simp; exact hK _ _ ⟨Ext.refl _, rfl⟩)
              refine ⟨⟨fun _ _ u hu => .inl hu, fun ρ w' hX hG hk => ?_⟩, ?_⟩
              · exact Par.val_of_run rfl ⟨Ext.refl _, hk.1⟩
              refine ⟨⟨fun _ _ u hu => .inl hu, fun ρ w' hX hG hk => ?_⟩, ?_⟩
              · exact Par.val_of_run rfl ⟨Ext.refl _, hk.1⟩
              refine ⟨⟨fun _ _ u hu => .inl hu, fun ρ w' hX hG hk => ?_⟩, ?_⟩
              · obtain ⟨k0, k1, -⟩ := hk
                have e0 : ρ (.tmp 34) = Value.slice (some b) q.length cbp := k0
                have e1 : ρ (.tmp 35) = Value.int IntKind.i64 (k : Int) := k1
                clear k0 k1
                refine Par.val_k fun K hK => ?_
                unfold Par.val
                (go_simp; exact hK _ _ ⟨Ext.refl _, rfl⟩)
              refine ⟨⟨fun _ _ u hu => .inl hu, fun ρ w' hX hG hk => ?_⟩, ?_⟩
              · obtain ⟨k0, -⟩ := hk
                have e0 : ρ (.tmp 36) = Value.pointer (some (b.add (k * 3))) := k0
                clear k0
                refine Par.val_k fun K hK => ?_
                unfold Par.val
                (go_simp; exact hK _ _ ⟨Ext.refl _, rfl⟩)
              refine ⟨⟨fun _ _ u hu => .inl hu, fun ρ w' hX hG hk => ?_⟩, ?_⟩
              · obtain ⟨k0, -⟩ := hk
                have e0 : ρ (.tmp 37) = Value.pointer (some ⟨(b.add (k * 3)).block, (b.add (k * 3)).off + 2, none⟩) := k0
                clear k0
                refine Par.val_k fun K hK => ?_
                unfold Par.val
                (have c := hX.cell D2.out; go_simp; exact hK _ _ ⟨Ext.refl _, rfl⟩)
              refine ⟨⟨fun _ _ u hu => .inl hu, fun ρ w' hX hG hk => ?_⟩, ?_⟩
              · obtain ⟨k0, k1, -⟩ := hk
                have e0 : ρ (.tmp 33) = Value.string (str S1) := k0
                have e1 : ρ (.tmp 38) = Value.string (str S2) := k1
                clear k0 k1
                refine Par.val_k fun K hK => ?_
                unfold Par.val
                (go_simp; exact hK _ _ ⟨Ext.refl _, rfl⟩)
              refine ⟨⟨fun _ _ => trivial, fun ρ w' hX hG hk => ?_⟩, ?_⟩
              · obtain ⟨k0, k1, k2, -⟩ := hk
                have e0 : ρ (.tmp 28) = Value.bool false := k0
                have e1 : ρ (Operand.const (Value.bool true)) = (Value.bool true) := k1
                have e2 : ρ (.tmp 39) = Value.bool true := k2
                clear k0 k1 k2
                refine Par.val_k fun K hK => ?_
                unfold Par.val
                (go_simp; exact hK _ _ ⟨Ext.refl _, rfl⟩)
              refine ⟨⟨fun _ _ => trivial, fun ρ w' hX hG hk => ?_⟩, ?_⟩
              · obtain ⟨k0, -⟩ := hk
                have e0 : ρ (.tmp 40) = Value.bool true := k0
                clear k0
                refine Par.val_k fun K hK => ?_
                unfold Par.val
                (go_simp; exact hK _ _ ⟨Ext.refl _, rfl⟩)
              refine ⟨⟨fun _ _ u hu => .inr rfl, fun ρ w' hX hG hk => ?_⟩, ?_⟩
              · cases hG
              refine ⟨⟨fun _ _ u hu => .inr rfl, fun ρ w' hX hG hk => ?_⟩, ?_⟩
              · cases hG
              refine ⟨⟨fun _ _ u hu => .inr rfl, fun ρ w' hX hG hk => ?_⟩, ?_⟩
              · cases hG
              refine ⟨⟨fun _ _ u hu => .inr rfl, fun ρ w' hX hG hk => ?_⟩, ?_⟩
              · cases hG
              refine ⟨⟨fun _ _ u hu => .inr rfl, fun ρ w' hX hG hk => ?_⟩, ?_⟩
              · cases hG
              refine ⟨⟨fun _ _ u hu => .inr rfl, fun ρ w' hX hG hk => ?_⟩, ?_⟩
              · cases hG
              refine ⟨⟨fun _ _ u hu => .inr rfl, fun ρ w' hX hG hk => ?_⟩, ?_⟩
              · cases hG
              refine ⟨⟨fun _ _ u hu => .inr rfl, fun ρ w' hX hG hk => ?_⟩, ?_⟩
              · cases hG
              refine ⟨⟨fun _ _ u hu => .inr rfl, fun ρ w' hX hG hk => ?_⟩, ?_⟩
              · cases hG
              refine ⟨⟨fun _ _ u hu => .inr rfl, fun ρ w' hX hG hk => ?_⟩, ?_⟩
              · cases hG
              refine ⟨⟨fun _ _ u hu => .inr rfl, fun ρ w' hX hG hk => ?_⟩, ?_⟩
              · cases hG
              refine ⟨⟨fun _ _ u hu => .inr rfl, fun ρ w' hX hG hk => ?_⟩, ?_⟩
              · cases hG
              refine ⟨⟨fun _ _ => trivial, fun ρ w' hX hG hk => ?_⟩, ?_⟩
              · obtain ⟨k0, k1, k2, -⟩ := hk
                have e0 : ρ (.tmp 41) = Value.bool true := k0
                have e1 : ρ (Operand.const (Value.bool true)) = (Value.bool true) := k1
                have e2 : ρ (.tmp 53) = undef := k2
                clear k0 k1 k2
                refine Par.val_k fun K hK => ?_
                unfold Par.val
                (go_simp; exact hK _ _ ⟨Ext.refl _, rfl⟩)
              trivial
            intro a' w' inv
            have hX := inv.ext
            have q17 : a'.tmps.getD 17 undef = Value.slice (some a) p.length cap := inv.done 0 _ 17 rfl rfl rfl
            have q18 : a'.tmps.getD 18 undef = Value.int IntKind.i64 (k : Int) := inv.done 1 _ 18 rfl rfl rfl
            have q19 : a'.tmps.getD 19 undef = Value.pointer (some (a.add (k * 3))) := inv.done 2 _ 19 rfl rfl rfl
            have q20 : a'.tmps.getD 20 undef = Value.pointer (some (a.add (k * 3))) := inv.done 3 _ 20 rfl rfl rfl
            have q21 : a'.tmps.getD 21 undef = Value.int IntKind.i64 P := inv.done 4 _ 21 rfl rfl rfl
            have q22 : a'.tmps.getD 22 undef = Value.slice (some b) q.length cbp := inv.done 5 _ 22 rfl rfl rfl
            have q23 : a'.tmps.getD 23 undef = Value.int IntKind.i64 (k : Int) := inv.done 6 _ 23 rfl rfl rfl
            have q24 : a'.tmps.getD 24 undef = Value.pointer (some (b.add (k * 3))) := inv.done 7 _ 24 rfl rfl rfl
            have q25 : a'.tmps.getD 25 undef = Value.pointer (some (b.add (k * 3))) := inv.done 8 _ 25 rfl rfl rfl
            have q26 : a'.tmps.getD 26 undef = Value.int IntKind.i64 Q := inv.done 9 _ 26 rfl rfl rfl
            have q27 : a'.tmps.getD 27 undef = Value.bool false := inv.done 10 _ 27 rfl rfl rfl
            have q28 : a'.tmps.getD 28 undef = Value.bool false := inv.done 11 _ 28 rfl rfl rfl
            have q29 : a'.tmps.getD 29 undef = Value.slice (some a) p.length cap := inv.done 12 _ 29 rfl rfl rfl
            have q30 : a'.tmps.getD 30 undef = Value.int IntKind.i64 (k : Int) := inv.done 13 _ 30 rfl rfl rfl
            have q31 : a'.tmps.getD 31 undef = Value.pointer (some (a.add (k * 3))) := inv.done 14 _ 31 rfl rfl rfl
            have q32 : a'.tmps.getD 32 undef = Value.pointer (some ⟨(a.add (k * 3)).block, (a.add (k * 3)).off + 2, none⟩) := inv.done 15 _ 32 rfl rfl rfl
            have q33 : a'.tmps.getD 33 undef = Value.string (str S1) := inv.done 16 _ 33 rfl rfl rfl
            have q34 : a'.tmps.getD 34 undef = Value.slice (some b) q.length cbp := inv.done 17 _ 34 rfl rfl rfl
            have q35 : a'.tmps.getD 35 undef = Value.int IntKind.i64 (k : Int) := inv.done 18 _ 35 rfl rfl rfl
            have q36 : a'.tmps.getD 36 undef = Value.pointer (some (b.add (k * 3))) := inv.done 19 _ 36 rfl rfl rfl
            have q37 : a'.tmps.getD 37 undef = Value.pointer (some ⟨(b.add (k * 3)).block, (b.add (k * 3)).off + 2, none⟩) := inv.done 20 _ 37 rfl rfl rfl
            have q38 : a'.tmps.getD 38 undef = Value.string (str S2) := inv.done 21 _ 38 rfl rfl rfl
            have q39 : a'.tmps.getD 39 undef = Value.bool true := inv.done 22 _ 39 rfl rfl rfl
            have q40 : a'.tmps.getD 40 undef = Value.bool true := inv.done 23 _ 40 rfl rfl rfl
            have q41 : a'.tmps.getD 41 undef = Value.bool true := inv.done 24 _ 41 rfl rfl rfl
            have q42 : a'.tmps.getD 42 undef = undef := inv.done 25 _ 42 rfl rfl rfl
            have q43 : a'.tmps.getD 43 undef = undef := inv.done 26 _ 43 rfl rfl rfl
            have q44 : a'.tmps.getD 44 undef = undef := inv.done 27 _ 44 rfl rfl rfl
            have q45 : a'.tmps.getD 45 undef = undef := inv.done 28 _ 45 rfl rfl rfl
            have q46 : a'.tmps.getD 46 undef = undef := inv.done 29 _ 46 rfl rfl rfl
            have q47 : a'.tmps.getD 47 undef = undef := inv.done 30 _ 47 rfl rfl rfl
            have q48 : a'.tmps.getD 48 undef = undef := inv.done 31 _ 48 rfl rfl rfl
            have q49 : a'.tmps.getD 49 undef = undef := inv.done 32 _ 49 rfl rfl rfl
            have q50 : a'.tmps.getD 50 undef = undef := inv.done 33 _ 50 rfl rfl rfl
            have q51 : a'.tmps.getD 51 undef = undef := inv.done 34 _ 51 rfl rfl rfl
            have q52 : a'.tmps.getD 52 undef = undef := inv.done 35 _ 52 rfl rfl rfl
            have q53 : a'.tmps.getD 53 undef = undef := inv.done 36 _ 53 rfl rfl rfl
            have q54 : a'.tmps.getD 54 undef = Value.bool true := inv.done 37 _ 54 rfl rfl rfl
            clear inv
            simp only [List.filterMap_cons, List.filterMap_nil, Par.putAll, Act.put, List.setIfInBounds_toArray, List.set_cons_succ, List.set_cons_zero, q17, q18, q19, q20, q21, q22, q23, q24, q25, q26, q27, q28, q29, q30, q31, q32, q33, q34, q35, q36, q37, q38, q39, q40, q41, q42, q43, q44, q45, q46, q47, q48, q49, q50, q51, q52, q53, q54]
            clear q17 q18 q19 q20 q21 q22 q23 q24 q25 q26 q27 q28 q29 q30 q31 q32 q33 q34 q35 q36 q37 q38 q39 q40 q41 q42 q43 q44 q45 q46 q47 q48 q49 q50 q51 q52 q53 q54
            clear a'
            go_wp2
            go_ret
            exact ⟨by rw [HFIN.out]; rfl, HE.out.trans hX⟩
        · have hkn : (P != Q) = true := by simp [hkk]
          have HFIN := hid (recsame_ne (l := p.map (·.1)) (m := q.map (·.1)) (fun e => hkk (by
            have h1 : (p.map (·.1))[k]? = (q.map (·.1))[k]? := by rw [e]
            simp [hlt, hlt2] at h1
            rw [← HPQ.out.1, ← HPQ.out.2, h1])))
          clear hkk
          go_wp2_with fail
          refine Par.wp_region_par (l := [_, _, _, _, _, _, _, _, _, _, _, _, _, _, _, _, _, _, _, _, _, _, _, _, _, _, _, _, _, _, _, _, _, _, _, _, _, _]) rfl Ext (Par.VL [Par.EQ (Value.slice (some a) p.length cap), Par.EQ (Value.int IntKind.i64 (k : Int)), Par.EQ (Value.pointer (some (a.add (k * 3)))), Par.EQ (Value.pointer (some (a.add (k * 3)))), Par.EQ (Value.int IntKind.i64 P), Par.EQ (Value.slice (some b) q.length cbp), Par.EQ (Value.int IntKind.i64 (k : Int)), Par.EQ (Value.pointer (some (b.add (k * 3)))), Par.EQ (Value.pointer (some (b.add (k * 3)))), Par.EQ (Value.int IntKind.i64 Q), Par.EQ (Value.bool true), Par.EQ (Value.bool true), Par.EQ (undef), Par.EQ (undef), Par.EQ (undef), Par.EQ (undef), Par.EQ (undef), Par.EQ (undef), Par.EQ (undef), Par.EQ (undef), Par.EQ (undef), Par.EQ (undef), Par.EQ (undef), Par.EQ (Value.bool true), Par.EQ (Value.bool true), Par.EQ (undef), Par.EQ (undef), Par.EQ (undef), Par.EQ (undef), Par.EQ (undef), Par.EQ (undef), Par.EQ (undef), Par.EQ (undef), Par.EQ (undef), Par.EQ (undef), Par.EQ (undef), Par.EQ (undef), Par.EQ (Value.bool true)]) (by kernel_rfl) Ext.refl (fun _ _ _ h1 h2 => Ext.trans h1 h2) (Ext.draw _) (Par.VL_stab ?_) ?_ ?_
          · simp only [List.forall_mem_cons, List.not_mem_nil, false_implies, implies_true, and_true]
            refine ⟨fun _ _ _ _ h => h, fun _ _ _ _ h => h, fun _ _ _ _ h => h, fun _ _ _ _ h => h, fun _ _ _ _ h => h, fun _ _ _ _ h => h, fun _ _ _ _ h => h, fun _ _ _ _ h => h, fun _ _ _ _ h => h, fun _ _ _ _ h => h, fun _ _ _ _ h => h, fun _ _ _ _ h => h, fun _ _ _ _ h => h, fun _ _ _ _ h => h, fun _ _ _ _ h => h, fun _ _ _ _ h => h, fun _ _ _ _ h => h, fun _ _ _ _ h => h, fun _ _ _ _ h => h, fun _ _ _ _ h => h, fun _ _ _ _ h => h, fun _ _ _ _ h => h, fun _ _ _ _ h => h, fun _ _ _ _ h => h, fun _ _ _ _ h => h, fun _ _ _ _ h => h, fun _ _ _ _ h => h, fun _ _ _ _ h => h, fun _ _ _ _ h => h, fun _ _ _ _ h => h, fun _ _ _ _ h => h, fun _ _ _ _ h => h, fun _ _ _ _ h => h, fun _ _ _ _ h => h, fun _ _ _ _ h => h, fun _ _ _ _ h => h, fun _ _ _ _ h => h, fun _ _ _ _ h => h⟩
          · refine ⟨⟨fun _ _ => trivial, fun ρ w' hX hG hk => ?_⟩, ?_⟩
            · exact Par.val_of_run rfl ⟨Ext.refl _, hk.1⟩
            refine ⟨⟨fun _ _ => trivial, fun ρ w' hX hG hk => ?_⟩, ?_⟩
            · exact Par.val_of_run rfl ⟨Ext.refl _, hk.1⟩
            refine ⟨⟨fun _ _ => trivial, fun ρ w' hX hG hk => ?_⟩, ?_⟩
            · obtain ⟨k0, k1, -⟩ := hk
              have e0 : ρ (.tmp 17) = Value.slice (some a) p.length cap := k0
              have e1 : ρ (.tmp 18) = Value.int IntKind.i64 (k : Int) := k1
              clear k0 k1
              refine Par.val_k fun K hK => ?_
              unfold Par.val
              (go_simp; exact hK _ _ ⟨Ext.refl _, rfl⟩)
            refine ⟨⟨fun _ _ => trivial, fun ρ w' hX hG hk => ?_⟩, ?_⟩
            · obtain ⟨k0, -⟩ := hk
              have e0 : ρ (.tmp 19) = Value.pointer (some (a.add (k * 3))) := k0
              clear k0
              refine Par.val_k fun K hK => ?_
              unfold Par.val
              (go_simp; exact hK _ _ ⟨Ext.refl _, rfl⟩)
            refine ⟨⟨fun _ _ => trivial, fun ρ w' hX hG hk => ?_⟩, ?_⟩
            · obtain ⟨k0, -⟩ := hk
              have e0 : ρ (.tmp 20) = Value.pointer (some (a.add (k * 3))) := k0
              clear k0
              refine Par.val_k fun K hK => ?_
              unfold Par.val
              (have c := hX.cell C0.out; go_simp; exact hK _ _ ⟨Ext.refl _, rfl⟩)
            refine ⟨⟨fun _ _ => trivial, fun ρ w' hX hG hk => ?_⟩, ?_⟩
            · exact Par.val_of_run rfl ⟨Ext.refl _, hk.1⟩
            refine ⟨⟨fun _ _ => trivial, fun ρ w' hX hG hk => ?_⟩, ?_⟩
            · exact Par.val_of_run rfl ⟨Ext.refl _, hk.1⟩
            refine ⟨⟨fun _ _ => trivial, fun ρ w' hX hG hk => ?_⟩, ?_⟩
            · obtain ⟨k0, k1, -⟩ := hk
              have e0 : ρ (.tmp 22) = Value.slice (some b) q.length cbp := k0
              have e1 : ρ (.tmp 23) = Value.int IntKind.i64 (k : Int) := k1
              clear k0 k1
              refine Par.val_k fun K hK => ?_
              unfold Par.val
              (go_simp; exact hK _ _ ⟨Ext.refl _, rfl⟩)
            refine ⟨⟨fun _ _ => trivial, fun ρ w' hX hG hk => ?_⟩, ?_⟩
            · obtain ⟨k0, -⟩ := hk
              have e0 : ρ (.tmp 24) = Value.pointer (some (b.add (k * 3))) := k0
              clear k0
              refine Par.val_k fun K hK => ?_
              unfold Par.val
              (go_simp; exact hK _ _ ⟨Ext.refl _, rfl⟩)
            refine ⟨⟨fun _ _ => trivial, fun ρ w' hX hG hk => ?_⟩, ?_⟩
            · obtain ⟨k0, -⟩ := hk
              have e0 : ρ (.tmp 25) = Value.pointer (some (b.add (k * 3))) := k0
              clear k0
              refine Par.val_k fun K hK => ?_
              unfold Par.val
              (have c := hX.cell D0.out; go_simp; exact hK _ _ ⟨Ext.refl _, rfl⟩)
            refine ⟨⟨fun _ _ => trivial, fun ρ w' hX hG hk => ?_⟩, ?_⟩
            · obtain ⟨k0, k1, -⟩ := hk
              have e0 : ρ (.tmp 21) = Value.int IntKind.i64 P := k0
              have e1 : ρ (.tmp 26) = Value.int IntKind.i64 Q := k1
              clear k0 k1
              refine Par.val_k fun K hK => ?_
              unfold Par.val
              (go_simp; exact hK _ _ ⟨Ext.refl _, rfl⟩)
            refine ⟨⟨fun _ _ => trivial, fun ρ w' hX hG hk => ?_⟩, ?_⟩
            · obtain ⟨k0, -⟩ := hk
              have e0 : ρ (.tmp 27) = Value.bool true := k0
              clear k0
              refine Par.val_k fun K hK => ?_
              unfold Par.val
              (go_simp; exact hK _ _ ⟨Ext.refl _, rfl⟩)
            refine ⟨⟨fun _ _ u hu => .inr rfl, fun ρ w' hX hG hk => ?_⟩, ?_⟩
            · cases hG
            refine ⟨⟨fun _ _ u hu => .inr rfl, fun ρ w' hX hG hk => ?_⟩, ?_⟩
            · cases hG
            refine ⟨⟨fun _ _ u hu => .inr rfl, fun ρ w' hX hG hk => ?_⟩, ?_⟩
            · cases hG
            refine ⟨⟨fun _ _ u hu => .inr rfl, fun ρ w' hX hG hk => ?_⟩, ?_⟩
            · cases hG
            refine ⟨⟨fun _ _ u hu => .inr rfl, fun ρ w' hX hG hk => ?_⟩, ?_⟩
            · cases hG
            refine ⟨⟨fun _ _ u hu => .inr rfl, fun ρ w' hX hG hk => ?_⟩, ?_⟩
            · cases hG
            refine ⟨⟨fun _ _ u hu => .inr rfl, fun ρ w' hX hG hk => ?_⟩, ?_⟩
            · cases hG
            refine ⟨⟨fun _ _ u hu => .inr rfl, fun ρ w' hX hG hk => ?_⟩, ?_⟩
            · cases hG
            refine ⟨⟨fun _ _ u hu => .inr rfl, fun ρ w' hX hG hk => ?_⟩, ?_⟩
            · cases hG
            refine ⟨⟨fun _ _ u hu => .inr rfl, fun ρ w' hX hG hk => ?_⟩, ?_⟩
            · cases hG
            refine ⟨⟨fun _ _ u hu => .inr rfl, fun ρ w' hX hG hk => ?_⟩, ?_⟩
            · cases hG
            refine ⟨⟨fun _ _ => trivial, fun ρ w' hX hG hk => ?_⟩, ?_⟩
            · obtain ⟨k0, k1, k2, -⟩ := hk
              have e0 : ρ (.tmp 28) = Value.bool true := k0
              have e1 : ρ (Operand.const (Value.bool true)) = (Value.bool true) := k1
              have e2 : ρ (.tmp 39) = undef := k2
              clear k0 k1 k2
              refine Par.val_k fun K hK => ?_
              unfold Par.val
              (go_simp; exact hK _ _ ⟨Ext.refl _, rfl⟩)
            refine ⟨⟨fun _ _ => trivial, fun ρ w' hX hG hk => ?_⟩, ?_⟩
            · obtain ⟨k0, -⟩ := hk
              have e0 : ρ (.tmp 40) = Value.bool true := k0
              clear k0
              refine Par.val_k fun K hK => ?_
              unfold Par.val
              (go_simp; exact hK _ _ ⟨Ext.refl _, rfl⟩)
            refine ⟨⟨fun _ _ u hu => .inr rfl, fun ρ w' hX hG hk => ?_⟩, ?_⟩
            · cases hG
            refine ⟨⟨fun _ _ u hu => .inr rfl, fun ρ w' hX hG hk => ?_⟩, ?_⟩
            · cases hG
            refine ⟨⟨fun _ _ u hu => .inr rfl, fun ρ w' hX hG hk => ?_⟩, ?_⟩
            · cases hG
            refine ⟨⟨fun _ _ u hu => .inr rfl, fun ρ w' hX hG hk => ?_⟩, ?_⟩
            · cases hG
            refine ⟨⟨fun _ _ u hu => .inr rfl, fun ρ w' hX hG hk => ?_⟩, ?_⟩
            · cases hG
            refine ⟨⟨fun _ _ u hu => .inr rfl, fun ρ w' hX hG hk => ?_⟩, ?_⟩
            · cases hG
            refine ⟨⟨fun _ _ u hu => .inr rfl, fun ρ w' hX hG hk => ?_⟩, ?_⟩
            · cases hG
            refine ⟨⟨fun _ _ u hu => .inr rfl, fun ρ w' hX hG hk => ?_⟩, ?_⟩
            · cases hG
            refine ⟨⟨fun _ _ u hu => .inr rfl, fun ρ w' hX hG hk => ?_⟩, ?_⟩
            · cases hG
            refine ⟨⟨fun _ _ u hu => .inr rfl, fun ρ w' hX hG hk => ?_⟩, ?_⟩
            · cases hG
            refine ⟨⟨fun _ _ u hu => .inr rfl, fun ρ w' hX hG hk => ?_⟩, ?_⟩
            · cases hG
            refine ⟨⟨fun _ _ u hu => .inr rfl, fun ρ w' hX hG hk => ?_⟩, ?_⟩
            · cases hG
            refine ⟨⟨fun _ _ => trivial, fun ρ w' hX hG hk => ?_⟩, ?_⟩
            · obtain ⟨k0, k1, k2, -⟩ := hk
              have e0 : ρ (.tmp 41) = Value.bool true := k0
              have e1 : ρ (Operand.const (Value.bool true)) = (Value.bool true) := k1
              have e2 : ρ (.tmp 53) = undef := k2
              clear k0 k1 k2
              refine Par.val_k fun K hK => ?_
              unfold Par.val
              (go_simp; exact hK _ _ ⟨Ext.refl _, rfl⟩)
            trivial
          intro a' w' inv
          have hX := inv.ext
          have q17 : a'.tmps.getD 17 undef = Value.slice (some a) p.length cap := inv.done 0 _ 17 rfl rfl rfl
          have q18 : a'.tmps.getD 18 undef = Value.int IntKind.i64 (k : Int) := inv.done 1 _ 18 rfl rfl rfl
          have q19 : a'.tmps.getD 19 undef = Value.pointer (some (a.add (k * 3))) := inv.done 2 _ 19 rfl rfl rfl
          have q20 : a'.tmps.getD 20 undef = Value.pointer (some (a.add (k * 3))) := inv.done 3 _ 20 rfl rfl rfl
          have q21 : a'.tmps.getD 21 undef = Value.int IntKind.i64 P := inv.done 4 _ 21 rfl rfl rfl
          have q22 : a'.tmps.getD 22 undef = Value.slice (some b) q.length cbp := inv.done 5 _ 22 rfl rfl rfl
          have q23 : a'.tmps.getD 23 undef = Value.int IntKind.i64 (k : Int) := inv.done 6 _ 23 rfl rfl rfl
          have q24 : a'.tmps.getD 24 undef = Value.pointer (some (b.add (k * 3))) := inv.done 7 _ 24 rfl rfl rfl
          have q25 : a'.tmps.getD 25 undef = Value.pointer (some (b.add (k * 3))) := inv.done 8 _ 25 rfl rfl rfl
          have q26 : a'.tmps.getD 26 undef = Value.int IntKind.i64 Q := inv.done 9 _ 26 rfl rfl rfl
          have q27 : a'.tmps.getD 27 undef = Value.bool true := inv.done 10 _ 27 rfl rfl rfl
          have q28 : a'.tmps.getD 28 undef = Value.bool true := inv.done 11 _ 28 rfl rfl rfl
          have q29 : a'.tmps.getD 29 undef = undef := inv.done 12 _ 29 rfl rfl rfl
          have q30 : a'.tmps.getD 30 undef = undef := inv.done 13 _ 30 rfl rfl rfl
          have q31 : a'.tmps.getD 31 undef = undef := inv.done 14 _ 31 rfl rfl rfl
          have q32 : a'.tmps.getD 32 undef = undef := inv.done 15 _ 32 rfl rfl rfl
          have q33 : a'.tmps.getD 33 undef = undef := inv.done 16 _ 33 rfl rfl rfl
          have q34 : a'.tmps.getD 34 undef = undef := inv.done 17 _ 34 rfl rfl rfl
          have q35 : a'.tmps.getD 35 undef = undef := inv.done 18 _ 35 rfl rfl rfl
          have q36 : a'.tmps.getD 36 undef = undef := inv.done 19 _ 36 rfl rfl rfl
          have q37 : a'.tmps.getD 37 undef = undef := inv.done 20 _ 37 rfl rfl rfl
          have q38 : a'.tmps.getD 38 undef = undef := inv.done 21 _ 38 rfl rfl rfl
          have q39 : a'.tmps.getD 39 undef = undef := inv.done 22 _ 39 rfl rfl rfl
          have q40 : a'.tmps.getD 40 undef = Value.bool true := inv.done 23 _ 40 rfl rfl rfl
          have q41 : a'.tmps.getD 41 undef = Value.bool true := inv.done 24 _ 41 rfl rfl rfl
          have q42 : a'.tmps.getD 42 undef = undef := inv.done 25 _ 42 rfl rfl rfl
          have q43 : a'.tmps.getD 43 undef = undef := inv.done 26 _ 43 rfl rfl rfl
          have q44 : a'.tmps.getD 44 undef = undef := inv.done 27 _ 44 rfl rfl rfl
          have q45 : a'.tmps.getD 45 undef = undef := inv.done 28 _ 45 rfl rfl rfl
          have q46 : a'.tmps.getD 46 undef = undef := inv.done 29 _ 46 rfl rfl rfl
          have q47 : a'.tmps.getD 47 undef = undef := inv.done 30 _ 47 rfl rfl rfl
          have q48 : a'.tmps.getD 48 undef = undef := inv.done 31 _ 48 rfl rfl rfl
          have q49 : a'.tmps.getD 49 undef = undef := inv.done 32 _ 49 rfl rfl rfl
          have q50 : a'.tmps.getD 50 undef = undef := inv.done 33 _ 50 rfl rfl rfl
          have q51 : a'.tmps.getD 51 undef = undef := inv.done 34 _ 51 rfl rfl rfl
          have q52 : a'.tmps.getD 52 undef = undef := inv.done 35 _ 52 rfl rfl rfl
          have q53 : a'.tmps.getD 53 undef = undef := inv.done 36 _ 53 rfl rfl rfl
          have q54 : a'.tmps.getD 54 undef = Value.bool true := inv.done 37 _ 54 rfl rfl rfl
          clear inv
          simp only [List.filterMap_cons, List.filterMap_nil, Par.putAll, Act.put, List.setIfInBounds_toArray, List.set_cons_succ, List.set_cons_zero, q17, q18, q19, q20, q21, q22, q23, q24, q25, q26, q27, q28, q29, q30, q31, q32, q33, q34, q35, q36, q37, q38, q39, q40, q41, q42, q43, q44, q45, q46, q47, q48, q49, q50, q51, q52, q53, q54]
          clear q17 q18 q19 q20 q21 q22 q23 q24 q25 q26 q27 q28 q29 q30 q31 q32 q33 q34 q35 q36 q37 q38 q39 q40 q41 q42 q43 q44 q45 q46 q47 q48 q49 q50 q51 q52 q53 q54
          clear a'
          go_wp2
          go_ret
          exact ⟨by rw [HFIN.out]; rfl, HE.out.trans hX⟩
      · obtain rfl : k = p.length := by omega
        have HFIN := hid (recsame_eq (l := p.map (·.1)) (m := q.map (·.1)) (by
          have h1 := HT.out
          rw [List.take_of_length_le (by simp), List.take_of_length_le (by simp [HLEN.out])] at h1
          exact h1))
        go_wp2
        go_ret
        exact ⟨by rw [HFIN.out]; rfl, HE.out⟩
  · have hne : ((p.length : Int) != (q.length : Int)) = true := by simp; omega
    have HFIN := hid (recsame_ne (l := p.map (·.1)) (m := q.map (·.1)) (fun e => hlen (by have := congrArg List.length e; simpa using this)))
    clear hlen
    go_enter Tryd.func15, Tryd.ntmps15
    go_wp2
    go_ret
    exact ⟨by rw [HFIN.out]; rfl, Ext.refl _⟩

section
variable {P : Program}
theorem wpList_append_row3 {ops : Array Oper} {rest : List Oper} {o : Oper} {a : Act} {w : World} {Q : Exit → Act → World → Prop} (hgd : o.guard = none) (s x : Operand) (t : Nat)
    (ho : o.op = .call { callee := .builtin .append, args := #[s, x], argTypes := #[t, t] }) (base T : Nat) (ht : P.underlying t = some (.slice T))
    (hi : (P.info? T).map (fun i => (i.zero, i.size, i.bytes)) = some (some (.agg #[.int .i64 0, .slice none 0 0, .string ⟨#[]⟩]), 3, 48))
    {v : Value} {n : Nat} {xs : List Value} (hs : a.eval s = v) (hown : w.ownsRow base T 3 v n xs) {g : Nat} {p q r : Value} (hx : a.eval x = .slice (some ⟨g, 0, none⟩) 1 1)
    {ty : TypeId} {fr : Nat × Nat} (hblk : w.heap[g]? = some (.cells #[p, q, r] ty fr)) (hp : p.oneCell' = true) (hq : q.oneCell' = true) (hr : r.oneCell' = true)
    (hb : (n + 1) * 48 ≤ 140737488355328) (hbase : base ≤ w.heap.size)
    (h : ∀ ao cap w', w'.ownsRow base T 3 (.slice ao (n + 1) cap) (n + 1) (xs ++ [p, q, r]) → w.grownBy w' v.ownBlock → Below base w w' → wpList P ops Q rest (a.put o.dst (.slice ao (n + 1) cap)) w') :
    wpList P ops Q (o :: rest) a w := by
  have hsl : Sl w 3 (.slice (some ⟨g, 0, none⟩) 1 1) 1 [p, q, r] := by
    refine ⟨rfl, some ⟨g, 0, none⟩, 1, rfl, Nat.le_refl _, by simp [maxLen], (fun h => by cases h), fun a ha j u hu => ?_⟩
    cases ha
    have e1 : (⟨g, 0, none⟩ : Addr).add j = ⟨g, j, none⟩ := by unfold Addr.add; split <;> simp_all
    rw [e1, cell_of_row _ _ _ _ _ _ hblk]
    simpa using hu
  refine wpList_append_sl hgd s x t ho base T ht hi rfl (by decide) hs hown hx hsl (by
      intro y' hy'
      simp at hy'
      rcases hy' with rfl | rfl | rfl
      · exact hp
      · exact hq
      · exact hr) (by simp [maxLen]; omega) (by omega) hbase fun ao cap w' k1 k2 k3 => h ao cap w' k1 k2 k3
end

end Go.Proofs.YtpbmbjdiilnaeaaDoor

set_option linter.unusedSimpArgs false
set_option linter.unusedVariables false
set_option maxRecDepth 100000
namespace Go.Proofs.YtpbmbjdiilnaeaaDoor
open Go Go.RowKit Go.Tum Go.ChangeMaps Go.Sort Go.Tum.Vint Go.Tum.Crc

def snA : Snp := ⟨0, 0, 0, 0, 0, [], [], [], 4, 5⟩
def rcA : List Rc := [⟨13, [0, 0, 0, 0, 0, 4, 5], []⟩, ⟨17, [1], []⟩]
def itN : Itm := ⟨0, -1, 0, 0, 0, 0, 0, 0, 0, 0⟩
def snN : Snp := ⟨0, 0, 0, 0, 0, [itN], [], [], 0, 0⟩
def it3 : Itm := ⟨0, 0, 0, 0, 0, 0, 0, 3, 0, 0⟩
def it1 : Itm := ⟨0, 0, 0, 0, 0, 0, 0, 1, 0, 0⟩
theorem rightA : rightS snA = true := by rfl
theorem rightN : rightS snN = false := by rfl
theorem saveA : saveR snA = rcA := by rfl
theorem loadA : loadR rcA = some snA := by rfl
theorem load0 : loadR [] = none := by rfl
theorem segs31 : segsOf [it3, it1] = [1, 3] := by
  have h : ([3, 1] : List UInt64).mergeSort (fun x y => decide (x ≤ y)) = [1, 3] := by
    simp [List.mergeSort, List.MergeSort.Internal.splitInTwo, List.merge]
  show ddU (([3, 1] : List UInt64).mergeSort (fun x y => decide (x ≤ y))) = [1, 3]
  rw [h]; rfl
theorem blk_slk {w : World} {g n k : Nat} {cs : List Value} {ty : TypeId} {fr : Nat × Nat} (h : w.heap[g]? = some (.cells cs.toArray ty fr)) (hn : cs.length = k * n) (hk : k ≤ maxLen) : Sl w n (.slice (some ⟨g, 0, none⟩) k k) k cs := by
  refine ⟨hn, some ⟨g, 0, none⟩, k, rfl, Nat.le_refl _, hk, (fun h => by cases h), fun a ha j u hu => ?_⟩
  cases ha
  have e1 : (⟨g, 0, none⟩ : Addr).add j = ⟨g, j, none⟩ := by unfold Addr.add; split <;> simp_all
  rw [e1, cell_of_row _ _ _ _ _ _ h]
  simpa using hu
theorem snpA_c (io do_ co : Option Addr) (ic dc cc : Nat) : snpC snA (.slice io snA.items.length ic) (.slice do_ snA.dead.length dc) (.slice co snA.curs.length cc) = #[.int .u64 0, .int .u64 0, .int .u64 0, .int .u64 0, .int .u64 0, .slice io 0 ic, .slice do_ 0 dc, .slice co 0 cc, .int .u64 4, .int .u64 5] := rfl
theorem rcs_nil (w : World) : Rcs w (.slice none 0 0) [] := ⟨[], rfl, RowsOf.nil _ _ _, fun p hp => absurd hp (by simp)⟩
set_option maxHeartbeats 4000000 in
theorem awake13_any (w : World) (ht : Tab w) : Calls Tryd.prog 6 #[] w fun e w' => e = .returned (.bool true) ∧ Ext w w' := by
  have HT := hid ht
  have hc : Calls Tryd.prog 10 #[.agg #[.int .u64 0, .int .u64 0, .int .u64 0, .int .u64 0, .int .u64 0, .slice none 0 0, .slice none 0 0, .slice none 0 0, .int .u64 4, .int .u64 5]] w fun e w' => (∃ v, e = .returned (.tuple #[v, .int .i64 0]) ∧ RcsO w' w.heap.size 62 v rcA) ∧ Ext w w' := (save_any snA (.slice none 0 0) (.slice none 0 0) (.slice none 0 0) w ⟨RowsOf.nil _ _ _, RowsOf.nil _ _ _, RowsOf.nil _ _ _⟩ (by decide)).mono fun e w' h => by
    rw [rightA, saveA, if_pos (show true = true from rfl)] at h
    exact h
  have HC := hid hc
  clear ht hc
  go_enter Tryd.func6, Tryd.ntmps6
  go_wp2_with fail
  refine HC.out.mono ?_
  rintro e w1 ⟨⟨v1, rfl, ho⟩, hx⟩
  obtain ⟨o1, c1, rfl⟩ := ho.open
  rw [show rcA.length = 2 from rfl] at ho ⊢
  have HO := hid ho
  have HE1 := hid hx
  clear ho hx HC
  have HC := hid (load_any _ rcA w1 HO.out.rcs (by decide) (HT.out.ext HE1.out))
  go_wp2_with fail
  refine HC.out.mono ?_
  rintro e w2 hp
  unfold LdP at hp
  rw [loadA] at hp
  obtain ⟨⟨vi, vd, vc, rfl, hin⟩, hx⟩ := hp
  obtain ⟨io, ic, rfl, -⟩ := hin.it.open
  obtain ⟨do_, dc, rfl, -⟩ := hin.dd.open
  obtain ⟨co, cc, rfl, -⟩ := hin.cu.open
  have HE2 := hid (HE1.out.trans hx)
  have HO2 := hid (HO.out.ext hx)
  clear hin hx HC HO HE1
  obtain ⟨W3, hW3⟩ : ∃ W, w2.alloc (.cells #[.int .u64 0, .int .u64 0, .int .u64 0, .int .u64 0, .int .u64 0, .slice io 0 ic, .slice do_ 0 dc, .slice co 0 cc, .int .u64 4, .int .u64 5] 29 (0, 0)) = W := ⟨_, rfl⟩
  have hE3 := Ext.alloc w2 (.cells #[.int .u64 0, .int .u64 0, .int .u64 0, .int .u64 0, .int .u64 0, .slice io 0 ic, .slice do_ 0 dc, .slice co 0 cc, .int .u64 4, .int .u64 5] 29 (0, 0))
  have hb3 := heap_alloc_new w2 (.cells #[.int .u64 0, .int .u64 0, .int .u64 0, .int .u64 0, .int .u64 0, .slice io 0 ic, .slice do_ 0 dc, .slice co 0 cc, .int .u64 4, .int .u64 5] 29 (0, 0))
  rw [hW3] at hE3 hb3
  have HB3 := hid hb3
  have HE3 := hid (HE2.out.trans hE3)
  have HO3 := hid (HO2.out.ext hE3)
  clear hE3 hb3 HE2 HO2
  have HC := hid (load_any (.slice none 0 0) [] W3 (rcs_nil W3) (by decide) (HT.out.ext HE3.out))
  rw [snpA_c]
  go_wp2_with rw [hW3]
  refine HC.out.mono ?_
  rintro e w4 hp
  unfold LdP at hp
  rw [load0] at hp
  obtain ⟨rfl, hx⟩ := hp
  have HE4 := hid (HE3.out.trans hx)
  have HO4 := hid (HO3.out.ext hx)
  have HB4 := hid (hx.obj HB3.out)
  clear hx HC HO3 HE3 HB3 hW3
  have hE5 := Ext.alloc w4 (.cells #[.int .u64 0, .int .u64 0, .int .u64 0, .int .u64 0, .int .u64 0, .slice none 0 0, .slice none 0 0, .slice none 0 0, .int .u64 0, .int .u64 0] 29 (0, 0))
  obtain ⟨W6, hW6⟩ : ∃ W, (w4.alloc (.cells #[.int .u64 0, .int .u64 0, .int .u64 0, .int .u64 0, .int .u64 0, .slice none 0 0, .slice none 0 0, .slice none 0 0, .int .u64 0, .int .u64 0] 29 (0, 0))).alloc (.cells #[.int .u64 0, .int .i64 (-1), .int .i64 0, .int .i64 0, .int .u64 0, .int .u64 0, .int .u64 0, .int .u64 0, .int .u64 0, .int .i64 0] 69 (0, 0)) = W := ⟨_, rfl⟩
  have hE6 := Ext.alloc (w4.alloc (.cells #[.int .u64 0, .int .u64 0, .int .u64 0, .int .u64 0, .int .u64 0, .slice none 0 0, .slice none 0 0, .slice none 0 0, .int .u64 0, .int .u64 0] 29 (0, 0))) (.cells #[.int .u64 0, .int .i64 (-1), .int .i64 0, .int .i64 0, .int .u64 0, .int .u64 0, .int .u64 0, .int .u64 0, .int .u64 0, .int .i64 0] 69 (0, 0))
  have hb6 := heap_alloc_new (w4.alloc (.cells #[.int .u64 0, .int .u64 0, .int .u64 0, .int .u64 0, .int .u64 0, .slice none 0 0, .slice none 0 0, .slice none 0 0, .int .u64 0, .int .u64 0] 29 (0, 0))) (.cells #[.int .u64 0, .int .i64 (-1), .int .i64 0, .int .i64 0, .int .u64 0, .int .u64 0, .int .u64 0, .int .u64 0, .int .u64 0, .int .i64 0] 69 (0, 0))
  rw [hW6] at hE6 hb6
  rw [World.size_alloc] at hb6
  have hin : SnpIn W6 snN (.slice (some ⟨(w4.heap.size + 1), 0, none⟩) 1 1) (.slice none 0 0) (.slice none 0 0) := ⟨⟨fun _ _ => rfl, blk_slk (cs := itcells itN) hb6 rfl (by decide)⟩, RowsOf.nil _ _ _, RowsOf.nil _ _ _⟩
  have hc : Calls Tryd.prog 10 #[.agg #[.int .u64 0, .int .u64 0, .int .u64 0, .int .u64 0, .int .u64 0, .slice (some ⟨(w4.heap.size + 1), 0, none⟩) 1 1, .slice none 0 0, .slice none 0 0, .int .u64 0, .int .u64 0]] W6 fun e w' => e = .returned (.tuple #[.slice none 0 0, .int .i64 1]) ∧ Ext W6 w' := (save_any snN _ _ _ W6 hin (by decide)).mono fun e w' h => by
    rw [rightN, if_neg (show ¬ (false = true) by decide)] at h
    exact h
  have HC := hid hc
  have HE6 := hid (HE4.out.trans (hE5.trans hE6))
  have HO6 := hid (HO4.out.ext (hE5.trans hE6))
  have HB6 := hid ((hE5.trans hE6).obj HB4.out)
  clear hc hin hb6 hE5 hE6 HE4 HO4 HB4
  go_wp2_with (rw [hW6])
  refine HC.out.mono ?_
  rintro e w7 ⟨rfl, hx⟩
  have HE7 := hid (HE6.out.trans hx)
  have HO7 := hid (HO6.out.ext hx)
  have HB7 := hid (hx.obj HB6.out)
  clear hx HC HE6 HO6 HB6 hW6
  have HC := hid (owns13_any _ rcA w7 HO7.out.rcs (by decide))
  go_wp2_with fail
  refine HC.out.mono ?_
  rintro e w8 ⟨⟨u8, rfl, hu⟩, hx⟩
  have HU8 := hid hu
  have HE8 := hid (HE7.out.trans hx)
  have HB8 := hid (hx.obj HB7.out)
  obtain ⟨uo, uc, rfl⟩ : ∃ ao cap, u8 = .slice ao 2 cap := by
    obtain ⟨m, hm, hr, -⟩ := hu
    obtain ⟨ao, cap, rfl, -⟩ := hr.open
    have : m.length = 2 := by have := congrArg List.length hm; simpa [rcA] using this
    rw [this]; exact ⟨_, _, rfl⟩
  clear hu hx HC HO7 HE7 HB7
  obtain ⟨W9, hW9⟩ : ∃ W, w8.alloc (.cells #[.int .u64 0, .int .u64 0, .int .u64 0, .int .u64 0, .int .u64 0, .int .u64 4, .int .u64 5] 22 (0, 0)) = W := ⟨_, rfl⟩
  have hE9 := Ext.alloc w8 (.cells #[.int .u64 0, .int .u64 0, .int .u64 0, .int .u64 0, .int .u64 0, .int .u64 4, .int .u64 5] 22 (0, 0))
  have hv9 : Vec uv (w8.alloc (.cells #[.int .u64 0, .int .u64 0, .int .u64 0, .int .u64 0, .int .u64 0, .int .u64 4, .int .u64 5] 22 (0, 0))) (.slice (some ⟨w8.heap.size, 0, none⟩) 7 7) [0, 0, 0, 0, 0, 4, 5] := (owv_lit w8 0 22 [0, 0, 0, 0, 0, 4, 5] _ rfl 7 rfl (Nat.zero_le _) (by simp [maxLen])).vec
  rw [hW9] at hE9 hv9
  obtain ⟨W10, hW10⟩ : ∃ W, W9.alloc (.cells #[.int .u64 1] 22 (0, 0)) = W := ⟨_, rfl⟩
  have hE10 := Ext.alloc W9 (.cells #[.int .u64 1] 22 (0, 0))
  have hv10 : Vec uv (W9.alloc (.cells #[.int .u64 1] 22 (0, 0))) (.slice (some ⟨W9.heap.size, 0, none⟩) 1 1) [1] := (owv_lit W9 0 22 [1] _ rfl 1 rfl (Nat.zero_le _) (by simp [maxLen])).vec
  rw [hW10] at hE10 hv10
  obtain ⟨W11, hW11⟩ : ∃ W, W10.alloc (.cells #[.int .i64 13, .slice (some ⟨w8.heap.size, 0, none⟩) 7 7, .string ⟨#[]⟩, .int .i64 17, .slice (some ⟨W9.heap.size, 0, none⟩) 1 1, .string ⟨#[]⟩] 71 (0, 0)) = W := ⟨_, rfl⟩
  have hE11 := Ext.alloc W10 (.cells #[.int .i64 13, .slice (some ⟨w8.heap.size, 0, none⟩) 7 7, .string ⟨#[]⟩, .int .i64 17, .slice (some ⟨W9.heap.size, 0, none⟩) 1 1, .string ⟨#[]⟩] 71 (0, 0))
  have hb11 := heap_alloc_new W10 (.cells #[.int .i64 13, .slice (some ⟨w8.heap.size, 0, none⟩) 7 7, .string ⟨#[]⟩, .int .i64 17, .slice (some ⟨W9.heap.size, 0, none⟩) 1 1, .string ⟨#[]⟩] 71 (0, 0))
  rw [hW11] at hE11 hb11
  have hr11 : Rcs W11 (.slice (some ⟨W10.heap.size, 0, none⟩) 2 2) rcA := ⟨[(⟨13, [0, 0, 0, 0, 0, 4, 5], []⟩, .slice (some ⟨w8.heap.size, 0, none⟩) 7 7), (⟨17, [1], []⟩, .slice (some ⟨W9.heap.size, 0, none⟩) 1 1)], rfl,
    ⟨fun _ _ => rfl, blk_slk (k := 2) (cs := [.int .i64 13, .slice (some ⟨w8.heap.size, 0, none⟩) 7 7, .string ⟨#[]⟩, .int .i64 17, .slice (some ⟨W9.heap.size, 0, none⟩) 1 1, .string ⟨#[]⟩]) hb11 rfl (by decide)⟩, fun p hp => by
      rcases List.mem_cons.1 hp with rfl | hp
      · exact hv9.ext (hE10.trans hE11)
      · rcases List.mem_singleton.1 hp with rfl
        exact hv10.ext hE11⟩
  have HC := hid (rsames5_any _ _ rcA rcA W11 (HU8.out.ext (hE9.trans (hE10.trans hE11))) hr11 (by decide) (by decide))
  rw [recsame_eq rfl] at HC
  have HE11 := hid (HE8.out.trans (hE9.trans (hE10.trans hE11)))
  have HB11 := hid ((hE9.trans (hE10.trans hE11)).obj HB8.out)
  clear hE9 hE10 hE11 hv9 hv10 hb11 hr11 HU8 HE8 HB8
  go_wp2_with (first | rw [hW9] | rw [hW10] | rw [hW11])
  refine HC.out.mono ?_
  rintro e w12 ⟨rfl, hx⟩
  have HE12 := hid (HE11.out.trans hx)
  obtain ⟨⟨b0, b1, b2, b3, b4, b5, b6, b7, b8, b9⟩, -⟩ := blk10 (hx.obj HB11.out)
  clear hx HC HE11 HB11 hW9 hW10 hW11
  obtain ⟨W13, hW13⟩ : ∃ W, w12.alloc (.cells #[.int .u64 0, .int .i64 0, .int .i64 0, .int .i64 0, .int .u64 0, .int .u64 0, .int .u64 0, .int .u64 3, .int .u64 0, .int .i64 0, .int .u64 0, .int .i64 0, .int .i64 0, .int .i64 0, .int .u64 0, .int .u64 0, .int .u64 0, .int .u64 1, .int .u64 0, .int .i64 0] 69 (0, 0)) = W := ⟨_, rfl⟩
  have hE13 := Ext.alloc w12 (.cells #[.int .u64 0, .int .i64 0, .int .i64 0, .int .i64 0, .int .u64 0, .int .u64 0, .int .u64 0, .int .u64 3, .int .u64 0, .int .i64 0, .int .u64 0, .int .i64 0, .int .i64 0, .int .i64 0, .int .u64 0, .int .u64 0, .int .u64 0, .int .u64 1, .int .u64 0, .int .i64 0] 69 (0, 0))
  have hb13 := heap_alloc_new w12 (.cells #[.int .u64 0, .int .i64 0, .int .i64 0, .int .i64 0, .int .u64 0, .int .u64 0, .int .u64 0, .int .u64 3, .int .u64 0, .int .i64 0, .int .u64 0, .int .i64 0, .int .i64 0, .int .i64 0, .int .u64 0, .int .u64 0, .int .u64 0, .int .u64 1, .int .u64 0, .int .i64 0] 69 (0, 0))
  rw [hW13] at hE13 hb13
  have hc := segs_any _ [it3, it1] W13 ⟨fun _ _ => rfl, blk_slk (k := 2) (cs := itcells it3 ++ itcells it1) hb13 rfl (by decide)⟩ (by decide)
  rw [segs31] at hc
  have HC := hid hc
  have HE13 := hid (HE12.out.trans hE13)
  clear hc hE13 hb13 HE12
  go_wp2_with (rw [hW13])
  refine HC.out.mono ?_
  rintro e w14 ⟨⟨u, rfl, hu⟩, hx⟩
  obtain ⟨so, sc, rfl, -⟩ := hu.open
  have HE14 := hid (HE13.out.trans hx)
  have HU := hid hu
  clear hu hx HC HE13 hW13 b0 b1 b2 b3 b4 b5 b6 b7 b8 b9
  obtain ⟨W15, hW15⟩ : ∃ W, w14.alloc (.cells #[.int .u64 1, .int .u64 3] 22 (0, 0)) = W := ⟨_, rfl⟩
  have hE15 := Ext.alloc w14 (.cells #[.int .u64 1, .int .u64 3] 22 (0, 0))
  have hv15 : Vec uv (w14.alloc (.cells #[.int .u64 1, .int .u64 3] 22 (0, 0))) (.slice (some ⟨w14.heap.size, 0, none⟩) 2 2) [1, 3] := (owv_lit w14 0 22 [1, 3] _ rfl 2 rfl (Nat.zero_le _) (by simp [maxLen])).vec
  rw [hW15] at hE15 hv15
  have hc := rsame64_any _ _ [1, 3] [1, 3] W15 (HU.out.ext hE15) hv15
  rw [show (([1, 3] : List UInt64) == [1, 3]) = true from rfl] at hc
  have HC := hid hc
  have HE15 := hid (HE14.out.trans hE15)
  clear hc hE15 hv15 HE14 HU
  go_wp2_with (rw [hW15])
  refine HC.out.mono ?_
  rintro e w16 ⟨rfl, hx⟩
  have HE16 := hid (HE15.out.trans hx)
  clear hx HC HE15 hW15
  go_wp2
  go_returns
  exact ⟨rfl, HE16.out⟩
end Go.Proofs.YtpbmbjdiilnaeaaDoor

set_option linter.unusedSimpArgs false
set_option linter.unusedVariables false
set_option maxRecDepth 100000
namespace Go.Proofs.YtpbmbjdiilnaeaaDoor
open Go Go.RowKit Go.Tum Go.ChangeMaps Go.Sort

theorem ddU_mem {x : UInt64} : ∀ l : List UInt64, x ∈ ddU l ↔ x ∈ l
  | [] => Iff.rfl
  | [a] => Iff.rfl
  | a :: b :: r => by
    have ih := ddU_mem (x := x) (b :: r)
    simp only [ddU]
    by_cases h : a = b
    · rw [if_pos h, ih, h]; simp
    · rw [if_neg h, List.mem_cons, ih, List.mem_cons (a := x) (b := a)]
theorem ddU_lt : ∀ l : List UInt64, l.Pairwise (· ≤ ·) → (ddU l).Pairwise (· < ·)
  | [], _ => List.Pairwise.nil
  | [a], _ => by simp [ddU]
  | a :: b :: r, h => by
    have h2 := List.pairwise_cons.1 h
    have ih := ddU_lt (b :: r) h2.2
    simp only [ddU]
    by_cases e : a = b
    · rw [if_pos e]; exact ih
    · rw [if_neg e]
      refine List.pairwise_cons.2 ⟨fun x hx => ?_, ih⟩
      rw [ddU_mem] at hx
      have h3 := h2.1 b (by simp)
      have h5 : b ≤ x := by
        rcases List.mem_cons.1 hx with rfl | hx
        · exact UInt64.le_refl _
        · exact (List.pairwise_cons.1 h2.2).1 x hx
      have h6 : a.toNat ≠ b.toNat := fun k => e (UInt64.toNat_inj.1 k)
      rw [UInt64.lt_iff_toNat_lt]
      rw [UInt64.le_iff_toNat_le] at h3 h5
      omega
theorem ddU_pos : ∀ l : List UInt64, 0 < l.length → 0 < (ddU l).length
  | [], h => h
  | [_], _ => Nat.one_pos
  | a :: b :: r, _ => by
    have ih := ddU_pos (b :: r) (by simp)
    simp only [ddU]
    split
    · exact ih
    · simp
theorem segsOf_any (l : List Itm) (sg : UInt64) : (segsOf l).any (· == sg) = l.any (fun o => o.seg == sg) := by
  rw [Bool.eq_iff_iff]
  simp only [List.any_eq_true, beq_iff_eq, segsOf]
  constructor
  · rintro ⟨x, hx, rfl⟩
    rw [ddU_mem, List.mem_mergeSort, List.mem_map] at hx
    exact hx
  · rintro ⟨o, ho, rfl⟩
    exact ⟨_, by rw [ddU_mem, List.mem_mergeSort]; exact List.mem_map.2 ⟨o, ho, rfl⟩, rfl⟩
theorem segsOf_len (l : List Itm) : (segsOf l).length ≤ l.length := by
  have := ddU_len ((l.map (·.seg)).mergeSort fun x y => decide (x ≤ y))
  rw [List.length_mergeSort, List.length_map] at this
  exact this
theorem segsOf_pos (l : List Itm) (h : 0 < l.length) : 0 < (segsOf l).length := ddU_pos _ (by rw [List.length_mergeSort, List.length_map]; exact h)
theorem segsOf_lt (l : List Itm) (i : Nat) (h : i + 1 < (segsOf l).length) : (segsOf l)[i].toNat < (segsOf l)[i + 1].toNat := by
  have hp : (segsOf l).Pairwise (· < ·) := ddU_lt _ (by
    have := List.pairwise_mergeSort (le := fun x y : UInt64 => decide (x ≤ y)) (fun a b c h1 h2 => by simp only [decide_eq_true_eq] at *; exact UInt64.le_trans h1 h2) (fun a b => by simp only [Bool.or_eq_true, decide_eq_true_eq]; exact UInt64.le_total a b) (l.map (·.seg))
    exact this.imp (fun h => by simpa using h))
  exact UInt64.lt_iff_toNat_lt.1 (List.pairwise_iff_getElem.1 hp i (i + 1) (by omega) h (by omega))
theorem any_succ {α : Type} (p : α → Bool) (l : List α) (k : Nat) (h : k < l.length) : (l.take (k + 1)).any p = ((l.take k).any p || p l[k]) := by
  rw [List.take_succ_eq_append_getElem h, List.any_append]; simp

set_option maxHeartbeats 4000000 in
theorem snapSegs_law (v : Value) (l : List Itm) (sg : UInt64) (w : World) (hr : Its w v l)
    (hca : Calls Tryd.prog 6 #[] w fun e w' => e = .returned (.bool true) ∧ Ext w w') :
    Calls Tryd.prog 5 #[v, uv sg] w fun e w' => e = .returned (.bool true) ∧ Ext w w' := by
  have HR := hid hr
  obtain ⟨ao, cap, rfl, hle, hmx, hnn, hcell⟩ := hr.open
  have HC := hid hcell
  have HNN := hid hnn
  obtain ⟨n, hn⟩ : ∃ n, l.length = n := ⟨_, rfl⟩
  rw [hn] at hle HR
  rw [hn]
  have HN := hid hn
  have HCA := hid hca
  clear hr hnn hcell hn hca
  go_enter Tryd.func5, Tryd.ntmps5
  go_wp2_with fail
  refine HCA.out.mono ?_
  rintro e w1 ⟨rfl, hx⟩
  have HE1 := hid hx
  clear hx HCA
  by_cases hg : 220 < n
  · have hd : decide ((220 : Int) < (n : Int)) = true := by simp; omega
    clear hg
    go_wp2
    go_returns
    exact ⟨rfl, HE1.out⟩
  have hd : decide ((220 : Int) < (n : Int)) = false := by simp; omega
  have hdp : (220 < n) = False := by simp; omega
  have hn220 : n ≤ 220 := by omega
  clear hg
  have HCS := hid (segs_any _ l w1 (HR.out.ext HE1.out) (by rw [HN.out]; omega))
  go_wp2_with fail
  clear hd hdp
  refine HCS.out.mono ?_
  rintro e w2 ⟨⟨u, rfl, hu⟩, hx⟩
  have HE2 := hid (HE1.out.trans hx)
  obtain ⟨uo, uc, rfl, hule, humx, hunn, hucell⟩ := hu.open
  have HUC := hid hucell
  have HUN := hid hunn
  obtain ⟨B, hB⟩ : ∃ b, l.any (fun o => o.seg == sg) = b := ⟨_, rfl⟩
  have HB1 := hid hB
  have HB2 : Hid ((segsOf l).any (· == sg) = B) := hid (by rw [segsOf_any, hB])
  have hlen := segsOf_len l
  have hpos := segsOf_pos l
  obtain ⟨S, hS⟩ : ∃ S, segsOf l = S := ⟨_, rfl⟩
  have HLT : Hid (∀ i (h : i + 1 < S.length), S[i].toNat < S[i + 1].toNat) := hid (by subst hS; exact segsOf_lt l)
  rw [hS] at HUC HB2 hlen hpos hule
  rw [hS]
  obtain ⟨m, hm⟩ : ∃ m, S.length = m := ⟨_, rfl⟩
  rw [hm] at hlen hpos hule
  rw [HN.out] at hlen hpos
  rw [hm]
  have HM := hid hm
  clear hu hx HE1 HCS hucell hunn hB hS hm
  go_wp2
  go_loopw [6, 21] (fun sb i wr => ∃ (k : Nat) (b : Bool), k ≤ n ∧ i = .int .i64 (k : Int) ∧ sb = .bool b ∧ Hid ((l.take k).any (fun o => o.seg == sg) = b) ∧ Hid (Ext w2 wr)) (fun _ i _ => n - (intOf i).toNat)
  case atStart => exact ⟨0, false, Nat.zero_le _, rfl, rfl, hid rfl, hid (Ext.refl _)⟩
  case round =>
    obtain ⟨k, b, hk, rfl, rfl, HB, HE⟩ := hrel
    by_cases hlt : k < n
    · have hkj : decide ((k : Int) < (n : Int)) = true := by simp; omega
      have hkj2 : (k : Int) < (n : Int) := by omega
      obtain ⟨g, rfl⟩ := HNN.out (by omega)
      have hltL : k < l.length := by rw [HN.out]; exact hlt
      have hc := fun j u h => (HE2.out.trans HE.out).cell (HC.out g rfl k hltL j u h)
      have HNX := hid (any_succ (fun o : Itm => o.seg == sg) l k hltL)
      obtain ⟨o, ho⟩ : ∃ o, l[k]'hltL = o := ⟨_, rfl⟩
      rw [ho] at hc HNX
      obtain ⟨id, lane, st, cnt, due, tok, turn, seg, ps, size⟩ := o
      have k0 := cell_first (hc 0 _ rfl)
      have k1 := cell_next (hc 1 _ rfl) (by decide)
      have k2 := cell_next (hc 2 _ rfl) (by decide)
      have k3 := cell_next (hc 3 _ rfl) (by decide)
      have k4 := cell_next (hc 4 _ rfl) (by decide)
      have k5 := cell_next (hc 5 _ rfl) (by decide)
      have k6 := cell_next (hc 6 _ rfl) (by decide)
      have k7 := cell_next (hc 7 _ rfl) (by decide)
      have k8 := cell_next (hc 8 _ rfl) (by decide)
      have k9 := cell_next (hc 9 _ rfl) (by decide)
      obtain ⟨W1, hW1⟩ : ∃ W, wr.alloc (.cells #[uv id, .int .i64 lane, .int .i64 st, .int .i64 cnt, uv due, uv tok, uv turn, uv seg, uv ps, .int .i64 size] 69 (0, 0)) = W := ⟨_, rfl⟩
      have hE1 := Ext.alloc wr (.cells #[uv id, .int .i64 lane, .int .i64 st, .int .i64 cnt, uv due, uv tok, uv turn, uv seg, uv ps, .int .i64 size] 69 (0, 0))
      have hb1 := heap_alloc_new wr (.cells #[uv id, .int .i64 lane, .int .i64 st, .int .i64 cnt, uv due, uv tok, uv turn, uv seg, uv ps, .int .i64 size] 69 (0, 0))
      rw [hW1] at hE1 hb1
      obtain ⟨⟨m0, m1, m2, m3, m4, m5, m6, m7, m8, m9⟩, mf⟩ := blk10 hb1
      have HX1 := hid (HE.out.trans hE1)
      have HLK := hid hlt
      have hwk : IntKind.i64.wrap ((k : Int) + 1) = ((k + 1 : Nat) : Int) := i64v _ (by omega) (by omega)
      clear hc ho hE1 hb1 hltL hlt HE
      have HNX2 : Hid ((l.take (k + 1)).any (fun o => o.seg == sg) = (b || seg == sg)) := hid (by rw [HNX.out, HB.out])
      clear HNX
      have HSS : Hid (((seg.toNat : Int) == (sg.toNat : Int)) = (seg == sg)) := hid (by
        rw [Bool.eq_iff_iff]; simp only [beq_iff_eq]
        exact ⟨fun h => UInt64.toNat_inj.1 (by omega), fun h => by rw [h]⟩)
      cases b
      case true =>
        go_wp2_with rw [hW1]
        go_roundw
        case rel => exact ⟨k + 1, true, HLK.out, by first | rfl | go_num, rfl, hid (by rw [HNX2.out]; rfl), HX1⟩
        case measure => have := HLK.out; simp [intOf]; omega
      case false =>
        obtain ⟨b2, hb2⟩ : ∃ b, (seg == sg) = b := ⟨_, rfl⟩
        have hs := HSS.out
        rw [hb2] at hs HNX2
        clear hb2 HSS
        go_wp2_with rw [hW1]
        go_roundw
        case rel => exact ⟨k + 1, b2, HLK.out, by first | rfl | go_num, by first | rfl | simp [hs], hid (by rw [HNX2.out]; rfl), HX1⟩
        case measure => have := HLK.out; simp [intOf]; omega
    have hkf : decide ((k : Int) < (n : Int)) = false := by simp; omega
    have hkf2 : (k < n) = False := by simp; omega
    have hbB : b = B := by rw [← HB.out, List.take_of_length_le (by rw [HN.out]; omega), HB1.out]
    subst hbB
    clear hlt hk HB HC HNN HR
    go_wp2
    clear hkf hkf2
    go_loopw [7, 36] (fun sb i wr => ∃ (k : Nat) (b' : Bool), k ≤ m ∧ i = .int .i64 (k : Int) ∧ sb = .bool b' ∧ Hid ((S.take k).any (· == sg) = b') ∧ Hid (Ext w2 wr)) (fun _ i _ => m - (intOf i).toNat)
    case atStart => exact ⟨0, false, Nat.zero_le _, rfl, rfl, hid rfl, HE⟩
    case round =>
      rename_i wr0
      clear HE
      obtain ⟨k, b', hk, rfl, rfl, HB, HE⟩ := hrel
      by_cases hlt : k < m
      · have hkj : decide ((k : Int) < (m : Int)) = true := by simp; omega
        have hkj2 : (k : Int) < (m : Int) := by omega
        obtain ⟨g, rfl⟩ := HUN.out (by omega)
        have hltS : k < S.length := by rw [HM.out]; exact hlt
        have c0 := HE.out.cell (HUC.out g rfl k hltS)
        have HNX := hid (any_succ (fun x : UInt64 => x == sg) S k hltS)
        have HLK := hid hlt
        have hwk : IntKind.i64.wrap ((k : Int) + 1) = ((k + 1 : Nat) : Int) := i64v _ (by omega) (by omega)
        have HPV : Hid (∀ q, q + 1 = k → ∃ y : UInt64, ∃ hq : q < S.length, S[q] = y ∧ decide (((S[k]'hltS).toNat : Int) ≤ (y.toNat : Int)) = false) := hid (fun q hq => ⟨_, by omega, rfl, by
          subst hq
          have := HLT.out q hltS
          simp; omega⟩)
        obtain ⟨x, hx⟩ : ∃ x, S[k]'hltS = x := ⟨_, rfl⟩
        rw [hx] at c0 HNX HPV
        have HNX2 : Hid ((S.take (k + 1)).any (· == sg) = (b' || x == sg)) := hid (by rw [HNX.out, HB.out])
        have HSS : Hid (((x.toNat : Int) == (sg.toNat : Int)) = (x == sg)) := hid (by
          rw [Bool.eq_iff_iff]; simp only [beq_iff_eq]
          exact ⟨fun h => UInt64.toNat_inj.1 (by omega), fun h => by rw [h]⟩)
        clear HNX hx hltS hlt
        rcases Nat.eq_zero_or_pos k with hk0 | hk0
        · have hgt : decide ((0 : Int) < (k : Int)) = false := by simp; omega
          have hgt2 : (0 < k) = False := by simp; omega
          clear HPV hk0
          cases b'
          case true =>
            go_wp2
            go_roundw
            case rel => exact ⟨k + 1, true, HLK.out, by first | rfl | go_num, by first | rfl | simp [*], hid (by rw [HNX2.out]; rfl), HE⟩
            case measure => have := HLK.out; simp [intOf]; omega
          case false =>
            obtain ⟨b2, hb2⟩ : ∃ b, (x == sg) = b := ⟨_, rfl⟩
            have hs := HSS.out
            rw [hb2] at hs HNX2
            clear hb2 HSS
            go_wp2
            go_roundw
            case rel => exact ⟨k + 1, b2, HLK.out, by first | rfl | go_num, by first | rfl | simp [*], hid (by rw [HNX2.out]; rfl), HE⟩
            case measure => have := HLK.out; simp [intOf]; omega
        · obtain ⟨q, hq⟩ : ∃ q, q + 1 = k := ⟨k - 1, by omega⟩
          obtain ⟨y, hqS, hy, hle2⟩ := HPV.out q hq
          have c1 := HE.out.cell (HUC.out g rfl q hqS)
          rw [hy] at c1
          have hgt : decide ((0 : Int) < (k : Int)) = true := by simp; omega
          have hgt2 : (0 : Int) < (k : Int) := by omega
          have hwq : IntKind.i64.wrap ((k : Int) - 1) = (q : Int) := i64v _ (by omega) (by omega)
          have hqm : (q : Int) < (m : Int) := by omega
          have hle3 : (x.toNat ≤ y.toNat) = False := by simpa using hle2
          clear hy hqS HPV hq
          cases b'
          case true =>
            go_wp2
            go_roundw
            case rel => exact ⟨k + 1, true, HLK.out, by first | rfl | go_num, by first | rfl | simp [*], hid (by rw [HNX2.out]; rfl), HE⟩
            case measure => have := HLK.out; simp [intOf]; omega
          case false =>
            obtain ⟨b2, hb2⟩ : ∃ b, (x == sg) = b := ⟨_, rfl⟩
            have hs := HSS.out
            rw [hb2] at hs HNX2
            clear hb2 HSS
            go_wp2
            go_roundw
            case rel => exact ⟨k + 1, b2, HLK.out, by first | rfl | go_num, by first | rfl | simp [*], hid (by rw [HNX2.out]; rfl), HE⟩
            case measure => have := HLK.out; simp [intOf]; omega
      have hkf : decide ((k : Int) < (m : Int)) = false := by simp; omega
      have hkf2 : (k < m) = False := by simp; omega
      have hbB : b' = b := by rw [← HB.out, List.take_of_length_le (by rw [HM.out]; omega), HB2.out]
      subst hbB
      have hle9 : decide ((m : Int) ≤ (n : Int)) = true := by simp; omega
      have hle9p : m ≤ n := hlen
      have HEE := hid (HE2.out.trans HE.out)
      have hbb : (b' == b') = true := by cases b' <;> rfl
      rcases Nat.eq_zero_or_pos n with hn0 | hn0
      · subst hn0
        clear hlt hk HB HE
        go_wp2
        go_returns
        exact ⟨by first | rfl | simp [*], HEE.out⟩
      · have hz : ((n : Int) == 0) = false := by rw [beq_eq_false_iff_ne]; omega
        have hzp : (n = 0) = False := by simp; omega
        have hm0 : decide ((0 : Int) < (m : Int)) = true := by have := hpos hn0; simp; omega
        have hm0p : 0 < m := hpos hn0
        clear hlt hk HB HE
        go_wp2
        go_returns
        exact ⟨by first | rfl | simp [*], HEE.out⟩
end Go.Proofs.YtpbmbjdiilnaeaaDoor

namespace Go.Proofs.YtpbmbjdiilnaeaaDoor
open Go Go.RowKit Go.Tum
theorem snapSegs_law2 (v : Value) (l : List Itm) (sg : UInt64) (w : World) (hr : Its w v l) (ht : Tab w) :
    Calls Tryd.prog 5 #[v, uv sg] w fun e w' => e = .returned (.bool true) ∧ Ext w w' := snapSegs_law v l sg w hr (awake13_any w ht)
end Go.Proofs.YtpbmbjdiilnaeaaDoor

